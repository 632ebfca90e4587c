package module

import (
	"lamplight/api"
	"lamplight/slave"
)

// end is a module's end of its line. Module does not embed it, so that nobody
// who has a module offers anything past its display.
type end struct {
	slave.Slave
}

func newEnd(addr uint8) end {
	return end{*slave.New(addr)}
}

// tell says whether there was room for the event.
func (x *end) tell(e api.Event) bool {
	return x.Offer(EventBytes(e)) == api.OK
}
