package module

import (
	"slices"

	"lamplight/api"
	"lamplight/octets"
)

// size is how many bytes a command has, and an event.
const size = 5

// words are what commands and events are made of alike, so that both have the
// same bytes.
type words struct {
	Kind  uint8
	Token uint16
	Qty   uint16
}

// CommandBytes is a command as bytes (K1).
func CommandBytes(c api.Command) []byte {
	return words(c).bytes()
}

// ParseCommand is the command of bytes, or what is wrong with them (K1).
func ParseCommand(b []byte) (api.Command, api.Errno) {
	w, err := parse(b, api.Light, api.Clear)
	return api.Command(w), err
}

// EventBytes is an event as bytes (K1).
func EventBytes(e api.Event) []byte {
	return words(e).bytes()
}

// ParseEvent is the event of bytes, or what is wrong with them (K1).
func ParseEvent(b []byte) (api.Event, api.Errno) {
	w, err := parse(b, api.Confirm, api.Short)
	return api.Event(w), err
}

func (w words) bytes() []byte {
	return new(octets.Writer).U8(w.Kind).U16(w.Token).U16(w.Qty).Done()
}

// parse takes words of one of these kinds. As many bytes as it asks for are
// there, so the reader has nothing to say against it.
func parse(b []byte, kinds ...uint8) (words, api.Errno) {
	switch {
	case len(b) < size:
		return words{}, api.ErrShort
	case len(b) > size || !slices.Contains(kinds, b[0]):
		return words{}, api.ErrForm
	}
	r := octets.Read(b)
	kind, _ := r.U8()
	token, _ := r.U16()
	qty, _ := r.U16()
	return words{Kind: kind, Token: token, Qty: qty}, api.OK
}
