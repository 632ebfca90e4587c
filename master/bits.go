package master

// bits say which of two things that follow each other one is, so that what
// comes again is told from what comes next. They begin anew with an epoch.
type bits struct {
	sent  uint8 // of what it sends
	heard uint8 // of what is next to be heard
}

func (b *bits) turnSent() { b.sent ^= 1 }

func (b *bits) turnHeard() { b.heard ^= 1 }

func (b *bits) begin() { *b = bits{} }
