package slave

// none is a session that is none: whoever has it was opened by nobody yet.
const none = 0

// term is what lasts as long as a session: the session, and the bits by which
// what comes again in it is told from what comes next.
type term struct {
	session uint8
	tells   uint8 // of what it tells
	awaits  uint8 // of which command is next
}

// Session is the session that lasts, or 0, if none does (H1).
func (t *term) Session() uint8 { return t.session }

func (t *term) begin(session uint8) { *t = term{session: session} }

func (t *term) lasts(session uint8) bool {
	return t.session != none && session == t.session
}

func (t *term) turnTells() { t.tells ^= 1 }

func (t *term) turnAwaits() { t.awaits ^= 1 }
