package slave

import (
	"math/rand"
	"strconv"
	"testing"

	"lamplight/api"
)

// plain is a slave by the document's words, one behind the other.
type plain struct {
	session, tells, next uint8
	pending              string
}

func (p *plain) offer(text string) api.Errno {
	if len(text) == 0 || len(text) > 24 {
		return api.ErrArg
	}
	if p.pending != "" {
		return api.ErrFull
	}
	p.pending = text
	return api.OK
}

func (p *plain) take(f api.Frame) (api.Frame, string, bool) {
	if f.Addr != addr || f.Kind != api.Open && f.Kind != api.Data && f.Kind != api.Poll {
		return api.Frame{}, "", false
	}
	if f.Kind == api.Open {
		p.session, p.tells, p.next = f.Session, 0, 0
		return opened(p.session), "", true
	}
	if f.Session != p.session || p.session == 0 {
		return reply(p.session, 0, 0, ""), "", true
	}
	if p.pending != "" && f.Ack != p.tells {
		p.pending = ""
		p.tells = 1 - p.tells
	}
	command := ""
	if f.Kind == api.Data && f.Seq == p.next {
		command = string(f.B)
		p.next = 1 - p.next
	}
	return reply(p.session, p.tells, p.next, p.pending), command, true
}

// anyFrame is mostly one that concerns the slave, and now and then not.
func anyFrame(r *rand.Rand, session uint8) api.Frame {
	f := data(session, uint8(r.Intn(2)), uint8(r.Intn(2)), strconv.Itoa(r.Intn(100)))
	switch r.Intn(24) {
	case 0:
		f.Addr = uint8(r.Intn(33))
	case 1:
		f.Kind = uint8(r.Intn(7))
	case 2:
		f.Session = uint8(r.Intn(256))
	case 3:
		f.Session = 0
	case 4:
		f.Seq, f.Ack = uint8(r.Intn(256)), uint8(r.Intn(256))
	case 5:
		f.Kind, f.Session = api.Open, uint8(r.Intn(256))
	case 6:
		f.Kind, f.Session = api.Open, uint8(r.Intn(2))
	case 7, 8, 9, 10, 11, 12:
		f.Kind = api.Poll
	case 13:
		f.B = nil
	}
	return f
}

func TestLongRunsAgainstAPlainSlave(t *testing.T) {
	for seed := range int64(60) {
		r := rand.New(rand.NewSource(seed))
		s, p := New(addr), &plain{}
		for range 3000 {
			switch r.Intn(4) {
			case 0:
				text := string(make([]byte, r.Intn(27)))
				if got, want := s.Offer([]byte(text)), p.offer(text); got != want {
					t.Fatalf("seed %d: Offer(%q): %v; want %v", seed, text, got, want)
				}
			case 1, 2, 3:
				f := anyFrame(r, p.session)
				a, c, is := s.Take(f)
				answer, command, ok := p.take(f)
				if !same(a, answer) || string(c) != command || is != ok {
					t.Fatalf("seed %d: Take(%v): %v, %q, %v; want %v, %q, %v", seed, f, a, c, is, answer, command, ok)
				}
			}
			if r.Intn(300) == 0 {
				s.Reset()
				*p = plain{}
			}
			wantState(t, s, state{p.session, p.tells, p.next, p.pending})
		}
	}
}
