package master

import (
	"math/rand"
	"slices"
	"strconv"
	"testing"

	"lamplight/api"
)

// plain is a master by the document's words, one behind the other.
type plain struct {
	tries, missed, state, epoch int
	session, sends, hears       uint8
	commands                    []string
}

func (p *plain) next() api.Frame {
	if p.state != Up {
		return opening(p.session)
	}
	if len(p.commands) == 0 {
		return polling(p.session, p.sends, p.hears)
	}
	return data(p.session, p.sends, p.hears, p.commands[0])
}

func (p *plain) send(text string) api.Errno {
	if len(text) == 0 || len(text) > 24 {
		return api.ErrArg
	}
	if p.state != Up {
		return api.ErrState
	}
	if len(p.commands) == 8 {
		return api.ErrFull
	}
	p.commands = append(p.commands, text)
	return api.OK
}

func (p *plain) closes() {
	p.state = Closed
	p.commands = nil
	if p.session == 255 {
		p.session = 1
	} else {
		p.session++
	}
}

func (p *plain) heard(f api.Frame) (string, bool) {
	if f.Addr != addr || f.Kind != api.Opened && f.Kind != api.Reply {
		return "", false
	}
	if p.state != Up && !(f.Kind == api.Opened && f.Session == p.session) {
		return "", false
	}
	p.missed = 0
	told := ""
	if p.state != Up {
		p.state = Up
		p.epoch++
		p.sends, p.hears = 0, 0
	} else if f.Session != p.session {
		p.closes()
	} else if f.Kind == api.Reply {
		if len(p.commands) > 0 && f.Ack != p.sends {
			p.commands = p.commands[1:]
			p.sends = 1 - p.sends
		}
		if len(f.B) > 0 && f.Seq == p.hears {
			p.hears = 1 - p.hears
			told = string(f.B)
		}
	}
	return told, true
}

func (p *plain) misses() bool {
	p.missed++
	if p.missed != p.tries {
		return false
	}
	was := p.state
	p.closes()
	p.state, p.missed = Dead, 0
	return was != Dead
}

// anyFrame is mostly one that concerns the master, and now and then not.
func anyFrame(r *rand.Rand, session uint8) api.Frame {
	f := reply(session, uint8(r.Intn(2)), uint8(r.Intn(2)), strconv.Itoa(r.Intn(100)))
	switch r.Intn(20) {
	case 0:
		f.Addr = uint8(r.Intn(33))
	case 1:
		f.Kind = uint8(r.Intn(7))
	case 2:
		f.Session = uint8(r.Intn(256))
	case 3:
		f.Seq, f.Ack = uint8(r.Intn(256)), uint8(r.Intn(256))
	case 4, 5, 6, 7, 8:
		f.Kind = api.Opened
	case 9, 10, 11:
		f.B = nil
	}
	return f
}

func TestLongRunsAgainstAPlainMaster(t *testing.T) {
	for seed := range int64(60) {
		r := rand.New(rand.NewSource(seed))
		tries := r.Intn(5)
		m, p := New(addr, tries), &plain{tries: max(tries, 1), session: 1}
		for range 3000 {
			switch r.Intn(4) {
			case 0:
				text := string(make([]byte, r.Intn(27)))
				if got, want := m.Send([]byte(text)), p.send(text); got != want {
					t.Fatalf("seed %d: Send(%q): %v; want %v", seed, text, got, want)
				}
			case 1, 2:
				f := anyFrame(r, p.session)
				got, is := m.Heard(f)
				want, ok := p.heard(f)
				if string(got) != want || is != ok {
					t.Fatalf("seed %d: Heard(%v): %q, %v; want %q, %v", seed, f, got, is, want, ok)
				}
			case 3:
				if got, want := m.Missed(), p.misses(); got != want {
					t.Fatalf("seed %d: Missed: %v; want %v", seed, got, want)
				}
			}
			wantState(t, m, p.state, p.epoch, len(p.commands))
			wantNext(t, m, p.next())
		}
	}
}

// farEnd answers as a module would: it takes a command once, and tells one
// thing after another, each till it was heard.
type farEnd struct {
	session, tells, awaits uint8
	told                   int
	taken                  []string
}

func (e *farEnd) answer(f api.Frame) api.Frame {
	if f.Kind == api.Open {
		e.session, e.tells, e.awaits = f.Session, 0, 0
		return opened(f.Session)
	}
	if f.Session != e.session || e.session == 0 {
		return reply(e.session, 0, 0, "")
	}
	if f.Ack != e.tells {
		e.tells = 1 - e.tells
		e.told++
	}
	if f.Kind == api.Data && f.Seq == e.awaits {
		e.taken = append(e.taken, string(f.B))
		e.awaits = 1 - e.awaits
	}
	return reply(e.session, e.tells, e.awaits, strconv.Itoa(e.told))
}

// In one session each command is taken once and in order, and each thing is
// heard once and in order, whatever is lost, and whatever comes twice.
func TestALineThatLosesAndDoubles(t *testing.T) {
	for seed := range int64(40) {
		r := rand.New(rand.NewSource(seed))
		m, e := New(addr, 1000), &farEnd{}
		seqs := map[string]uint8{}
		var sent, heard []string
		for i := range 2000 {
			if text := strconv.Itoa(i); r.Intn(3) == 0 && m.Send([]byte(text)) == api.OK {
				sent = append(sent, text)
			}
			f := m.Next()
			if seq, ok := seqs[string(f.B)]; ok && f.Kind == api.Data && seq != f.Seq {
				t.Fatalf("seed %d: %q is sent with %d, and then with %d", seed, f.B, seq, f.Seq)
			}
			seqs[string(f.B)] = f.Seq
			var answers []api.Frame
			for range r.Intn(3) {
				answers = append(answers, e.answer(f))
			}
			came := false
			for _, a := range answers {
				for range r.Intn(3) {
					b, ok := m.Heard(a)
					came = came || ok
					if len(b) > 0 {
						heard = append(heard, string(b))
					}
				}
			}
			if !came {
				m.Missed()
			}
		}
		wantLine(t, m, e, sent, heard)
	}
}

func wantLine(t *testing.T, m *Master, e *farEnd, sent, heard []string) {
	t.Helper()
	if m.State() != Up || m.Epoch() != 1 {
		t.Fatalf("state %d, epoch %d", m.State(), m.Epoch())
	}
	// The first that waits may have been taken, and its answer lost.
	done := len(sent) - m.Len()
	if n := len(e.taken); n != done && n != done+1 || !slices.Equal(e.taken, sent[:n]) {
		t.Fatalf("taken %v; sent %v, of which %d wait", e.taken, sent, m.Len())
	}
	for i, text := range heard {
		if text != strconv.Itoa(i) {
			t.Fatalf("heard %q as number %d", text, i)
		}
	}
	if n := len(heard); n != e.told && n != e.told+1 || len(e.taken) < 100 || n < 100 {
		t.Fatalf("heard %d, told %d, taken %d", n, e.told, len(e.taken))
	}
}
