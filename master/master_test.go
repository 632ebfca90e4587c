package master

import (
	"bytes"
	"math"
	"testing"

	"lamplight/api"
)

const addr = 5

func wantState(t *testing.T, m *Master, state, epoch, waiting int) {
	t.Helper()
	if m.State() != state || m.Epoch() != epoch || m.Len() != waiting {
		t.Fatalf("state %d, epoch %d, %d wait; want %d, %d, %d", m.State(), m.Epoch(), m.Len(), state, epoch, waiting)
	}
}

func same(f, g api.Frame) bool {
	return f.Addr == g.Addr && f.Kind == g.Kind && f.Session == g.Session &&
		f.Seq == g.Seq && f.Ack == g.Ack && bytes.Equal(f.B, g.B)
}

func wantNext(t *testing.T, m *Master, want api.Frame) {
	t.Helper()
	for range 2 { // that it was asked changes nothing
		if f := m.Next(); !same(f, want) {
			t.Fatalf("Next %v; want %v", f, want)
		}
	}
}

func wantSend(t *testing.T, m *Master, text string, want api.Errno) {
	t.Helper()
	waiting, next := m.Len(), m.Next()
	if want == api.OK {
		waiting++
	}
	if err := m.Send([]byte(text)); err != want {
		t.Fatalf("Send(%q): %v; want %v", text, err, want)
	}
	if m.Len() != waiting {
		t.Fatalf("Send(%q): %d wait; want %d", text, m.Len(), waiting)
	}
	if want != api.OK {
		wantNext(t, m, next)
	}
}

// wantHeard is of a frame that it listens to.
func wantHeard(t *testing.T, m *Master, f api.Frame, want string) {
	t.Helper()
	if b, ok := m.Heard(f); string(b) != want || !ok {
		t.Fatalf("Heard(%v): %q, %v; want %q, true", f, b, ok, want)
	}
}

// wantDeaf is of a frame that it does not listen to.
func wantDeaf(t *testing.T, m *Master, f api.Frame) {
	t.Helper()
	state, epoch, waiting, next := m.State(), m.Epoch(), m.Len(), m.Next()
	if b, ok := m.Heard(f); b != nil || ok {
		t.Fatalf("Heard(%v): %q, %v; want none, false", f, b, ok)
	}
	wantState(t, m, state, epoch, waiting)
	wantNext(t, m, next)
}

func wantMissed(t *testing.T, m *Master, answers ...bool) {
	t.Helper()
	for i, want := range answers {
		if got := m.Missed(); got != want {
			t.Fatalf("Missed, time %d: %v; want %v", i+1, got, want)
		}
	}
}

func opening(session uint8) api.Frame {
	return api.Frame{Addr: addr, Kind: api.Open, Session: session}
}

func opened(session uint8) api.Frame {
	return api.Frame{Addr: addr, Kind: api.Opened, Session: session}
}

func reply(session, seq, ack uint8, text string) api.Frame {
	return api.Frame{Addr: addr, Kind: api.Reply, Session: session, Seq: seq, Ack: ack, B: []byte(text)}
}

func data(session, seq, ack uint8, text string) api.Frame {
	return api.Frame{Addr: addr, Kind: api.Data, Session: session, Seq: seq, Ack: ack, B: []byte(text)}
}

func polling(session, seq, ack uint8) api.Frame {
	return api.Frame{Addr: addr, Kind: api.Poll, Session: session, Seq: seq, Ack: ack}
}

// up is a master that is Up for the first time, with these commands waiting.
func up(t *testing.T, tries int, commands ...string) *Master {
	t.Helper()
	m := New(addr, tries)
	wantHeard(t, m, opened(1), "")
	for _, c := range commands {
		wantSend(t, m, c, api.OK)
	}
	wantState(t, m, Up, 1, len(commands))
	return m
}

func TestStatesHaveTheirNumbers(t *testing.T) {
	if Closed != 0 || Up != 1 || Dead != 2 {
		t.Error(Closed, Up, Dead)
	}
	// They have no type of their own: a state may be held as any number.
	var small uint8 = Dead
	if small != 2 {
		t.Error(small)
	}
}

func TestNewMasterOpens(t *testing.T) {
	m := New(addr, 3)
	wantState(t, m, Closed, 0, 0)
	wantNext(t, m, opening(1))
	if m.Next().B != nil {
		t.Error(m.Next())
	}
}

func TestEachAddressIsItsOwn(t *testing.T) {
	for a := range 256 {
		m := New(uint8(a), 3)
		for _, other := range []uint8{uint8(a) + 1, uint8(a) - 1, uint8(a) ^ 128} {
			wantDeaf(t, m, api.Frame{Addr: other, Kind: api.Opened, Session: 1})
		}
		wantNext(t, m, api.Frame{Addr: uint8(a), Kind: api.Open, Session: 1})
		wantHeard(t, m, api.Frame{Addr: uint8(a), Kind: api.Opened, Session: 1}, "")
		wantNext(t, m, api.Frame{Addr: uint8(a), Kind: api.Poll, Session: 1})
		wantSend(t, m, "x", api.OK)
		wantNext(t, m, api.Frame{Addr: uint8(a), Kind: api.Data, Session: 1, B: []byte("x")})
		for _, other := range []uint8{uint8(a) + 1, uint8(a) - 1, uint8(a) ^ 128} {
			wantDeaf(t, m, api.Frame{Addr: other, Kind: api.Reply, Session: 1, Ack: 1, B: []byte("y")})
			wantDeaf(t, m, api.Frame{Addr: other, Kind: api.Reply, Session: 2})
		}
	}
}

func TestSendTakesOneTo24Bytes(t *testing.T) {
	long := "abcdefghijklmnopqrstuvwxyz"
	for n := range len(long) + 1 {
		want := api.OK
		if n == 0 || n > 24 {
			want = api.ErrArg
		}
		m := up(t, 3)
		wantSend(t, m, long[:n], want)
		if want == api.OK {
			wantNext(t, m, data(1, 0, 0, long[:n]))
		} else {
			wantNext(t, m, polling(1, 0, 0))
		}
	}
	m := up(t, 3)
	if err := m.Send(nil); err != api.ErrArg {
		t.Error(err)
	}
	if err := m.Send(make([]byte, 1000)); err != api.ErrArg {
		t.Error(err)
	}
	wantState(t, m, Up, 1, 0)
}

func TestSendWantsItUp(t *testing.T) {
	m := New(addr, 1)
	wantSend(t, m, "x", api.ErrState)
	wantHeard(t, m, opened(1), "")
	wantSend(t, m, "x", api.OK)
	wantHeard(t, m, reply(9, 0, 0, ""), "")
	wantState(t, m, Closed, 1, 0)
	wantSend(t, m, "x", api.ErrState)
	wantMissed(t, m, true)
	wantState(t, m, Dead, 1, 0)
	wantSend(t, m, "x", api.ErrState)
}

func TestOfSeveralErrorsTheFirstThatApplies(t *testing.T) {
	tooLong := string(make([]byte, 25))
	m := New(addr, 1)
	wantSend(t, m, "", api.ErrArg)
	wantSend(t, m, tooLong, api.ErrArg)
	wantMissed(t, m, true)
	wantSend(t, m, "", api.ErrArg)
	wantSend(t, m, tooLong, api.ErrArg)
	full := up(t, 3, "1", "2", "3", "4", "5", "6", "7", "8")
	wantSend(t, full, "", api.ErrArg)
	wantSend(t, full, tooLong, api.ErrArg)
	wantSend(t, full, "9", api.ErrFull)
}

func TestEightCommandsWait(t *testing.T) {
	m := up(t, 3)
	for i := range 8 {
		wantState(t, m, Up, 1, i)
		wantSend(t, m, string(rune('a'+i)), api.OK)
		wantNext(t, m, data(1, 0, 0, "a"))
	}
	wantSend(t, m, "z", api.ErrFull)
	wantHeard(t, m, reply(1, 0, 1, ""), "")
	wantSend(t, m, "i", api.OK)
	wantSend(t, m, "z", api.ErrFull)
	for i := 1; i < 9; i++ {
		bit := uint8(i % 2)
		wantNext(t, m, data(1, bit, 0, string(rune('a'+i))))
		wantHeard(t, m, reply(1, 0, 1-bit, ""), "")
		wantState(t, m, Up, 1, 8-i)
	}
	wantNext(t, m, polling(1, 1, 0))
}

func TestFramesItDoesNotListenTo(t *testing.T) {
	for kind := range 256 {
		if kind == api.Opened || kind == api.Reply {
			continue
		}
		f := api.Frame{Addr: addr, Kind: uint8(kind), Session: 1, Ack: 1, B: []byte("y")}
		closed := New(addr, 3)
		wantDeaf(t, closed, f)
		isUp := up(t, 3, "x")
		wantDeaf(t, isUp, f)
		f.Session = 2 // of another session, and yet it does not close
		wantDeaf(t, isUp, f)
		dead := New(addr, 1)
		wantMissed(t, dead, true)
		wantDeaf(t, dead, f)
	}
}

func TestOnlyOpenedOfItsSessionRaisesIt(t *testing.T) {
	for _, c := range []struct {
		what    string
		make    func() *Master
		session uint8
		state   int
	}{
		{"new", func() *Master { return New(addr, 2) }, 1, Closed},
		{"dead", func() *Master { m := New(addr, 1); m.Missed(); return m }, 2, Dead},
		{"closed", func() *Master { m := up(t, 2); m.Heard(reply(7, 0, 0, "")); return m }, 2, Closed},
	} {
		m := c.make()
		epoch := m.Epoch()
		for s := range 256 {
			wantDeaf(t, m, reply(uint8(s), 0, 1, "y"))
			wantDeaf(t, m, reply(uint8(s), 1, 0, ""))
			if uint8(s) != c.session {
				wantDeaf(t, m, opened(uint8(s)))
			}
		}
		wantState(t, m, c.state, epoch, 0)
		wantNext(t, m, opening(c.session))
		// Whatever else is in it.
		f := api.Frame{Addr: addr, Kind: api.Opened, Session: c.session, Seq: 1, Ack: 1, B: []byte("y")}
		wantHeard(t, m, f, "")
		wantState(t, m, Up, epoch+1, 0)
		wantNext(t, m, polling(c.session, 0, 0))
	}
}

func TestOpenedAgainChangesNothing(t *testing.T) {
	m := up(t, 3, "a", "b")
	wantHeard(t, m, reply(1, 0, 1, "y"), "y")
	for _, f := range []api.Frame{opened(1), {Addr: addr, Kind: api.Opened, Session: 1, Seq: 1, Ack: 0, B: []byte("z")}} {
		wantHeard(t, m, f, "")
		wantState(t, m, Up, 1, 1)
		wantNext(t, m, data(1, 1, 1, "b"))
	}
}

func TestAnotherSessionClosesIt(t *testing.T) {
	for s := range 256 {
		if s == 1 {
			continue
		}
		for _, kind := range []uint8{api.Opened, api.Reply} {
			m := up(t, 3, "a", "b")
			f := api.Frame{Addr: addr, Kind: kind, Session: uint8(s), Seq: 0, Ack: 1, B: []byte("y")}
			wantHeard(t, m, f, "")
			wantState(t, m, Closed, 1, 0)
			wantNext(t, m, opening(2))
		}
	}
}

func TestSessionsGoRoundWithoutZero(t *testing.T) {
	m := New(addr, 1)
	for i := range 600 {
		session := uint8(i%255 + 1)
		wantNext(t, m, opening(session))
		if i%3 == 0 {
			wantMissed(t, m, true)
			continue
		}
		epoch := m.Epoch()
		wantHeard(t, m, opened(session), "")
		wantState(t, m, Up, epoch+1, 0)
		wantNext(t, m, polling(session, 0, 0))
		if i%3 == 1 {
			wantMissed(t, m, true)
			wantState(t, m, Dead, epoch+1, 0)
		} else {
			wantHeard(t, m, reply(0, 0, 0, ""), "")
			wantState(t, m, Closed, epoch+1, 0)
		}
	}
}

func TestBitsBeginAnew(t *testing.T) {
	for _, end := range []func(m *Master){
		func(m *Master) { m.Heard(reply(9, 0, 0, "")) },
		func(m *Master) { m.Missed() },
	} {
		m := up(t, 1, "a", "b")
		wantHeard(t, m, reply(1, 0, 1, "y"), "y")
		wantNext(t, m, data(1, 1, 1, "b"))
		end(m)
		wantNext(t, m, opening(2))
		wantHeard(t, m, opened(2), "")
		wantState(t, m, Up, 2, 0)
		wantNext(t, m, polling(2, 0, 0))
		wantSend(t, m, "c", api.OK)
		wantNext(t, m, data(2, 0, 0, "c"))
		wantHeard(t, m, reply(2, 0, 0, "z"), "z")
		wantState(t, m, Up, 2, 1)
	}
}

func TestACommandWaitsTillItIsAcknowledged(t *testing.T) {
	m := up(t, 3, "a", "b", "c")
	wantHeard(t, m, reply(1, 1, 0, ""), "")
	wantState(t, m, Up, 1, 3)
	wantNext(t, m, data(1, 0, 0, "a"))
	wantHeard(t, m, reply(1, 1, 1, ""), "")
	wantState(t, m, Up, 1, 2)
	wantNext(t, m, data(1, 1, 0, "b"))
	wantHeard(t, m, reply(1, 1, 1, ""), "") // the same, once more
	wantState(t, m, Up, 1, 2)
	wantHeard(t, m, reply(1, 1, 0, ""), "")
	wantState(t, m, Up, 1, 1)
	wantNext(t, m, data(1, 0, 0, "c"))
	wantHeard(t, m, reply(1, 1, 1, ""), "")
	wantState(t, m, Up, 1, 0)
	wantNext(t, m, polling(1, 1, 0))
}

func TestAckMeansNothingIfNoneWaits(t *testing.T) {
	m := up(t, 3)
	for _, ack := range []uint8{0, 1, 1, 0, 255} {
		wantHeard(t, m, reply(1, 1, ack, ""), "")
		wantNext(t, m, polling(1, 0, 0))
	}
	wantSend(t, m, "a", api.OK)
	wantNext(t, m, data(1, 0, 0, "a"))
}

func TestBytesAreHeardOnce(t *testing.T) {
	m := up(t, 3)
	wantHeard(t, m, reply(1, 1, 0, "early"), "")
	wantNext(t, m, polling(1, 0, 0))
	wantHeard(t, m, reply(1, 0, 0, "one"), "one")
	wantNext(t, m, polling(1, 0, 1))
	wantHeard(t, m, reply(1, 0, 0, "one"), "")
	wantNext(t, m, polling(1, 0, 1))
	wantHeard(t, m, reply(1, 1, 0, "two"), "two")
	wantHeard(t, m, reply(1, 1, 0, "two"), "")
	wantHeard(t, m, reply(1, 0, 0, "two"), "two") // the bit tells them apart, not the bytes
}

func TestAReplyWithoutBytesTurnsNothing(t *testing.T) {
	m := up(t, 3)
	for _, b := range [][]byte{nil, {}} {
		f := reply(1, 0, 0, "")
		f.B = b
		if got, ok := m.Heard(f); got != nil || !ok {
			t.Fatal(got, ok)
		}
		wantNext(t, m, polling(1, 0, 0))
	}
}

func TestOneReplyDoesBoth(t *testing.T) {
	m := up(t, 3, "a", "b")
	wantHeard(t, m, reply(1, 0, 1, "y"), "y")
	wantNext(t, m, data(1, 1, 1, "b"))
	wantHeard(t, m, reply(1, 1, 0, "z"), "z")
	wantNext(t, m, polling(1, 0, 0))
	wantState(t, m, Up, 1, 0)
}

// No encoded frame has such numbers, but a call may be handed them.
func TestBitsThatAreNone(t *testing.T) {
	m := up(t, 3, "a", "b", "c")
	wantHeard(t, m, reply(1, 2, 0, "y"), "")
	wantHeard(t, m, reply(1, 255, 0, "y"), "")
	wantNext(t, m, data(1, 0, 0, "a"))
	wantHeard(t, m, reply(1, 2, 2, "y"), "") // 2 is not the bit of what it sends
	wantNext(t, m, data(1, 1, 0, "b"))
	wantHeard(t, m, reply(1, 2, 255, "y"), "")
	wantNext(t, m, data(1, 0, 0, "c"))
	long := string(make([]byte, 1000))
	wantHeard(t, m, reply(1, 0, 0, long), long)
	wantNext(t, m, data(1, 0, 1, "c"))
}

func TestHowOftenItMayMiss(t *testing.T) {
	for tries, most := range map[int]int{math.MinInt: 1, -1: 1, 0: 1, 1: 1, 2: 2, 3: 3, 50: 50} {
		m := up(t, tries, "a")
		for range most - 1 {
			wantMissed(t, m, false)
			wantState(t, m, Up, 1, 1)
			wantNext(t, m, data(1, 0, 0, "a"))
		}
		wantMissed(t, m, true)
		wantState(t, m, Dead, 1, 0)
		wantNext(t, m, opening(2))
		// A dead one goes on to try new sessions, and is told to be dead once.
		for range most - 1 {
			wantMissed(t, m, false)
			wantNext(t, m, opening(2))
		}
		wantMissed(t, m, false)
		wantState(t, m, Dead, 1, 0)
		wantNext(t, m, opening(3))
		wantHeard(t, m, opened(3), "")
		wantState(t, m, Up, 2, 0)
		for range most - 1 {
			wantMissed(t, m, false)
		}
		wantMissed(t, m, true)
	}
	patient := up(t, math.MaxInt, "a")
	for range 10000 {
		wantMissed(t, patient, false)
	}
	wantState(t, patient, Up, 1, 1)
}

func TestAClosedOneDiesToo(t *testing.T) {
	m := New(addr, 2)
	wantMissed(t, m, false)
	wantState(t, m, Closed, 0, 0)
	wantNext(t, m, opening(1))
	wantMissed(t, m, true)
	wantState(t, m, Dead, 0, 0)
	wantNext(t, m, opening(2))
}

func TestWhatIsHeardForgivesWhatWasMissed(t *testing.T) {
	for _, f := range []api.Frame{
		opened(1), reply(1, 0, 0, ""), reply(1, 0, 1, "y"), reply(1, 1, 0, "y"), reply(2, 0, 0, ""), opened(2),
	} {
		m := up(t, 3, "a")
		wantMissed(t, m, false, false)
		m.Heard(f)
		wantMissed(t, m, false, false, true)
	}
	rising := New(addr, 3)
	wantMissed(t, rising, false, false)
	wantHeard(t, rising, opened(1), "")
	wantMissed(t, rising, false, false, true)
}

func TestWhatIsNotListenedToForgivesNothing(t *testing.T) {
	for _, f := range []api.Frame{
		{Addr: 6, Kind: api.Opened, Session: 1}, {Addr: addr, Kind: api.Open, Session: 1}, {}, polling(1, 0, 0),
	} {
		m := up(t, 3, "a")
		wantMissed(t, m, false, false)
		wantDeaf(t, m, f)
		wantMissed(t, m, true)
	}
	for _, f := range []api.Frame{opened(2), opened(0), reply(1, 0, 0, ""), reply(2, 0, 0, "y")} {
		m := New(addr, 3)
		wantMissed(t, m, false, false)
		wantDeaf(t, m, f)
		wantMissed(t, m, true)
	}
}

func TestNextAndSendForgiveNothing(t *testing.T) {
	m := up(t, 2)
	wantMissed(t, m, false)
	m.Next()
	wantSend(t, m, "a", api.OK)
	wantMissed(t, m, true)
}
