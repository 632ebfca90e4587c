package slave

import (
	"bytes"
	"testing"

	"lamplight/api"
)

const addr = 5

func same(f, g api.Frame) bool {
	return f.Addr == g.Addr && f.Kind == g.Kind && f.Session == g.Session &&
		f.Seq == g.Seq && f.Ack == g.Ack && bytes.Equal(f.B, g.B)
}

func opening(session uint8) api.Frame {
	return api.Frame{Addr: addr, Kind: api.Open, Session: session}
}

func data(session, seq, ack uint8, text string) api.Frame {
	return api.Frame{Addr: addr, Kind: api.Data, Session: session, Seq: seq, Ack: ack, B: []byte(text)}
}

func polling(session, seq, ack uint8) api.Frame {
	return api.Frame{Addr: addr, Kind: api.Poll, Session: session, Seq: seq, Ack: ack}
}

func opened(session uint8) api.Frame {
	return api.Frame{Addr: addr, Kind: api.Opened, Session: session}
}

func reply(session, seq, ack uint8, text string) api.Frame {
	return api.Frame{Addr: addr, Kind: api.Reply, Session: session, Seq: seq, Ack: ack, B: []byte(text)}
}

// wantTake is of a frame that it listens to.
func wantTake(t *testing.T, s *Slave, f, answer api.Frame, command string) {
	t.Helper()
	a, c, ok := s.Take(f)
	if !same(a, answer) || string(c) != command || !ok {
		t.Fatalf("Take(%v): %v, %q, %v; want %v, %q, true", f, a, c, ok, answer, command)
	}
}

// state is all that a slave says of itself: what a poll tells that settles
// nothing, and what may be asked.
type state struct {
	session, tells, awaits uint8
	pending                string
}

func wantState(t *testing.T, s *Slave, want state) {
	t.Helper()
	if s.Session() != want.session || s.Pending() != (want.pending != "") {
		t.Fatalf("session %d, pending %v; want %v", s.Session(), s.Pending(), want)
	}
	if want.session == 0 {
		wantTake(t, s, polling(0, 0, 1), reply(0, 0, 0, ""), "")
		return
	}
	answer := reply(want.session, want.tells, want.awaits, want.pending)
	wantTake(t, s, polling(want.session, want.awaits, want.tells), answer, "")
}

// wantDeaf is of a frame that it does not listen to.
func wantDeaf(t *testing.T, s *Slave, f api.Frame, is state) {
	t.Helper()
	wantState(t, s, is)
	if a, c, ok := s.Take(f); !same(a, api.Frame{}) || a.B != nil || c != nil || ok {
		t.Fatalf("Take(%v): %v, %q, %v; want none, none, false", f, a, c, ok)
	}
	wantState(t, s, is)
}

func wantOffer(t *testing.T, s *Slave, text string, want api.Errno) {
	t.Helper()
	if err := s.Offer([]byte(text)); err != want {
		t.Fatalf("Offer(%q): %v; want %v", text, err, want)
	}
}

// build is a slave in a state.
func (is state) build(t *testing.T) *Slave {
	t.Helper()
	s := New(addr)
	wantTake(t, s, opening(is.session), opened(is.session), "")
	if is.tells == 1 {
		wantOffer(t, s, "heard", api.OK)
		wantTake(t, s, polling(is.session, 0, 1), reply(is.session, 1, 0, ""), "")
	}
	if is.awaits == 1 {
		wantTake(t, s, data(is.session, 0, is.tells, "taken"), reply(is.session, is.tells, 1, ""), "taken")
	}
	if is.pending != "" {
		wantOffer(t, s, is.pending, api.OK)
	}
	wantState(t, s, is)
	return s
}

// states are all that differ in more than a session's number, and bytes.
func states() []state {
	all := []state{{}, {pending: "y"}}
	for bits := range uint8(4) {
		for _, pending := range []string{"", "y"} {
			all = append(all, state{9, bits / 2, bits % 2, pending})
		}
	}
	return all
}

func TestNewSlaveHasNoSession(t *testing.T) {
	s := New(addr)
	wantState(t, s, state{})
	a, c, ok := s.Take(polling(0, 0, 0))
	if !same(a, reply(0, 0, 0, "")) || a.B != nil || c != nil || !ok {
		t.Error(a, c, ok)
	}
}

func TestEachAddressIsItsOwn(t *testing.T) {
	at := func(a uint8, f api.Frame) api.Frame {
		f.Addr = a
		return f
	}
	for a := range 256 {
		own := uint8(a)
		s := New(own)
		wantTake(t, s, at(own, opening(9)), at(own, opened(9)), "")
		wantOffer(t, s, "y", api.OK)
		for other := range 256 {
			if other == a {
				continue
			}
			for _, f := range []api.Frame{opening(8), data(9, 0, 1, "x"), polling(9, 0, 1), polling(8, 0, 0)} {
				if a, c, ok := s.Take(at(uint8(other), f)); !same(a, api.Frame{}) || c != nil || ok {
					t.Fatal(a, c, ok)
				}
			}
		}
		wantTake(t, s, at(own, data(9, 0, 0, "x")), at(own, reply(9, 0, 1, "y")), "x")
		wantTake(t, s, at(own, polling(8, 0, 1)), at(own, reply(9, 0, 0, "")), "")
		s.Reset()
		wantTake(t, s, at(own, polling(9, 0, 1)), at(own, reply(0, 0, 0, "")), "")
	}
}

func TestKindsItDoesNotListenTo(t *testing.T) {
	for _, is := range states() {
		s := is.build(t)
		for kind := range 256 {
			if kind == api.Open || kind == api.Data || kind == api.Poll {
				continue
			}
			for _, session := range []uint8{is.session, 8, 0} {
				f := data(session, is.awaits, 1-is.tells, "x")
				f.Kind = uint8(kind)
				wantDeaf(t, s, f, is)
			}
		}
	}
}

func TestOfferTakesOneTo24Bytes(t *testing.T) {
	long := "abcdefghijklmnopqrstuvwxyz"
	for n := range len(long) + 1 {
		s := state{session: 9}.build(t)
		if n == 0 || n > 24 {
			wantOffer(t, s, long[:n], api.ErrArg)
			wantState(t, s, state{session: 9})
		} else {
			wantOffer(t, s, long[:n], api.OK)
			wantState(t, s, state{session: 9, pending: long[:n]})
		}
	}
	s := New(addr)
	if err := s.Offer(nil); err != api.ErrArg {
		t.Error(err)
	}
	if err := s.Offer(make([]byte, 1000)); err != api.ErrArg {
		t.Error(err)
	}
	wantState(t, s, state{})
}

func TestOneThingIsPending(t *testing.T) {
	for _, is := range states() {
		s := is.build(t)
		if is.pending == "" {
			wantOffer(t, s, "y", api.OK)
			is.pending = "y"
		}
		for _, text := range []string{"z", "y", string(make([]byte, 24))} {
			wantOffer(t, s, text, api.ErrFull)
			wantState(t, s, is)
		}
		// Of several errors the first that applies.
		for _, text := range []string{"", string(make([]byte, 25))} {
			wantOffer(t, s, text, api.ErrArg)
			wantState(t, s, is)
		}
	}
}

func TestOpenBeginsASession(t *testing.T) {
	for _, is := range states() {
		for session := range 256 {
			s := is.build(t)
			wantTake(t, s, opening(uint8(session)), opened(uint8(session)), "")
			wantState(t, s, state{session: uint8(session), pending: is.pending})
		}
	}
}

func TestOnlyItsSessionCountsOfAnOpen(t *testing.T) {
	for _, is := range states() {
		for bits := range uint8(4) {
			s := is.build(t)
			f := api.Frame{Addr: addr, Kind: api.Open, Session: 9, Seq: bits / 2, Ack: bits % 2, B: []byte("x")}
			for range 2 {
				a, c, ok := s.Take(f)
				if !same(a, opened(9)) || a.B != nil || c != nil || !ok {
					t.Fatal(a, c, ok)
				}
				wantState(t, s, state{session: 9, pending: is.pending})
			}
		}
	}
}

func TestAnotherSessionIsNotItsOwn(t *testing.T) {
	for _, is := range states() {
		s := is.build(t)
		for session := range 256 {
			if uint8(session) == is.session && is.session != 0 {
				continue
			}
			for bits := range uint8(4) {
				answer := reply(is.session, 0, 0, "")
				wantTake(t, s, data(uint8(session), bits/2, bits%2, "x"), answer, "")
				wantTake(t, s, polling(uint8(session), bits/2, bits%2), answer, "")
				wantState(t, s, is)
			}
		}
	}
}

func TestSessionZeroIsNone(t *testing.T) {
	for _, s := range []*Slave{New(addr), state{session: 9, tells: 1, awaits: 1}.build(t)} {
		wantTake(t, s, opening(0), opened(0), "")
		wantOffer(t, s, "y", api.OK)
		wantTake(t, s, data(0, 0, 1, "x"), reply(0, 0, 0, ""), "")
		wantState(t, s, state{pending: "y"})
		wantTake(t, s, opening(255), opened(255), "")
		wantTake(t, s, data(255, 0, 0, "x"), reply(255, 0, 1, "y"), "x")
	}
}

func TestEachCommandIsTakenOnce(t *testing.T) {
	s := state{session: 9}.build(t)
	for i := range 20 {
		bit := uint8(i % 2)
		text := string(rune('a' + i))
		wantTake(t, s, data(9, 1-bit, 0, "early"), reply(9, 0, bit, ""), "")
		wantTake(t, s, data(9, bit, 0, text), reply(9, 0, 1-bit, ""), text)
		wantTake(t, s, data(9, bit, 0, text), reply(9, 0, 1-bit, ""), "")
		wantTake(t, s, data(9, bit, 0, "late"), reply(9, 0, 1-bit, ""), "")
	}
	// The bit tells them apart, not the bytes.
	wantTake(t, s, data(9, 0, 0, "x"), reply(9, 0, 1, ""), "x")
	wantTake(t, s, data(9, 1, 0, "x"), reply(9, 0, 0, ""), "x")
}

func TestAPollIsNoCommand(t *testing.T) {
	for _, is := range states()[2:] {
		s := is.build(t)
		for _, b := range [][]byte{nil, {}, []byte("x")} {
			f := polling(9, is.awaits, is.tells)
			f.B = b
			wantTake(t, s, f, reply(9, is.tells, is.awaits, is.pending), "")
			wantState(t, s, is)
		}
	}
}

// A command without bytes is none to see, but it is one of the row.
func TestDataWithoutBytesTurnsTheBit(t *testing.T) {
	for _, b := range [][]byte{nil, {}} {
		s := state{session: 9}.build(t)
		f := data(9, 0, 0, "")
		f.B = b
		wantTake(t, s, f, reply(9, 0, 1, ""), "")
		wantTake(t, s, f, reply(9, 0, 1, ""), "")
		f.Seq = 1
		wantTake(t, s, f, reply(9, 0, 0, ""), "")
	}
}

func TestWhatIsPendingIsToldTillItIsHeard(t *testing.T) {
	s := state{session: 9}.build(t)
	for i := range 20 {
		bit := uint8(i % 2)
		text := string(rune('a' + i))
		wantOffer(t, s, text, api.OK)
		for range 3 {
			wantTake(t, s, polling(9, 0, bit), reply(9, bit, 0, text), "")
			wantTake(t, s, data(9, 1, bit, "again"), reply(9, bit, 0, text), "")
		}
		wantTake(t, s, polling(9, 0, 1-bit), reply(9, 1-bit, 0, ""), "")
		wantState(t, s, state{session: 9, tells: 1 - bit})
	}
}

func TestAckMeansNothingIfNoneIsPending(t *testing.T) {
	for _, is := range states()[2:] {
		if is.pending != "" {
			continue
		}
		s := is.build(t)
		for _, ack := range []uint8{0, 1, 1, 0, 255} {
			wantTake(t, s, polling(9, 0, ack), reply(9, is.tells, is.awaits, ""), "")
			wantTake(t, s, data(9, 1-is.awaits, ack, "x"), reply(9, is.tells, is.awaits, ""), "")
		}
		wantOffer(t, s, "y", api.OK)
		is.pending = "y"
		wantState(t, s, is)
	}
}

func TestOneFrameDoesBoth(t *testing.T) {
	for _, is := range states()[2:] {
		s := is.build(t)
		tells := is.tells
		if is.pending != "" {
			tells = 1 - tells
		}
		wantTake(t, s, data(9, is.awaits, 1-is.tells, "x"), reply(9, tells, 1-is.awaits, ""), "x")
		wantState(t, s, state{session: 9, tells: tells, awaits: 1 - is.awaits})
	}
}

func TestAnOldCommandSettlesToo(t *testing.T) {
	s := state{9, 0, 1, "y"}.build(t)
	wantTake(t, s, data(9, 0, 1, "old"), reply(9, 1, 1, ""), "")
	wantOffer(t, s, "z", api.OK)
	wantState(t, s, state{9, 1, 1, "z"})
}

func TestWhatWasHeardIsNotToldInTheNextSession(t *testing.T) {
	s := state{9, 0, 0, "y"}.build(t)
	wantTake(t, s, polling(9, 0, 0), reply(9, 0, 0, "y"), "")
	wantTake(t, s, opening(10), opened(10), "")
	wantTake(t, s, polling(10, 0, 0), reply(10, 0, 0, "y"), "")
	wantTake(t, s, polling(10, 0, 1), reply(10, 1, 0, ""), "")
	wantTake(t, s, opening(11), opened(11), "")
	wantState(t, s, state{session: 11})
}

// No encoded frame has such numbers, but a call may be handed them.
func TestBitsThatAreNone(t *testing.T) {
	for _, none := range []uint8{2, 3, 128, 255} {
		for _, is := range states()[2:] {
			s := is.build(t)
			wantTake(t, s, data(9, none, is.tells, "x"), reply(9, is.tells, is.awaits, is.pending), "")
			wantState(t, s, is)
			// Such an Ack is not the bit of what it tells.
			if is.pending != "" {
				is.tells, is.pending = 1-is.tells, ""
			}
			wantTake(t, s, polling(9, 0, none), reply(9, is.tells, is.awaits, ""), "")
			wantState(t, s, is)
		}
	}
	long := string(make([]byte, 1000))
	s := state{session: 9}.build(t)
	wantTake(t, s, data(9, 0, 0, long), reply(9, 0, 1, ""), long)
}

func TestResetIsAsAtFirst(t *testing.T) {
	for _, is := range states() {
		s := is.build(t)
		for range 2 {
			s.Reset()
			wantState(t, s, state{})
		}
		wantTake(t, s, data(9, is.awaits, 1-is.tells, "x"), reply(0, 0, 0, ""), "")
		wantOffer(t, s, "z", api.OK)
		wantTake(t, s, opening(9), opened(9), "")
		wantTake(t, s, data(9, 0, 0, "x"), reply(9, 0, 1, "z"), "x")
	}
}
