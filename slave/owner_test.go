package slave

import (
	"bytes"
	"testing"

	"lamplight/api"
)

func TestWhatIsOfferedIsLeftAndNotKept(t *testing.T) {
	s := state{session: 9}.build(t)
	b := append(make([]byte, 0, 64), "abc"...)
	if err := s.Offer(b); err != api.OK {
		t.Fatal(err)
	}
	if string(b) != "abc" || !bytes.Equal(b[3:cap(b)], make([]byte, cap(b)-3)) {
		t.Fatalf("the argument is %q", b)
	}
	copy(b, "xyz")
	wantState(t, s, state{session: 9, pending: "abc"})
}

func TestWhatIsToldIsTheCallers(t *testing.T) {
	s := state{session: 9, pending: "abc"}.build(t)
	one, _, _ := s.Take(polling(9, 0, 0))
	other, _, _ := s.Take(polling(9, 0, 0))
	copy(one.B[:cap(one.B)], "xxxxxxxx")
	if !same(other, reply(9, 0, 0, "abc")) {
		t.Fatal(other)
	}
	wantState(t, s, state{session: 9, pending: "abc"})
	wantTake(t, s, polling(9, 0, 1), reply(9, 1, 0, ""), "")
	wantOffer(t, s, "def", api.OK)
	if !same(other, reply(9, 0, 0, "abc")) {
		t.Fatal(other)
	}
}

func TestWhatIsTakenIsLeftAndNotShared(t *testing.T) {
	s := state{session: 9, pending: "y"}.build(t)
	f := data(9, 0, 0, "abc")
	_, command, _ := s.Take(f)
	if !same(f, data(9, 0, 0, "abc")) {
		t.Fatal(f)
	}
	copy(f.B, "xxx")
	if string(command) != "abc" {
		t.Fatalf("%q", command)
	}
	clear(command[:cap(command)])
	if string(f.B) != "xxx" {
		t.Fatalf("%q", f.B)
	}
	wantState(t, s, state{9, 0, 1, "y"})
}

// What was heard is not kept.
func TestNoMoreIsKeptThanIsPending(t *testing.T) {
	heard := state{session: 9, pending: "y"}.build(t)
	heard.Take(polling(9, 0, 1))
	reset := state{session: 9, pending: "y"}.build(t)
	reset.Reset()
	if heard.pending != nil || reset.pending != nil {
		t.Error(heard.pending, reset.pending)
	}
}

func TestSlavesHaveNothingToDoWithEachOther(t *testing.T) {
	one, other := New(addr), New(addr)
	wantTake(t, one, opening(9), opened(9), "")
	wantOffer(t, one, "y", api.OK)
	wantState(t, other, state{})
	wantTake(t, other, opening(7), opened(7), "")
	wantTake(t, other, data(7, 0, 0, "x"), reply(7, 0, 1, ""), "x")
	wantState(t, one, state{session: 9, pending: "y"})
	other.Reset()
	wantState(t, one, state{session: 9, pending: "y"})
}
