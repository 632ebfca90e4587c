package master

import (
	"bytes"
	"testing"

	"lamplight/api"
)

func TestWhatIsSentIsLeftAndNotKept(t *testing.T) {
	m := up(t, 3)
	b := append(make([]byte, 0, 64), "abc"...)
	if err := m.Send(b); err != api.OK {
		t.Fatal(err)
	}
	if string(b) != "abc" || !bytes.Equal(b[3:cap(b)], make([]byte, cap(b)-3)) {
		t.Fatalf("the argument is %q", b)
	}
	copy(b, "xyz")
	wantNext(t, m, data(1, 0, 0, "abc"))
	if err := m.Send(b); err != api.OK {
		t.Fatal(err)
	}
	clear(b)
	wantHeard(t, m, reply(1, 0, 1, ""), "")
	wantNext(t, m, data(1, 1, 0, "xyz"))
}

func TestWhatIsSaidIsTheCallers(t *testing.T) {
	m := up(t, 3, "abc", "def")
	one, other := m.Next(), m.Next()
	copy(one.B[:cap(one.B)], "xxxxxxxx")
	if !same(other, data(1, 0, 0, "abc")) {
		t.Fatal(other)
	}
	wantNext(t, m, data(1, 0, 0, "abc"))
	wantHeard(t, m, reply(1, 0, 1, ""), "")
	if !same(other, data(1, 0, 0, "abc")) {
		t.Fatal(other)
	}
	wantNext(t, m, data(1, 1, 0, "def"))
}

func TestWhatIsHeardIsLeftAndNotShared(t *testing.T) {
	m := up(t, 3)
	f := reply(1, 0, 0, "abc")
	told, ok := m.Heard(f)
	if !ok || !same(f, reply(1, 0, 0, "abc")) {
		t.Fatal(told, ok, f)
	}
	clear(f.B)
	if string(told) != "abc" {
		t.Fatalf("%q", told)
	}
	copy(f.B, "def")
	f.Seq = 1
	again, _ := m.Heard(f)
	clear(told[:cap(told)])
	if string(again) != "def" || string(f.B) != "def" {
		t.Fatalf("%q, %q", again, f.B)
	}
	again[0] = 'x'
	if string(f.B) != "def" {
		t.Fatalf("%q", f.B)
	}
}

// What was acknowledged, or let go, is not kept.
func TestNoMoreIsKeptThanWaits(t *testing.T) {
	m := up(t, 3, "a", "b", "c")
	wantHeard(t, m, reply(1, 0, 1, ""), "")
	wantHeard(t, m, reply(1, 0, 0, ""), "")
	for i, b := range m.waiting[1:cap(m.waiting)] {
		if b != nil {
			t.Errorf("%d behind the first: %q is kept", i+1, b)
		}
	}
	wantHeard(t, m, reply(2, 0, 0, ""), "")
	if m.waiting != nil {
		t.Error(m.waiting)
	}
}

func TestMastersHaveNothingToDoWithEachOther(t *testing.T) {
	one, other := New(addr, 2), New(addr, 2)
	wantHeard(t, one, opened(1), "")
	wantSend(t, one, "a", api.OK)
	wantMissed(t, one, false)
	wantState(t, other, Closed, 0, 0)
	wantNext(t, other, opening(1))
	wantMissed(t, other, false, true)
	wantState(t, one, Up, 1, 1)
	wantHeard(t, other, opened(2), "")
	wantHeard(t, other, reply(2, 0, 0, "y"), "y")
	wantNext(t, other, polling(2, 0, 1))
	wantNext(t, one, data(1, 0, 0, "a"))
}
