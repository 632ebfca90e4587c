package poll

import (
	"bytes"
	"testing"
)

func TestTheAddressesHandedInAreLeftAndNotKept(t *testing.T) {
	given := append(make([]byte, 0, 64), 0, 7, 3, 7, 40, 5)
	p := New(given...)
	if !bytes.Equal(given, []byte{0, 7, 3, 7, 40, 5}) || !bytes.Equal(given[6:64], make([]byte, 58)) {
		t.Fatal("the argument is", given[:64])
	}
	clear(given[:64])
	wantAddrs(t, p, 7, 3, 5)
	wantIs(t, p, 7, 3, 5)
	wantNext(t, p, 0, 7, 3, 5, 7)
}

func TestARowHandedInAsItIsToBe(t *testing.T) {
	given := []uint8{7, 3, 5}
	p := New(given...)
	clear(given)
	wantAddrs(t, p, 7, 3, 5)
	wantNext(t, p, 0, 7, 3, 5)
}

func TestTheRowThatIsToldIsTheCallers(t *testing.T) {
	p := New(7, 3, 5)
	one, other := p.Addrs(), p.Addrs()
	clear(one[:cap(one)])
	if !bytes.Equal(other, []byte{7, 3, 5}) {
		t.Fatal(other)
	}
	wantAddrs(t, p, 7, 3, 5)
	wantIs(t, p, 7, 3, 5)
	wantNext(t, p, 0, 7, 3, 5)
}

func TestPollsHaveNothingToDoWithEachOther(t *testing.T) {
	one, other := New(1, 2, 3), New(1, 2, 3)
	wantNext(t, one, 0, 1, 2)
	wantDead(t, one, 0, 3, 1)
	wantIs(t, other, 1, 2, 3)
	wantNext(t, other, 20, 1)
	wantDead(t, other, 5, 1)
	wantNext(t, one, 20, 1, 3, 2)
	wantAlive(t, one, 1)
	wantIs(t, other, 2, 3)
	wantNext(t, other, 25, 1, 2, 3)
}

// Of who is alive no time is kept.
func TestNoMoreIsKeptThanIsNeeded(t *testing.T) {
	p := New(1, 2)
	wantDead(t, p, 7, 1)
	wantAlive(t, p, 1)
	if *p.find(1) != *New(1).find(1) {
		t.Error(*p.find(1))
	}
}
