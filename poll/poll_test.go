package poll

import (
	"bytes"
	"math"
	"slices"
	"testing"

	"lamplight/api"
)

// wantNext is of one call of Next after another at a time; 0 is nobody.
func wantNext(t *testing.T, p *Poll, now int, addrs ...uint8) {
	t.Helper()
	for i, want := range addrs {
		if got, ok := p.Next(now); got != want || ok != (want != 0) {
			t.Fatalf("Next(%d), the %d. time: %d, %v; want %d", now, i+1, got, ok, want)
		}
	}
}

func wantDead(t *testing.T, p *Poll, now int, addrs ...uint8) {
	t.Helper()
	for _, addr := range addrs {
		if err := p.Dead(addr, now); err != api.OK {
			t.Fatalf("Dead(%d, %d): %v", addr, now, err)
		}
		if p.Is(addr) {
			t.Fatalf("%d is alive behind Dead", addr)
		}
	}
}

func wantAlive(t *testing.T, p *Poll, addrs ...uint8) {
	t.Helper()
	for _, addr := range addrs {
		if err := p.Alive(addr); err != api.OK {
			t.Fatalf("Alive(%d): %v", addr, err)
		}
		if !p.Is(addr) {
			t.Fatalf("%d is not alive behind Alive", addr)
		}
	}
}

// wantIs is of who is alive, of all that could be.
func wantIs(t *testing.T, p *Poll, addrs ...uint8) {
	t.Helper()
	for addr := range 256 {
		want := slices.Contains(addrs, uint8(addr))
		if got := p.Is(uint8(addr)); got != want {
			t.Fatalf("Is(%d): %v; want %v", addr, got, want)
		}
	}
}

func wantAddrs(t *testing.T, p *Poll, addrs ...uint8) {
	t.Helper()
	if got := p.Addrs(); !bytes.Equal(got, addrs) {
		t.Fatalf("Addrs: %v; want %v", got, addrs)
	}
}

// upTo is the numbers from one to another.
func upTo(from, to int) []uint8 {
	var numbers []uint8
	for n := from; n <= to; n++ {
		numbers = append(numbers, uint8(n))
	}
	return numbers
}

func TestHowLongADeadOneIsLeftAlone(t *testing.T) {
	if Again != 20 {
		t.Error(Again)
	}
}

func TestTheRow(t *testing.T) {
	backwards := upTo(1, 31)
	slices.Reverse(backwards)
	for _, c := range []struct {
		what       string
		given, row []uint8
	}{
		{"none", nil, nil},
		{"nothing but strangers", []uint8{0, 32, 255, 0, 128}, nil},
		{"the least", []uint8{1}, []uint8{1}},
		{"the greatest", []uint8{31}, []uint8{31}},
		{"not in order", []uint8{7, 3, 31, 1, 20}, []uint8{7, 3, 31, 1, 20}},
		{"one twice, at once", []uint8{4, 4, 2}, []uint8{4, 2}},
		{"one twice, at the ends", []uint8{4, 2, 4}, []uint8{4, 2}},
		{"some twice, and strangers", []uint8{5, 0, 2, 5, 32, 9, 2, 9, 31, 33, 5}, []uint8{5, 2, 9, 31}},
		{"all there are", upTo(0, 255), upTo(1, 31)},
		{"all there are, backwards, and then as they are", append(slices.Clone(backwards), upTo(0, 255)...), backwards},
	} {
		t.Run(c.what, func(t *testing.T) {
			p := New(c.given...)
			wantAddrs(t, p, c.row...)
			wantIs(t, p, c.row...)
			for range 2 {
				wantNext(t, p, 0, c.row...)
			}
			wantAddrs(t, p, c.row...)
		})
	}
}

func TestALongListOfAddresses(t *testing.T) {
	given := bytes.Repeat([]byte{0, 9, 32, 4, 255, 9}, 150000)
	p := New(append(given, 1)...)
	wantAddrs(t, p, 9, 4, 1)
	wantNext(t, p, 0, 9, 4, 1, 9)
}

func TestTheExample(t *testing.T) {
	wantNext(t, New(3, 1), 0, 3, 1, 3, 1, 3, 1)
}

func TestNobodyIsThere(t *testing.T) {
	for _, p := range []*Poll{New(), New(0, 32, 255)} {
		for _, now := range []int{math.MinInt, -1, 0, 20, math.MaxInt} {
			wantNext(t, p, now, 0, 0)
		}
		wantIs(t, p)
		wantAddrs(t, p)
	}
}

func TestTheOnlyOne(t *testing.T) {
	p := New(17)
	wantNext(t, p, 0, 17, 17, 17)
	wantDead(t, p, 0, 17)
	wantNext(t, p, 19, 0, 0)
	wantNext(t, p, 20, 17, 0)
	wantAlive(t, p, 17)
	wantNext(t, p, 20, 17, 17)
}

func TestTheTimeMeansNothingToWhoIsAlive(t *testing.T) {
	p := New(3, 1, 2)
	for _, now := range []int{0, 100, 99, math.MinInt, math.MaxInt, 0} {
		wantNext(t, p, now, 3, 1, 2)
	}
}

func TestStrangersAreNotThere(t *testing.T) {
	row := []uint8{31, 2, 7}
	for addr := range 256 {
		if slices.Contains(row, uint8(addr)) {
			continue
		}
		p := New(row...)
		wantDead(t, p, 0, 2)
		wantNext(t, p, 0, 31)
		if err := p.Alive(uint8(addr)); err != api.ErrNone {
			t.Errorf("Alive(%d): %v", addr, err)
		}
		if err := p.Dead(uint8(addr), -100); err != api.ErrNone {
			t.Errorf("Dead(%d): %v", addr, err)
		}
		wantAddrs(t, p, 31, 2, 7)
		wantIs(t, p, 31, 7)
		wantNext(t, p, 19, 7, 31)
		wantNext(t, p, 20, 2, 7, 31)
	}
}

// Each of these times and the next one of Next is told by how many ticks they
// are apart, however far from 0 they are.
func TestADeadOneIsLeftAloneForTwentyTicks(t *testing.T) {
	for _, since := range []int{math.MinInt, math.MinInt + 7, -40, -20, -19, -1, 0, 1, 10, math.MaxInt - 40} {
		p := New(4, 6)
		wantDead(t, p, since, 6)
		wantNext(t, p, since, 4, 4)
		wantNext(t, p, since+1, 4)
		wantNext(t, p, since+19, 4, 4)
		wantNext(t, p, since+20, 6, 4, 4)
		wantNext(t, p, since+39, 4, 4)
		wantNext(t, p, since+40, 6, 4)
		wantIs(t, p, 4)
	}
}

// It is left alone since it was told, not since it was due.
func TestWhoIsToldLate(t *testing.T) {
	p := New(4, 6)
	wantDead(t, p, 0, 6)
	wantNext(t, p, 35, 6, 4)
	wantNext(t, p, 40, 4)
	wantNext(t, p, 54, 4)
	wantNext(t, p, 55, 6, 4)
	wantNext(t, p, 1000, 6, 4)
	wantNext(t, p, 1019, 4)
	wantNext(t, p, 1020, 6, 4)
}

func TestANowThatIsLessIsNoTimeBehind(t *testing.T) {
	for _, since := range []int{0, 50, math.MaxInt, math.MinInt + 1000} {
		p := New(4, 6)
		wantDead(t, p, since, 6)
		for _, now := range []int{since - 1, since - 19, since - 20, since - 21, since - 500, math.MinInt} {
			wantNext(t, p, now, 4)
		}
	}
	p := New(4, 6)
	wantDead(t, p, 0, 6)
	wantNext(t, p, 100, 6)
	wantNext(t, p, 20, 4) // it was told at 100
	wantNext(t, p, 79, 4)
	wantNext(t, p, 80, 4)
	wantNext(t, p, 119, 4)
	wantNext(t, p, 120, 6)
}

func TestTimesFarApart(t *testing.T) {
	p := New(4, 6, 8)
	wantDead(t, p, math.MinInt, 6)
	wantDead(t, p, math.MaxInt, 8)
	wantNext(t, p, math.MaxInt, 6, 4, 4) // all numbers are between these
	wantDead(t, p, math.MinInt, 6)
	wantNext(t, p, 0, 6, 4)
	wantNext(t, p, math.MaxInt, 6, 4)
	wantDead(t, p, -1, 6)
	wantNext(t, p, math.MaxInt, 6, 4)
	wantDead(t, p, math.MaxInt-19, 6)
	wantNext(t, p, math.MaxInt, 4)
	wantDead(t, p, math.MaxInt-20, 6)
	wantNext(t, p, math.MaxInt-1, 4)
	wantNext(t, p, math.MaxInt, 6, 4)
	wantNext(t, p, math.MinInt, 4)
}

func TestTheLeastTimeIsTheFirst(t *testing.T) {
	p := New(1, 2, 3, 4, 5)
	wantDead(t, p, 3, 2)
	wantDead(t, p, 1, 4)
	wantDead(t, p, 2, 5)
	wantDead(t, p, -7, 1)
	wantNext(t, p, 100, 1, 4, 5, 2, 3, 3)
	wantNext(t, p, 120, 1, 2, 4, 5, 3) // all were told at 100
	wantNext(t, p, 139, 3)
	wantDead(t, p, 119, 4)
	wantNext(t, p, 139, 4, 3)
	wantNext(t, p, 140, 1, 2, 5, 3)
}

// Of the same time the first of the row, be its address less or not, and
// wherever the round stands.
func TestOfOneTimeTheFirstOfTheRow(t *testing.T) {
	p := New(9, 2, 31, 1, 5)
	wantNext(t, p, 0, 9, 2, 31)
	wantDead(t, p, 0, 1, 31, 9)
	wantNext(t, p, 20, 9, 31, 1, 5, 2, 5)
	wantNext(t, p, 40, 9, 31, 1, 2)
}

// A time that is less does not come first as long as it is not due, and one
// that is told is behind all others.
func TestWhoIsNotDueYetWaits(t *testing.T) {
	p := New(1, 2, 3)
	wantDead(t, p, 0, 2)
	wantDead(t, p, 5, 1)
	wantNext(t, p, 19, 3)
	wantNext(t, p, 20, 2, 3)
	wantNext(t, p, 24, 3)
	wantNext(t, p, 25, 1, 3)
	wantNext(t, p, 39, 3)
	wantNext(t, p, 45, 2, 1, 3)
}

func TestADeadOneDoesNotTakeATurn(t *testing.T) {
	p := New(1, 2, 3, 4)
	wantNext(t, p, 0, 1)
	wantDead(t, p, 0, 4)
	wantNext(t, p, 19, 2)
	wantNext(t, p, 20, 4, 3, 1)
	wantNext(t, p, 40, 4, 2)
	wantAlive(t, p, 4)
	wantNext(t, p, 60, 3, 4, 1)
}

func TestOfNoneToldYetTheFirst(t *testing.T) {
	p := New(5, 6, 7)
	wantDead(t, p, 0, 5)
	wantNext(t, p, 20, 5, 6, 7, 6)

	told := New(5, 6, 7) // only as a dead one
	wantDead(t, told, 0, 7)
	wantNext(t, told, 20, 7, 5, 6)

	back := New(5, 6, 7)
	wantDead(t, back, 0, 5, 6, 7)
	wantNext(t, back, 10, 0, 0, 0, 0)
	wantNext(t, back, 20, 5, 6, 7, 0, 0)
	wantAlive(t, back, 7, 6, 5)
	wantNext(t, back, 20, 5, 6, 7, 5)
}

func TestTheRoundGoesOnBehindWhoDied(t *testing.T) {
	p := New(1, 2, 3, 4)
	wantNext(t, p, 0, 1, 2)
	wantDead(t, p, 0, 2) // who was told last
	wantNext(t, p, 0, 3)
	wantDead(t, p, 0, 4) // who would be told next
	wantNext(t, p, 0, 1, 3, 1)
	wantAlive(t, p, 2)
	wantNext(t, p, 0, 2, 3, 1)
	wantDead(t, p, 0, 1)
	wantAlive(t, p, 1) // and so who was told last is still behind all others
	wantNext(t, p, 0, 2, 3, 1)
	wantDead(t, p, 0, 3, 1)
	wantNext(t, p, 0, 2, 2)
	wantAlive(t, p, 1, 3)
	wantNext(t, p, 0, 3, 1, 2)
}

// In which nobody was told as alive, the round stands still.
func TestTheRoundOutlastsThatAllAreDead(t *testing.T) {
	p := New(1, 2, 3)
	wantNext(t, p, 0, 1, 2)
	wantDead(t, p, 0, 1, 2, 3)
	wantNext(t, p, 5, 0, 0)
	wantNext(t, p, 20, 1, 2, 3, 0, 0)
	wantAlive(t, p, 1, 2, 3)
	wantNext(t, p, 20, 3, 1, 2)
}

func TestWhoIsDeadAgainIsLeftAloneAnew(t *testing.T) {
	p := New(4, 6)
	wantDead(t, p, 0, 6)
	wantDead(t, p, 15, 6)
	wantNext(t, p, 34, 4)
	wantNext(t, p, 35, 6, 4)
	wantDead(t, p, 7, 6) // a time ahead of that at which it was told
	wantNext(t, p, 26, 4)
	wantNext(t, p, 27, 6, 4)
}

func TestWhoComesBackIsAliveAtOnce(t *testing.T) {
	p := New(4, 6, 8)
	wantDead(t, p, 0, 6)
	wantIs(t, p, 4, 8)
	wantAlive(t, p, 6)
	wantIs(t, p, 4, 6, 8)
	wantNext(t, p, 100, 4, 6, 8, 4)
	wantDead(t, p, 100, 6) // and what was ahead of that is no matter
	wantNext(t, p, 119, 8, 4)
	wantNext(t, p, 120, 6, 8)
}

func TestWhoIsAliveMayBeToldSoAgain(t *testing.T) {
	p := New(4, 6, 8)
	wantNext(t, p, 0, 4)
	wantAlive(t, p, 4, 6, 8, 8)
	wantNext(t, p, 0, 6)
	wantAlive(t, p, 8, 6, 4)
	wantNext(t, p, 0, 8, 4)
	wantIs(t, p, 4, 6, 8)
}

// To be told as dead is not to come back.
func TestADeadOneStaysDeadTillItIsAlive(t *testing.T) {
	p := New(4, 6)
	wantDead(t, p, 0, 6, 4)
	for now := 20; now < 200; now += 20 {
		wantNext(t, p, now, 4, 6, 0)
		wantIs(t, p)
	}
	wantAlive(t, p, 6)
	wantNext(t, p, 200, 4, 6, 6)
	wantIs(t, p, 6)
}

func TestAFullRow(t *testing.T) {
	p := New(upTo(1, 31)...)
	wantDead(t, p, 0, upTo(1, 31)...)
	wantNext(t, p, 19, 0)
	wantNext(t, p, 20, append(upTo(1, 31), 0)...)
	wantAlive(t, p, upTo(1, 31)...)
	wantNext(t, p, 20, append(upTo(1, 31), 1)...)
}
