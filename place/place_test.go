package place

import (
	"bytes"
	"slices"
	"testing"

	"lamplight/api"
)

// shows is what all of places is, but for who is broken: of each location who
// shows it.
type shows map[uint16]uint8

// wantPlaces asks for every location and address that a number can tell.
func wantPlaces(t *testing.T, p *Places, want shows, spares ...uint8) {
	t.Helper()
	if got := p.Spares(); !bytes.Equal(got, spares) {
		t.Fatalf("Spares: %v; want %v", got, spares)
	}
	var locs []uint16
	of := map[uint8]uint16{}
	for loc := range uint16(api.MaxLocs) {
		if addr, ok := want[loc]; ok {
			locs = append(locs, loc)
			of[addr] = loc
		}
	}
	if got := p.Locs(); !slices.Equal(got, locs) {
		t.Fatalf("Locs: %v; want %v", got, locs)
	}
	for loc := range 1 << 9 {
		wantAt(t, p, uint16(loc), want[uint16(loc)])
	}
	wantAt(t, p, 65535, 0)
	for addr := range 256 {
		loc, is := of[uint8(addr)]
		if got, ok := p.Of(uint8(addr)); got != loc || ok != is {
			t.Fatalf("Of(%d): %d, %v; want %d, %v", addr, got, ok, loc, is)
		}
	}
}

// wantAt is of who shows a location; 0 is nobody.
func wantAt(t *testing.T, p *Places, loc uint16, addr uint8) {
	t.Helper()
	if got, ok := p.At(loc); got != addr || ok != (addr != 0) {
		t.Fatalf("At(%d): %d, %v; want %d", loc, got, ok, addr)
	}
}

func wantMap(t *testing.T, p *Places, loc uint16, addr uint8, want api.Errno) {
	t.Helper()
	if got := p.Map(loc, addr); got != want {
		t.Fatalf("Map(%d, %d): %v; want %v", loc, addr, got, want)
	}
}

func wantFail(t *testing.T, p *Places, addr, next uint8, want api.Errno) {
	t.Helper()
	if to, got := p.Fail(addr); to != next || got != want {
		t.Fatalf("Fail(%d): %d, %v; want %d, %v", addr, to, got, next, want)
	}
}

func wantBring(t *testing.T, p *Places, addr uint8, want api.Errno) {
	t.Helper()
	if got := p.Bring(addr); got != want {
		t.Fatalf("Bring(%d): %v; want %v", addr, got, want)
	}
}

// upTo is the numbers from one to another.
func upTo(from, to int) []uint8 {
	var numbers []uint8
	for n := from; n <= to; n++ {
		numbers = append(numbers, uint8(n))
	}
	return numbers
}

// oneOfEach has 1 show 5, and 2 show 40; 3 and 30 are spare, 4 is broken, and
// all others are free.
func oneOfEach(t *testing.T) *Places {
	t.Helper()
	p := New(30, 3, 4)
	wantMap(t, p, 40, 2, api.OK)
	wantMap(t, p, 5, 1, api.OK)
	wantFail(t, p, 4, 0, api.OK)
	wantOneOfEach(t, p)
	return p
}

func wantOneOfEach(t *testing.T, p *Places) {
	t.Helper()
	wantPlaces(t, p, shows{5: 1, 40: 2}, 3, 30)
	wantFail(t, p, 4, 0, api.ErrState)
}

func TestTheExample(t *testing.T) {
	p := New(9)
	wantMap(t, p, 5, 1, api.OK)
	wantFail(t, p, 1, 9, api.OK)
	wantAt(t, p, 5, 9)
	wantPlaces(t, p, shows{5: 9})
}

func TestWhatIsSpareAtFirst(t *testing.T) {
	backwards := upTo(0, 255)
	slices.Reverse(backwards)
	for _, c := range []struct {
		what          string
		given, spares []uint8
	}{
		{"none", nil, nil},
		{"nothing but strangers", []uint8{0, 32, 255, 0, 128}, nil},
		{"the least", []uint8{1}, []uint8{1}},
		{"the greatest", []uint8{31}, []uint8{31}},
		{"not in order", []uint8{7, 3, 31, 1, 20}, []uint8{1, 3, 7, 20, 31}},
		{"one twice, at once", []uint8{4, 4, 2}, []uint8{2, 4}},
		{"one twice, at the ends", []uint8{4, 2, 4}, []uint8{2, 4}},
		{"some twice, and strangers", []uint8{5, 0, 2, 5, 32, 9, 2, 9, 31, 33, 5}, []uint8{2, 5, 9, 31}},
		{"all there are", upTo(0, 255), upTo(1, 31)},
		{"all there are, backwards", backwards, upTo(1, 31)},
	} {
		t.Run(c.what, func(t *testing.T) {
			p := New(c.given...)
			wantPlaces(t, p, nil, c.spares...)
			for addr := range 256 {
				want := api.ErrNone
				if slices.Contains(c.spares, uint8(addr)) {
					want = api.ErrState
				}
				wantBring(t, p, uint8(addr), want)
			}
			wantPlaces(t, p, nil, c.spares...)
		})
	}
}

func TestALongListOfSpares(t *testing.T) {
	p := New(append(bytes.Repeat([]byte{0, 9, 32, 4, 255, 9}, 150000), 1)...)
	wantPlaces(t, p, nil, 1, 4, 9)
	wantFail(t, p, 4, 0, api.OK)
	wantPlaces(t, p, nil, 1, 9)
}

func TestNobodyIsThere(t *testing.T) {
	p := New()
	for addr := range 256 {
		wantFail(t, p, uint8(addr), 0, api.ErrNone)
		wantBring(t, p, uint8(addr), api.ErrNone)
	}
	wantPlaces(t, p, nil)
}

func TestAFreeOneShowsALocation(t *testing.T) {
	p := New(20)
	want := shows{}
	for _, c := range []struct {
		loc  uint16
		addr uint8
	}{{63, 31}, {0, 1}, {40, 2}, {1, 30}, {31, 3}} {
		wantMap(t, p, c.loc, c.addr, api.OK)
		want[c.loc] = c.addr
		wantPlaces(t, p, want, 20)
	}
}

func TestAllThatThereAreShow(t *testing.T) {
	p := New()
	want := shows{}
	for addr := uint8(31); addr >= 1; addr-- {
		wantMap(t, p, 64-2*uint16(addr), addr, api.OK)
		want[64-2*uint16(addr)] = addr
	}
	wantPlaces(t, p, want)
	for _, addr := range upTo(1, 31) {
		wantMap(t, p, 63, addr, api.ErrTwice)
		wantFail(t, p, addr, 0, api.ErrFull)
		wantBring(t, p, addr, api.ErrState)
	}
	wantPlaces(t, p, want)
}

// Each location can be shown, and no other, whoever is to show it.
func TestEachLocation(t *testing.T) {
	for loc := range 1 << 16 {
		p := New()
		want := api.OK
		if loc > 63 {
			want = api.ErrArg
		}
		wantMap(t, p, uint16(loc), 7, want)
		if addr, ok := p.At(uint16(loc)); ok != (loc <= 63) || ok && addr != 7 {
			t.Fatalf("At(%d): %d, %v", loc, addr, ok)
		}
		if got, ok := p.Of(7); ok != (loc <= 63) || ok && got != uint16(loc) {
			t.Fatalf("Of(7): %d, %v; want %d", got, ok, loc)
		}
		if locs := p.Locs(); len(locs) != 1 && loc <= 63 || len(locs) != 0 && loc > 63 {
			t.Fatalf("Locs behind Map(%d, 7): %v", loc, locs)
		}
	}
}

func TestEachAddress(t *testing.T) {
	for addr := range 256 {
		p := New()
		if addr < 1 || addr > 31 {
			wantMap(t, p, 9, uint8(addr), api.ErrArg)
			wantPlaces(t, p, nil)
			continue
		}
		wantMap(t, p, 9, uint8(addr), api.OK)
		wantPlaces(t, p, shows{9: uint8(addr)})
	}
}

func TestWhatMapRefuses(t *testing.T) {
	for _, c := range []struct {
		what string
		loc  uint16
		addr uint8
		want api.Errno
	}{
		{"no such location", 64, 9, api.ErrArg},
		{"a location far off", 65535, 9, api.ErrArg},
		{"a location that would be one in a byte", 256, 9, api.ErrArg},
		{"a location that is shown, and more", 256 + 5, 9, api.ErrArg},
		{"no such address", 6, 0, api.ErrArg},
		{"the address behind the last", 6, 32, api.ErrArg},
		{"an address far off", 6, 255, api.ErrArg},
		{"neither", 64, 32, api.ErrArg},
		{"no such location, for one that shows", 64, 1, api.ErrArg},
		{"no such location, for a spare one", 64, 3, api.ErrArg},
		{"no such location, for a broken one", 64, 4, api.ErrArg},
		{"no such address, for a location that is shown", 5, 0, api.ErrArg},
		{"an address behind the last, for a location that is shown", 5, 32, api.ErrArg},
		{"a location that is shown", 5, 9, api.ErrTwice},
		{"an address that shows another one", 6, 1, api.ErrTwice},
		{"once more", 5, 1, api.ErrTwice},
		{"one that is shown, by who shows another one", 5, 2, api.ErrTwice},
		{"a spare one", 6, 3, api.ErrTwice},
		{"a broken one", 6, 4, api.ErrTwice},
		{"a spare one, for a location that is shown", 5, 30, api.ErrTwice},
		{"a broken one, for a location that is shown", 40, 4, api.ErrTwice},
	} {
		t.Run(c.what, func(t *testing.T) {
			p := oneOfEach(t)
			wantMap(t, p, c.loc, c.addr, c.want)
			wantOneOfEach(t, p)
		})
	}
}

func TestWhatFailRefuses(t *testing.T) {
	p := oneOfEach(t)
	for addr := range 256 {
		if addr > 4 && addr != 30 || addr == 0 {
			wantFail(t, p, uint8(addr), 0, api.ErrNone)
		}
	}
	wantFail(t, p, 4, 0, api.ErrState)
	wantOneOfEach(t, p)
}

func TestWhatBringRefuses(t *testing.T) {
	p := oneOfEach(t)
	for addr := range 256 {
		want := api.ErrNone
		switch addr {
		case 4:
			continue
		case 1, 2, 3, 30:
			want = api.ErrState
		}
		wantBring(t, p, uint8(addr), want)
	}
	wantOneOfEach(t, p)
	wantBring(t, p, 4, api.OK)
	wantBring(t, p, 4, api.ErrState)
	wantPlaces(t, p, shows{5: 1, 40: 2}, 3, 4, 30)
}

func TestASpareOneFails(t *testing.T) {
	p := New(8, 2, 31)
	wantMap(t, p, 0, 1, api.OK)
	wantFail(t, p, 8, 0, api.OK)
	wantPlaces(t, p, shows{0: 1}, 2, 31)
	wantFail(t, p, 2, 0, api.OK)
	wantFail(t, p, 31, 0, api.OK)
	wantPlaces(t, p, shows{0: 1})
	for _, addr := range []uint8{2, 8, 31} {
		wantFail(t, p, addr, 0, api.ErrState)
		wantMap(t, p, 3, addr, api.ErrTwice)
	}
	wantFail(t, p, 1, 0, api.ErrFull)
	wantPlaces(t, p, shows{0: 1})
}

// Be the least spare one more than who is broken, or less, and come first in
// what New was handed, or not.
func TestTheLeastSpareOneTakesOver(t *testing.T) {
	p := New(30, 5, 20)
	wantMap(t, p, 0, 9, api.OK)
	wantMap(t, p, 63, 2, api.OK)
	wantFail(t, p, 9, 5, api.OK)
	wantPlaces(t, p, shows{0: 5, 63: 2}, 20, 30)
	wantFail(t, p, 2, 20, api.OK)
	wantPlaces(t, p, shows{0: 5, 63: 20}, 30)
	wantBring(t, p, 9, api.OK)
	wantFail(t, p, 20, 9, api.OK)
	wantPlaces(t, p, shows{0: 5, 63: 9}, 30)
	wantFail(t, p, 9, 30, api.OK)
	wantFail(t, p, 30, 0, api.ErrFull)
	wantPlaces(t, p, shows{0: 5, 63: 30})
}

// Who took over is one that shows, and no spare one; who is broken is none
// that shows.
func TestWhoTakesOverShows(t *testing.T) {
	p := New(9, 10)
	wantMap(t, p, 5, 1, api.OK)
	wantFail(t, p, 1, 9, api.OK)
	wantBring(t, p, 9, api.ErrState)
	wantFail(t, p, 1, 0, api.ErrState)
	wantMap(t, p, 5, 2, api.ErrTwice)
	wantMap(t, p, 6, 9, api.ErrTwice)
	wantMap(t, p, 6, 1, api.ErrTwice)
	wantPlaces(t, p, shows{5: 9}, 10)
	wantFail(t, p, 9, 10, api.OK)
	wantPlaces(t, p, shows{5: 10})
}

// None is spare: who shows goes on, and is not broken.
func TestNoneIsSpare(t *testing.T) {
	p := New(9)
	wantMap(t, p, 5, 1, api.OK)
	wantMap(t, p, 6, 2, api.OK)
	wantFail(t, p, 2, 9, api.OK)
	for range 2 {
		wantFail(t, p, 1, 0, api.ErrFull)
		wantPlaces(t, p, shows{5: 1, 6: 9})
		wantBring(t, p, 1, api.ErrState)
	}
	wantBring(t, p, 2, api.OK)
	wantFail(t, p, 1, 2, api.OK)
	wantPlaces(t, p, shows{5: 2, 6: 9})
}

// Who comes back is spare, and does not show again what it showed.
func TestWhoComesBackIsSpare(t *testing.T) {
	p := New(9)
	wantMap(t, p, 5, 1, api.OK)
	wantFail(t, p, 1, 9, api.OK)
	wantBring(t, p, 1, api.OK)
	wantPlaces(t, p, shows{5: 9}, 1)
	wantMap(t, p, 6, 1, api.ErrTwice)
	wantFail(t, p, 1, 0, api.OK)
	wantPlaces(t, p, shows{5: 9})
	wantBring(t, p, 1, api.OK)
	wantFail(t, p, 9, 1, api.OK)
	wantPlaces(t, p, shows{5: 1})
	wantFail(t, p, 1, 0, api.ErrFull)
	wantBring(t, p, 9, api.OK)
	wantPlaces(t, p, shows{5: 1}, 9)
}

func TestAllAreBroken(t *testing.T) {
	p := New(upTo(1, 31)...)
	for _, addr := range upTo(1, 31) {
		wantFail(t, p, addr, 0, api.OK)
	}
	wantPlaces(t, p, nil)
	for _, addr := range upTo(0, 31) {
		want := api.ErrTwice
		if addr == 0 {
			want = api.ErrArg
		}
		wantMap(t, p, 0, addr, want)
	}
	for addr := uint8(31); addr >= 1; addr-- {
		wantBring(t, p, addr, api.OK)
	}
	wantPlaces(t, p, nil, upTo(1, 31)...)
}

// One location goes from one to the next, through all that there are.
func TestALocationGoesThroughAll(t *testing.T) {
	p := New(upTo(2, 31)...)
	wantMap(t, p, 63, 1, api.OK)
	for _, addr := range upTo(1, 30) {
		wantFail(t, p, addr, addr+1, api.OK)
		wantPlaces(t, p, shows{63: addr + 1}, upTo(int(addr)+2, 31)...)
	}
	wantFail(t, p, 31, 0, api.ErrFull)
	wantPlaces(t, p, shows{63: 31})
}
