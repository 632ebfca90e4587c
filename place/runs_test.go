package place

import (
	"bytes"
	"math/rand"
	"slices"
	"testing"

	"lamplight/api"
)

// plain is places by the document's words: of each address what it is, which
// is free, spare, broken, or the location that it shows.
type plain struct {
	is [256]int
}

const (
	free   = -1
	spare  = -2
	broken = -3
	nobody = -4 // no such address
)

func newPlain(spares []uint8) *plain {
	p := new(plain)
	for addr := range p.is {
		p.is[addr] = nobody
		if addr >= 1 && addr <= 31 {
			p.is[addr] = free
			if slices.Contains(spares, uint8(addr)) {
				p.is[addr] = spare
			}
		}
	}
	return p
}

// all are the addresses that are that, rising.
func (p *plain) all(what int) []uint8 {
	var all []uint8
	for addr, is := range p.is[:32] {
		if is == what {
			all = append(all, uint8(addr))
		}
	}
	return all
}

func (p *plain) locs() []uint16 {
	var locs []uint16
	for loc := range 64 {
		if len(p.all(loc)) > 0 {
			locs = append(locs, uint16(loc))
		}
	}
	return locs
}

func (p *plain) mapTo(loc uint16, addr uint8) api.Errno {
	switch {
	case loc > 63 || p.is[addr] == nobody:
		return api.ErrArg
	case len(p.all(int(loc))) > 0 || p.is[addr] != free:
		return api.ErrTwice
	}
	p.is[addr] = int(loc)
	return api.OK
}

func (p *plain) fail(addr uint8) (uint8, api.Errno) {
	was := p.is[addr]
	switch {
	case was == nobody || was == free:
		return 0, api.ErrNone
	case was == broken:
		return 0, api.ErrState
	case was == spare:
		p.is[addr] = broken
		return 0, api.OK
	}
	spares := p.all(spare)
	if len(spares) == 0 {
		return 0, api.ErrFull
	}
	p.is[addr], p.is[spares[0]] = broken, was
	return spares[0], api.OK
}

func (p *plain) bring(addr uint8) api.Errno {
	switch p.is[addr] {
	case nobody, free:
		return api.ErrNone
	case broken:
		p.is[addr] = spare
		return api.OK
	}
	return api.ErrState
}

// pair is places and plain ones, to which the same is done.
type pair struct {
	t    *testing.T
	what any
	p    *Places
	want *plain
}

func newPair(t *testing.T, what any, spares ...uint8) *pair {
	return &pair{t, what, New(spares...), newPlain(spares)}
}

func (x *pair) mapTo(loc uint16, addr uint8) {
	x.t.Helper()
	if got, want := x.p.Map(loc, addr), x.want.mapTo(loc, addr); got != want {
		x.t.Fatalf("%v: Map(%d, %d): %v; want %v", x.what, loc, addr, got, want)
	}
}

func (x *pair) fail(addr uint8) {
	x.t.Helper()
	got, err := x.p.Fail(addr)
	want, wantErr := x.want.fail(addr)
	if got != want || err != wantErr {
		x.t.Fatalf("%v: Fail(%d): %d, %v; want %d, %v", x.what, addr, got, err, want, wantErr)
	}
}

func (x *pair) bring(addr uint8) {
	x.t.Helper()
	if got, want := x.p.Bring(addr), x.want.bring(addr); got != want {
		x.t.Fatalf("%v: Bring(%d): %v; want %v", x.what, addr, got, want)
	}
}

func (x *pair) wantSame() {
	x.t.Helper()
	if got, want := x.p.Spares(), x.want.all(spare); !bytes.Equal(got, want) {
		x.t.Fatalf("%v: Spares: %v; want %v", x.what, got, want)
	}
	if got, want := x.p.Locs(), x.want.locs(); !slices.Equal(got, want) {
		x.t.Fatalf("%v: Locs: %v; want %v", x.what, got, want)
	}
	for loc := range uint16(66) {
		x.wantAt(loc)
	}
	for addr := range 34 {
		is := x.want.is[addr]
		want, wantOK := uint16(max(is, 0)), is >= 0
		if got, ok := x.p.Of(uint8(addr)); got != want || ok != wantOK {
			x.t.Fatalf("%v: Of(%d): %d, %v; want %d, %v", x.what, addr, got, ok, want, wantOK)
		}
	}
}

func (x *pair) wantAt(loc uint16) {
	x.t.Helper()
	var want uint8
	all := x.want.all(int(loc))
	if len(all) > 0 {
		want = all[0]
	}
	if got, ok := x.p.At(loc); got != want || ok != (len(all) > 0) {
		x.t.Fatalf("%v: At(%d): %d, %v; want %d", x.what, loc, got, ok, want)
	}
}

// anyRow is a row with some that are there twice, or may not be there.
func anyRow(r *rand.Rand) []uint8 {
	row := make([]uint8, r.Intn(16))
	for i := range row {
		row[i] = anyAddr(r)
	}
	return row
}

// anyAddr is mostly one that there is.
func anyAddr(r *rand.Rand) uint8 {
	if r.Intn(20) == 0 {
		return uint8(r.Intn(256))
	}
	return uint8(r.Intn(33))
}

// anyLoc is mostly one that there is.
func anyLoc(r *rand.Rand) uint16 {
	if r.Intn(20) == 0 {
		return uint16(r.Intn(1 << 16))
	}
	return uint16(r.Intn(65))
}

func TestLongRunsAgainstPlainPlaces(t *testing.T) {
	for seed := range int64(120) {
		r := rand.New(rand.NewSource(seed))
		x := newPair(t, seed, anyRow(r)...)
		fails := 2 + r.Intn(6)
		for range 300 {
			switch op := r.Intn(12); {
			case op < 2:
				x.mapTo(anyLoc(r), anyAddr(r))
			case op < 2+fails:
				x.fail(anyAddr(r))
			default:
				x.bring(anyAddr(r))
			}
			x.wantSame()
		}
	}
}

// Whatever happens in a few steps to three addresses and the two locations at
// the ends, from each row of spares on.
func TestWhateverHappensInAFewSteps(t *testing.T) {
	addrs := []uint8{1, 2, 31}
	var from func(spares []uint8, script []int)
	from = func(spares []uint8, script []int) {
		if len(script) < 4 {
			for op := range 12 {
				from(spares, append(script[:len(script):len(script)], op))
			}
			return
		}
		x := newPair(t, script, spares...)
		for _, op := range script {
			addr := addrs[op%3]
			switch op / 3 {
			case 0:
				x.mapTo(0, addr)
			case 1:
				x.mapTo(63, addr)
			case 2:
				x.fail(addr)
			default:
				x.bring(addr)
			}
		}
		x.wantSame()
	}
	for _, spares := range [][]uint8{nil, {1}, {31}, {1, 2}, {31, 2}, {2, 31, 1}} {
		from(spares, nil)
	}
}

// A location that is shown stays so, and each is shown by one that shows no
// other one.
func TestALocationThatIsShownStaysSo(t *testing.T) {
	for seed := range int64(120) {
		r := rand.New(rand.NewSource(seed))
		p := New(anyRow(r)...)
		var was []uint16
		for range 400 {
			switch r.Intn(4) {
			case 0:
				p.Map(anyLoc(r), anyAddr(r))
			case 1:
				p.Bring(anyAddr(r))
			default:
				p.Fail(anyAddr(r))
			}
			locs := p.Locs()
			for _, loc := range was {
				if !slices.Contains(locs, loc) {
					t.Fatalf("seed %d: %d is shown no more", seed, loc)
				}
			}
			was = locs
			for _, loc := range locs {
				addr, ok := p.At(loc)
				if of, is := p.Of(addr); !ok || !is || of != loc || slices.Contains(p.Spares(), addr) {
					t.Fatalf("seed %d: %d shows %d, and %d", seed, addr, loc, of)
				}
			}
		}
	}
}
