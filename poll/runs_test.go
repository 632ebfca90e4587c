package poll

import (
	"bytes"
	"math"
	"math/big"
	"math/rand"
	"slices"
	"testing"

	"lamplight/api"
)

// plain is a poll by the document's words, one behind the other.
type plain struct {
	row   []uint8
	since map[uint8]int // of those that are dead
	last  uint8         // the one that was told last as alive; 0 of none
}

func newPlain(addrs []uint8) *plain {
	p := &plain{since: map[uint8]int{}}
	for _, addr := range addrs {
		if addr != 0 && addr < 32 && !slices.Contains(p.row, addr) {
			p.row = append(p.row, addr)
		}
	}
	return p
}

func (p *plain) is(addr uint8) bool {
	_, dead := p.since[addr]
	return slices.Contains(p.row, addr) && !dead
}

// apart is by numbers of any size.
func apart(from, to int) *big.Int {
	return new(big.Int).Sub(big.NewInt(int64(to)), big.NewInt(int64(from)))
}

func (p *plain) next(now int) (uint8, bool) {
	var due []uint8
	for _, addr := range p.row {
		since, dead := p.since[addr]
		if dead && apart(since, now).Cmp(big.NewInt(20)) >= 0 {
			due = append(due, addr)
		}
	}
	if len(due) > 0 {
		slices.SortStableFunc(due, func(a, b uint8) int { return apart(p.since[b], p.since[a]).Sign() })
		p.since[due[0]] = now
		return due[0], true
	}
	behind := slices.Index(p.row, p.last) + 1 // 0 is not there: 0
	for _, addr := range slices.Concat(p.row[behind:], p.row[:behind]) {
		if p.is(addr) {
			p.last = addr
			return addr, true
		}
	}
	return 0, false
}

func (p *plain) alive(addr uint8) api.Errno {
	if !slices.Contains(p.row, addr) {
		return api.ErrNone
	}
	delete(p.since, addr)
	return api.OK
}

func (p *plain) dead(addr uint8, now int) api.Errno {
	if !slices.Contains(p.row, addr) {
		return api.ErrNone
	}
	p.since[addr] = now
	return api.OK
}

// pair is a poll and a plain one, to which the same is done.
type pair struct {
	t    *testing.T
	what any
	p    *Poll
	want *plain
}

func newPair(t *testing.T, what any, addrs ...uint8) *pair {
	return &pair{t, what, New(addrs...), newPlain(addrs)}
}

func (x *pair) next(now int) uint8 {
	x.t.Helper()
	got, is := x.p.Next(now)
	want, ok := x.want.next(now)
	if got != want || is != ok {
		x.t.Fatalf("%v: Next(%d): %d, %v; want %d, %v", x.what, now, got, is, want, ok)
	}
	return got
}

func (x *pair) alive(addr uint8) {
	x.t.Helper()
	if got, want := x.p.Alive(addr), x.want.alive(addr); got != want {
		x.t.Fatalf("%v: Alive(%d): %v; want %v", x.what, addr, got, want)
	}
}

func (x *pair) dead(addr uint8, now int) {
	x.t.Helper()
	if got, want := x.p.Dead(addr, now), x.want.dead(addr, now); got != want {
		x.t.Fatalf("%v: Dead(%d, %d): %v; want %v", x.what, addr, now, got, want)
	}
}

func (x *pair) wantSame() {
	x.t.Helper()
	if got := x.p.Addrs(); !bytes.Equal(got, x.want.row) {
		x.t.Fatalf("%v: Addrs: %v; want %v", x.what, got, x.want.row)
	}
	for addr := range 34 {
		if got, want := x.p.Is(uint8(addr)), x.want.is(uint8(addr)); got != want {
			x.t.Fatalf("%v: Is(%d): %v; want %v", x.what, addr, got, want)
		}
	}
}

// anyRow is a row with some that are there twice, or may not be there.
func anyRow(r *rand.Rand) []uint8 {
	row := make([]uint8, r.Intn(12))
	if r.Intn(4) == 0 {
		row = make([]uint8, r.Intn(300))
	}
	for i := range row {
		row[i] = uint8(r.Intn(40))
		if r.Intn(20) == 0 {
			row[i] = uint8(r.Intn(256))
		}
	}
	return row
}

// anyAddr is mostly one of the row, and now and then not.
func anyAddr(r *rand.Rand, row []uint8) uint8 {
	if len(row) == 0 || r.Intn(12) == 0 {
		return uint8(r.Intn(256))
	}
	return row[r.Intn(len(row))]
}

// anyTime is mostly one that is behind the last one by some ticks, or none, and
// now and then far from it.
func anyTime(r *rand.Rand, now int) int {
	switch r.Intn(60) {
	case 0:
		return now - r.Intn(50)
	case 1:
		return []int{math.MinInt, math.MinInt + 20, -20, 0, math.MaxInt - 20, math.MaxInt}[r.Intn(6)]
	case 2:
		return int(r.Uint64())
	case 3:
		return r.Intn(1000)
	}
	return now + r.Intn(4) // and so round, from the greatest to the least
}

func TestLongRunsAgainstAPlainPoll(t *testing.T) {
	for seed := range int64(150) {
		r := rand.New(rand.NewSource(seed))
		x := newPair(t, seed, anyRow(r)...)
		dies := 1 + r.Intn(6)
		now := 0
		for range 1500 {
			now = anyTime(r, now)
			switch op := r.Intn(20); {
			case op < dies:
				x.dead(anyAddr(r, x.want.row), anyTime(r, now))
			case op < 9:
				x.alive(anyAddr(r, x.want.row))
			default:
				x.next(now)
			}
			x.wantSame()
		}
	}
}

// Whatever happens in a few steps, each behind no tick, or one, or so many that
// who is dead is nearly due, or is.
func TestWhateverHappensInAFewSteps(t *testing.T) {
	row := []uint8{2, 1}
	var from func(script []int)
	from = func(script []int) {
		if len(script) < 6 {
			for op := range 8 {
				from(append(script[:len(script):len(script)], op))
			}
			return
		}
		x := newPair(t, script, row...)
		now := 0
		for _, op := range script {
			switch {
			case op < 4:
				now += []int{0, 1, 19, 20}[op]
				x.next(now)
			case op < 6:
				x.dead(row[op-4], now)
			default:
				x.alive(row[op-6])
			}
		}
		x.wantSame()
		for range 4 {
			x.next(now)
		}
	}
	from(nil)
}

// Who is alive is told once ahead of any other one of these that is told twice,
// as long as none dies or comes back.
func TestEachThatIsAliveHasItsTurn(t *testing.T) {
	for seed := range int64(100) {
		r := rand.New(rand.NewSource(seed))
		p := New(someOfAll(r)...)
		now := 0
		for range 20 {
			alive, dead := split(t, r, p, now)
			var turns []uint8
			for range 150 {
				now++
				if addr, ok := p.Next(now); ok && p.Is(addr) {
					turns = append(turns, addr)
				}
			}
			if len(alive) > 0 && len(turns) < 30 {
				t.Fatalf("seed %d: %d dead: %v are told", seed, dead, turns)
			}
			for i := range len(turns) - len(alive) + 1 {
				round := slices.Sorted(slices.Values(turns[i:][:len(alive)]))
				if !bytes.Equal(round, alive) {
					t.Fatalf("seed %d: of %v, %v have a turn", seed, alive, round)
				}
			}
		}
	}
}

// If it is asked at each tick, of a dead one it is twenty ticks or more from one
// time that it is told to the next one, and no more by others than there are.
func TestEachThatIsDeadIsTriedNowAndThen(t *testing.T) {
	for seed := range int64(100) {
		r := rand.New(rand.NewSource(seed))
		p := New(someOfAll(r)...)
		_, dead := split(t, r, p, 0)
		last := make([]int, api.MaxAddr+1)
		for now := range 1000 {
			addr, ok := p.Next(now)
			if !ok || p.Is(addr) {
				continue
			}
			if left := now - last[addr]; left < Again || left >= Again+dead {
				t.Fatalf("seed %d: of %d dead %d is told at %d, and at %d", seed, dead, addr, last[addr], now)
			}
			last[addr] = now
		}
		for _, addr := range p.Addrs() {
			if !p.Is(addr) && last[addr] < 1000-Again-dead {
				t.Fatalf("seed %d: of %d dead %d is told at %d, and no more", seed, dead, addr, last[addr])
			}
		}
	}
}

// someOfAll is a row of addresses, each once, in any order.
func someOfAll(r *rand.Rand) []uint8 {
	all := upTo(1, api.MaxAddr)
	r.Shuffle(len(all), func(i, j int) { all[i], all[j] = all[j], all[i] })
	return all[:1+r.Intn(len(all))]
}

// split has some be dead, since now, and all others alive: these, rising, and
// how many are dead. As twenty who are dead take all ticks, they are fewer.
func split(t *testing.T, r *rand.Rand, p *Poll, now int) ([]uint8, int) {
	var alive []uint8
	dead := 0
	for _, addr := range p.Addrs() {
		if dead < 15 && r.Intn(3) == 0 {
			wantDead(t, p, now, addr)
			dead++
		} else {
			wantAlive(t, p, addr)
			alive = append(alive, addr)
		}
	}
	slices.Sort(alive)
	return alive, dead
}
