package button

import (
	"math"
	"math/big"
	"math/rand"
	"slices"
	"testing"

	"lamplight/api"
)

// plain is buttons by the document's words, one behind the other.
type plain struct {
	since map[int]int // of those that are down
	told  []int
}

func (p *plain) set(button int, down bool, now int) api.Errno {
	if button < 0 || button > 3 {
		return api.ErrArg
	}
	_, was := p.since[button]
	if down && !was {
		p.since[button] = now
	}
	if !down {
		delete(p.since, button)
		p.told = slices.DeleteFunc(p.told, func(n int) bool { return n == button })
	}
	return api.OK
}

func (p *plain) pressed(now int) []int {
	var pressed []int
	for button, since := range p.since {
		ticks := new(big.Int).Sub(big.NewInt(int64(now)), big.NewInt(int64(since)))
		if ticks.Cmp(big.NewInt(3)) >= 0 && !slices.Contains(p.told, button) {
			pressed = append(pressed, button)
		}
	}
	p.told = append(p.told, pressed...)
	slices.Sort(pressed)
	return pressed
}

func (p *plain) reset() { *p = plain{since: map[int]int{}} }

// pair is buttons, and what they are held against.
type pair struct {
	t    *testing.T
	what any
	x    Buttons
	want plain
}

func newPair(t *testing.T, what any) *pair {
	return &pair{t: t, what: what, want: plain{since: map[int]int{}}}
}

func (p *pair) set(button int, down bool, now int) {
	p.t.Helper()
	if got, want := p.x.Set(button, down, now), p.want.set(button, down, now); got != want {
		p.t.Fatalf("%v: Set(%d, %v, %d): %v; want %v", p.what, button, down, now, got, want)
	}
}

func (p *pair) pressed(now int) []int {
	p.t.Helper()
	got, want := p.x.Pressed(now), p.want.pressed(now)
	if !slices.Equal(got, want) {
		p.t.Fatalf("%v: Pressed(%d): %v; want %v", p.what, now, got, want)
	}
	return got
}

func (p *pair) reset() {
	p.x.Reset()
	p.want.reset()
}

func (p *pair) wantSame() {
	p.t.Helper()
	for button := -2; button < 6; button++ {
		_, want := p.want.since[button]
		if got := p.x.Down(button); got != want {
			p.t.Fatalf("%v: Down(%d): %v; want %v", p.what, button, got, want)
		}
	}
}

// anyButton is mostly one of the four, and now and then not.
func anyButton(r *rand.Rand) int {
	switch r.Intn(30) {
	case 0:
		return strangers[r.Intn(len(strangers))]
	case 1:
		return r.Intn(20) - 10
	}
	return r.Intn(4)
}

// anyTime is mostly one that is behind the last one by some ticks, or none, and
// now and then far from it.
func anyTime(r *rand.Rand, now int) int {
	switch r.Intn(60) {
	case 0:
		return now - r.Intn(10)
	case 1:
		return []int{math.MinInt, math.MinInt + 3, -3, 0, math.MaxInt - 3, math.MaxInt}[r.Intn(6)]
	case 2:
		return int(r.Uint64())
	case 3:
		return r.Intn(1000)
	}
	return now + r.Intn(3) // and so round, from the greatest to the least
}

func TestLongRunsAgainstPlainButtons(t *testing.T) {
	for seed := range int64(100) {
		r := rand.New(rand.NewSource(seed))
		p := newPair(t, seed)
		now := 0
		for range 2000 {
			now = anyTime(r, now)
			switch op := r.Intn(40); {
			case op == 0:
				p.reset()
			case op < 14:
				p.set(anyButton(r), true, now)
			case op < 20:
				p.set(anyButton(r), false, now)
			default:
				p.pressed(now)
			}
			p.wantSame()
		}
	}
}

// Whatever happens in a few steps, each behind no tick, or one, or so many that
// who is down is nearly due, or is.
func TestWhateverHappensInAFewSteps(t *testing.T) {
	buttons := []int{3, 0}
	var from func(script []int)
	from = func(script []int) {
		if len(script) < 6 {
			for op := range 9 {
				from(append(script[:len(script):len(script)], op))
			}
			return
		}
		p := newPair(t, script)
		now := 0
		for _, op := range script {
			switch {
			case op < 4:
				now += op
				p.pressed(now)
			case op < 6:
				p.set(buttons[op-4], true, now)
			case op < 8:
				p.set(buttons[op-6], false, now)
			default:
				p.reset()
			}
		}
		p.wantSame()
		p.pressed(now + 2)
		p.pressed(now + 3)
	}
	from(nil)
}

// Asked at each tick, who is held for three ticks or more is told once, three
// ticks after it went down; who is held for less is not told.
func TestEachPressIsToldOnce(t *testing.T) {
	for seed := range int64(50) {
		r := rand.New(rand.NewSource(seed))
		var x Buttons
		var since, till [4]int
		for now := 1; now < 1000; now++ {
			var want []int
			for button := range 4 {
				if till[button] == now {
					release(t, &x, now, button)
				}
				if till[button] <= now && r.Intn(4) == 0 {
					since[button], till[button] = now, now+1+r.Intn(6)
					press(t, &x, now, button)
				}
				if since[button] > 0 && now == since[button]+Hold && till[button] > now {
					want = append(want, button)
				}
			}
			wantPressed(t, &x, now, want...)
		}
	}
}
