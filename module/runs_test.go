package module

import (
	"fmt"
	"math"
	"math/rand"
	"slices"
	"testing"

	"lamplight/api"
	"lamplight/button"
	"lamplight/master"
	"lamplight/slave"
)

// plain is a module by the document's words, one behind the other.
type plain struct {
	s       *slave.Slave
	buttons button.Buttons
	shown   Display
}

func number(hi, lo byte) uint16 { return uint16(hi)*256 + uint16(lo) }

func (p *plain) take(f api.Frame) (api.Frame, bool) {
	answer, b, ok := p.s.Take(f)
	if len(b) != 5 {
		return answer, ok
	}
	kind, token, qty := b[0], number(b[1], b[2]), number(b[3], b[4])
	same := p.shown.Lit && p.shown.Token == token
	if kind == 1 {
		if same && !p.shown.Latched || same && p.s.Pending() {
			return answer, ok
		}
		p.shown.Lit, p.shown.Latched = true, false
		p.shown.Token, p.shown.Most, p.shown.Qty = token, qty, qty
	}
	if kind == 2 && same {
		p.shown = Display{}
	}
	return answer, ok
}

func (p *plain) tick(now int) {
	for _, pressed := range p.buttons.Pressed(now) {
		if !p.shown.Lit || p.shown.Latched {
			continue
		}
		switch pressed {
		case 1:
			p.shown.Qty = uint16(min(int(p.shown.Qty)+1, int(p.shown.Most)))
		case 2:
			p.shown.Qty = uint16(max(int(p.shown.Qty)-1, 0))
		case 0, 3:
			kind := byte(1)
			if pressed == 3 {
				kind = 2
			}
			token, qty := p.shown.Token, p.shown.Qty
			b := []byte{kind, byte(token / 256), byte(token % 256), byte(qty / 256), byte(qty % 256)}
			if p.s.Offer(b) == api.OK {
				p.shown.Latched = true
			}
		}
	}
}

func (p *plain) reset() { *p = plain{s: slave.New(addr)} }

// pair is a module, and what it is held against.
type pair struct {
	t    *testing.T
	what any
	m    *Module
	want plain
}

func newPair(t *testing.T, what any) *pair {
	p := &pair{t: t, what: what, m: New(addr)}
	p.want.reset()
	return p
}

func (p *pair) take(f api.Frame) api.Frame {
	p.t.Helper()
	got, is := p.m.Take(f)
	if want, ok := p.want.take(f); !same(got, want) || is != ok {
		p.t.Fatalf("%v: Take(%v): %v, %v; want %v, %v", p.what, f, got, is, want, ok)
	}
	return got
}

func (p *pair) set(button int, down bool, now int) {
	p.t.Helper()
	if got, want := p.m.Set(button, down, now), p.want.buttons.Set(button, down, now); got != want {
		p.t.Fatalf("%v: Set(%d, %v, %d): %v; want %v", p.what, button, down, now, got, want)
	}
}

func (p *pair) tick(now int) {
	p.m.Tick(now)
	p.want.tick(now)
}

func (p *pair) reset() {
	p.m.Reset()
	p.want.reset()
}

func (p *pair) wantSame() {
	p.t.Helper()
	if got := p.m.Show(); got != p.want.shown {
		p.t.Fatalf("%v: Show: %+v; want %+v", p.what, got, p.want.shown)
	}
}

// anyCommand is mostly one of few tokens, and few of each; now and then of
// bytes that are none.
func anyCommand(r *rand.Rand) []byte {
	tokens := []uint16{0, 1, 1, 256, 65535}
	qtys := []uint16{0, 1, 2, 2, 3, 9999, 65535}
	c := api.Command{Kind: uint8(1 + r.Intn(8)/6), Token: tokens[r.Intn(5)], Qty: qtys[r.Intn(7)]}
	b := CommandBytes(c)
	switch r.Intn(20) {
	case 0:
		b = b[:r.Intn(6)]
	case 1:
		b = append(b, make([]byte, r.Intn(20))...)
	case 2:
		b[0] = byte(r.Intn(256))
	}
	return b
}

// anyFrame is mostly one that is taken, and now and then not.
func anyFrame(r *rand.Rand) api.Frame {
	f := api.Frame{Addr: addr, Kind: api.Data, Session: session, Seq: uint8(r.Intn(2)), Ack: uint8(r.Intn(2)), B: anyCommand(r)}
	switch r.Intn(30) {
	case 0:
		f.Addr = uint8(r.Intn(33))
	case 1:
		f.Kind = uint8(r.Intn(7))
	case 2:
		f.Session = uint8(r.Intn(256))
	case 3, 4:
		f.Kind = api.Open
	case 5, 6, 7, 8:
		f.Kind, f.B = api.Poll, nil
	case 9:
		f.Seq, f.Ack = uint8(r.Intn(256)), uint8(r.Intn(256))
	}
	return f
}

func anyButton(r *rand.Rand) int {
	switch r.Intn(40) {
	case 0:
		return r.Intn(20) - 10
	case 1:
		return int(r.Uint64())
	}
	return r.Intn(4)
}

func anyTime(r *rand.Rand, now int) int {
	switch r.Intn(200) {
	case 0:
		return now - r.Intn(10)
	case 1:
		return []int{math.MinInt, -3, 0, math.MaxInt}[r.Intn(4)]
	}
	return now + r.Intn(3)
}

func TestLongRunsAgainstAPlainModule(t *testing.T) {
	for seed := range int64(120) {
		r := rand.New(rand.NewSource(seed))
		p := newPair(t, seed)
		now := 0
		for range 3000 {
			now = anyTime(r, now)
			switch op := r.Intn(200); {
			case op == 0:
				p.reset()
			case op < 30:
				p.take(anyFrame(r))
			case op < 90:
				p.set(anyButton(r), true, now)
			case op < 120:
				p.set(anyButton(r), false, now)
			default:
				p.tick(now)
			}
			p.wantSame()
		}
	}
}

// script is what happens in a few steps, by a number each.
type script struct {
	*pair
	seq, ack uint8
	now      int
}

func (x *script) step(op int) {
	x.t.Helper()
	switch {
	case op < 4:
		x.press(op)
	case op < 7:
		x.command([]api.Command{
			{Kind: api.Light, Token: 7, Qty: 2},
			{Kind: api.Light, Token: 8, Qty: 1},
			{Kind: api.Clear, Token: 7, Qty: 1},
		}[op-4])
	case op == 7:
		x.hear()
	case op == 8:
		x.press(2, 3)
	case op == 9:
		x.open()
	}
	x.wantSame()
}

func (x *script) press(buttons ...int) {
	for _, down := range []bool{true, false} {
		for _, button := range buttons {
			x.set(button, down, x.now)
		}
		x.now += button.Hold
		x.tick(x.now)
	}
}

func (x *script) command(c api.Command) {
	x.take(api.Frame{Addr: addr, Kind: api.Data, Session: session, Seq: x.seq, Ack: x.ack, B: CommandBytes(c)})
	x.seq ^= 1
}

// hear tells nobody that it was heard, till the next frame does.
func (x *script) hear() {
	if a := x.take(api.Frame{Addr: addr, Kind: api.Poll, Session: session, Ack: x.ack}); len(a.B) > 0 {
		x.ack ^= 1
	}
}

func (x *script) open() {
	x.take(api.Frame{Addr: addr, Kind: api.Open, Session: session})
	x.seq, x.ack = 0, 0
}

func TestWhateverHappensInAFewSteps(t *testing.T) {
	var from func(ops []int)
	from = func(ops []int) {
		if len(ops) < 5 {
			for op := range 10 {
				from(append(ops[:len(ops):len(ops)], op))
			}
			return
		}
		x := &script{pair: newPair(t, ops)}
		x.open()
		x.step(4)
		for _, op := range ops {
			x.step(op)
		}
		x.hear()
		x.hear()
	}
	from(nil)
}

// line is a module, and who asks it, on wires that lose and double; each token
// is lit by one command, once.
type line struct {
	r        *rand.Rand
	m        *master.Master
	x        *Module
	now      int
	down, up []api.Frame
	lit      map[uint16]uint16
	heard    map[uint16][]api.Event
}

// exchange is one frame to the module, and one back, each of them not at all,
// or once, or twice; what comes twice may come later.
func (l *line) exchange(losses int) {
	said := l.m.Next()
	for range l.times(losses) {
		l.down = append(l.down, said)
	}
	for len(l.down) > l.r.Intn(2)*losses {
		a, ok := l.x.Take(l.down[0])
		l.down = l.down[1:]
		for ok && l.times(losses) > 0 {
			l.up = append(l.up, a)
			ok = l.r.Intn(2) == 0 && losses > 0
		}
	}
	if len(l.up) == 0 {
		l.m.Missed()
	}
	for len(l.up) > l.r.Intn(2)*losses {
		b, _ := l.m.Heard(l.up[0])
		l.up = l.up[1:]
		if e, err := ParseEvent(b); err == api.OK {
			l.heard[e.Token] = append(l.heard[e.Token], e)
		}
	}
}

func (l *line) times(losses int) int {
	switch n := l.r.Intn(6); {
	case losses == 0 || n > 1:
		return 1
	case n == 1:
		return 2
	}
	return 0
}

func (l *line) light() {
	token := uint16(len(l.lit))
	qty := uint16(l.r.Intn(4))
	if l.m.Send(CommandBytes(api.Command{Kind: api.Light, Token: token, Qty: qty})) == api.OK {
		l.lit[token] = qty
	}
}

func (l *line) tick() {
	for button := range 4 {
		if l.r.Intn(5) == 0 {
			l.x.Set(button, l.r.Intn(3) > 0, l.now)
		}
	}
	l.x.Tick(l.now)
	l.now++
}

// Another session may have what was heard told again, but never another thing.
func TestOfATokenAtMostOneThingIsTold(t *testing.T) {
	told, again := 0, 0
	for seed := range int64(60) {
		l := &line{
			r: rand.New(rand.NewSource(seed)), m: master.New(addr, 3), x: New(addr),
			lit: map[uint16]uint16{}, heard: map[uint16][]api.Event{},
		}
		for range 2000 {
			if l.r.Intn(6) == 0 {
				l.light()
			}
			l.exchange(1)
			l.tick()
		}
		for range 40 {
			l.exchange(0)
		}
		for token, events := range l.heard {
			most, ok := l.lit[token]
			one := slices.Compact(slices.Clone(events))
			if !ok || len(one) != 1 || one[0].Qty > most {
				t.Fatalf("seed %d: of %d of token %d: %v", seed, most, token, events)
			}
			told, again = told+1, again+len(events)-1
		}
		if d := l.x.Show(); d.Latched && len(l.heard[d.Token]) == 0 {
			t.Fatalf("seed %d: nothing was heard of %+v", seed, d)
		}
	}
	if told < 1000 || again == 0 {
		t.Error(fmt.Sprint(told, " told, ", again, " again: that is no test"))
	}
}
