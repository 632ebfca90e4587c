package slave

import (
	"fmt"
	"math/rand"
	"testing"

	"lamplight/api"
	"lamplight/master"
)

// both are a master and a slave, with two wires between them, and what goes
// over them: commands, each with its epoch and how many were sent in that
// ahead of it, and things, told by how many were offered ahead of it.
type both struct {
	m        *master.Master
	s        *Slave
	down, up []api.Frame

	epoch, sent int    // the epoch in which commands were sent, and how many
	taken       [2]int // the epoch of the last command that was taken, and which
	offered     int
	heard       [2]int // the epoch in which the last thing was heard, and which
	lost        map[int]bool
	total, told int // how many commands were taken, and things heard, in all
	again       int // how many of these were heard in an epoch ahead of it too
	faults      []string
}

func newBoth(tries int) *both {
	return &both{
		m: master.New(addr, tries), s: New(addr),
		taken: [2]int{0, -1}, heard: [2]int{0, -1}, lost: map[int]bool{},
	}
}

func (x *both) fault(form string, args ...any) {
	x.faults = append(x.faults, fmt.Sprintf(form, args...))
}

func (x *both) send() {
	if x.m.Epoch() != x.epoch {
		x.epoch, x.sent = x.m.Epoch(), 0
	}
	if x.m.Send(fmt.Appendf(nil, "%d %d", x.epoch, x.sent)) == api.OK {
		x.sent++
	}
}

func (x *both) offer() {
	if x.s.Offer(fmt.Append(nil, x.offered)) == api.OK {
		x.offered++
	}
}

// reset loses what is pending.
func (x *both) reset() {
	if x.s.Pending() {
		x.lost[x.offered-1] = true
	}
	x.s.Reset()
}

// say puts what the master would say onto the wire, so many times.
func (x *both) say(times int) {
	for range times {
		x.down = append(x.down, x.m.Next())
	}
}

// take is what the slave does with the first frame of the wire; its answer
// comes so many times.
func (x *both) take(times int) {
	if len(x.down) == 0 {
		return
	}
	a, c, ok := x.s.Take(x.down[0])
	x.down = x.down[1:]
	if !ok {
		x.fault("not taken")
	}
	if len(c) > 0 {
		x.took(c)
	}
	for range times {
		x.up = append(x.up, a)
	}
}

// took wants each command of an epoch once, and in order, from the first on.
func (x *both) took(c []byte) {
	var epoch, number int
	fmt.Sscan(string(c), &epoch, &number)
	last := x.taken
	if !(epoch == last[0] && number == last[1]+1) && !(epoch > last[0] && number == 0) {
		x.fault("%d of epoch %d is taken behind %d of epoch %d", number, epoch, last[1], last[0])
	}
	x.taken = [2]int{epoch, number}
	x.total++
}

// hear is what the master does with the first frame of the wire: whether it
// listens.
func (x *both) hear() bool {
	if len(x.up) == 0 {
		return false
	}
	b, ok := x.m.Heard(x.up[0])
	x.up = x.up[1:]
	if len(b) > 0 {
		x.hears(b)
	}
	return ok
}

// hears wants each thing once in an epoch, and in order: of a session that
// ended the last one may come again in the next, and only what a reset took
// away does not come.
func (x *both) hears(b []byte) {
	var number int
	fmt.Sscan(string(b), &number)
	epoch, last := x.m.Epoch(), x.heard
	if number == last[1] && epoch > last[0] {
		x.again++
	} else if number <= last[1] {
		x.fault("%d is heard in epoch %d, behind %d in epoch %d", number, epoch, last[1], last[0])
	}
	for skipped := last[1] + 1; skipped < number; skipped++ {
		if !x.lost[skipped] {
			x.fault("%d is heard, but %d was not", number, skipped)
		}
	}
	x.heard = [2]int{epoch, number}
	x.told++
}

// clean is so many exchanges in which nothing is lost, nor comes twice.
func (x *both) clean(times int) {
	for range times {
		x.say(1)
		for len(x.down) > 0 {
			x.take(1)
		}
		for len(x.up) > 0 {
			x.hear()
		}
	}
}

// wantAll is behind clean exchanges: whatever waited has come.
func (x *both) wantAll(t *testing.T, what any) {
	t.Helper()
	x.clean(30)
	if x.m.State() != master.Up || x.m.Len() != 0 || x.s.Pending() {
		t.Fatalf("%v: state %d, %d wait, pending %v", what, x.m.State(), x.m.Len(), x.s.Pending())
	}
	if x.epoch == x.m.Epoch() && x.sent > 0 && x.taken != [2]int{x.epoch, x.sent - 1} {
		x.fault("%d were sent in epoch %d; the last that was taken is %d of epoch %d", x.sent, x.epoch, x.taken[1], x.taken[0])
	}
	for n := x.heard[1] + 1; n < x.offered; n++ {
		if !x.lost[n] {
			x.fault("%d is not heard", n)
		}
	}
	x.wantNoFaults(t, what)
}

func (x *both) wantNoFaults(t *testing.T, what any) {
	t.Helper()
	if len(x.faults) > 0 {
		t.Fatalf("%v: %v", what, x.faults)
	}
}

// step is one thing that happens at one of the ends, or on a wire that loses,
// doubles and holds.
func (x *both) step(r *rand.Rand) {
	switch r.Intn(6) {
	case 0:
		x.send()
	case 1:
		x.offer()
	case 2:
		x.say(r.Intn(3))
	case 3, 4:
		x.take(r.Intn(3))
	case 5:
		x.hear()
		x.hear()
	}
}

func TestASessionThatLasts(t *testing.T) {
	for seed := range int64(60) {
		r := rand.New(rand.NewSource(seed))
		x := newBoth(1)
		for range 5000 {
			x.step(r)
			x.wantNoFaults(t, seed)
		}
		x.wantAll(t, seed)
		if x.m.Epoch() != 1 || x.again > 0 || x.total < 100 || x.told < 100 {
			t.Fatalf("seed %d: epoch %d, %d again, %d taken, %d heard", seed, x.m.Epoch(), x.again, x.total, x.told)
		}
	}
}

// Here the master gives up now and then, and the slave is reset.
func TestSessionsThatEnd(t *testing.T) {
	again := 0
	for seed := range int64(60) {
		r := rand.New(rand.NewSource(seed))
		x := newBoth(2)
		for range 5000 {
			x.step(r)
			switch r.Intn(100) {
			case 0:
				x.m.Missed()
			case 1:
				x.reset()
			}
			x.wantNoFaults(t, seed)
		}
		x.wantAll(t, seed)
		if x.m.Epoch() < 20 || x.total < 50 || x.told < 50 {
			t.Fatalf("seed %d: epoch %d, %d taken, %d heard", seed, x.m.Epoch(), x.total, x.told)
		}
		again += x.again
	}
	if again == 0 {
		t.Error("nothing was told in two sessions: this test is not hard enough")
	}
}

// ops are what may happen one behind the other.
var ops = []func(x *both){
	func(x *both) { x.send() },
	func(x *both) { x.offer() },
	func(x *both) { x.say(1) },
	func(x *both) { x.say(2) },
	func(x *both) { x.take(0) },
	func(x *both) { x.take(1) },
	func(x *both) { x.take(2) },
	func(x *both) { x.hear() },
}

// does says whether it would do anything: there is something to take or to
// hear, and not too much is on its way.
func does(x *both, op int) bool {
	switch op {
	case 2, 3:
		return len(x.down)+op-1 <= 3
	case 4, 5, 6:
		return len(x.down) > 0
	case 7:
		return len(x.up) > 0
	}
	return true
}

func TestWhateverHappensInAFewSteps(t *testing.T) {
	runs := 0
	for _, ahead := range []int{0, 1} {
		var from func(script []int)
		from = func(script []int) {
			x := newBoth(1)
			x.clean(ahead)
			for _, op := range script {
				ops[op](x)
			}
			if len(script) == 7 {
				runs++
				x.wantAll(t, script)
				return
			}
			for op := range ops {
				if does(x, op) {
					from(append(script[:len(script):len(script)], op))
				}
			}
		}
		from(nil)
	}
	if runs < 10000 {
		t.Error("only", runs, "runs")
	}
}
