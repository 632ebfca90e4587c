package module

import (
	"bytes"
	"fmt"
	"math"
	"testing"

	"lamplight/api"
)

const (
	addr    = 4
	session = 9
)

func same(f, g api.Frame) bool {
	return f.Addr == g.Addr && f.Kind == g.Kind && f.Session == g.Session &&
		f.Seq == g.Seq && f.Ack == g.Ack && bytes.Equal(f.B, g.B)
}

// hand is who asks a module, and presses its buttons: its bits are those of the
// session.
type hand struct {
	t   *testing.T
	m   *Module
	now int
	seq uint8 // of the command that is next
	ack uint8 // of what is told next
}

// newHand has a module that is new, but has a session.
func newHand(t *testing.T) *hand {
	h := &hand{t: t, m: New(addr)}
	h.open()
	return h
}

func (h *hand) open() {
	h.t.Helper()
	h.wantTake(api.Frame{Addr: addr, Kind: api.Open, Session: session},
		api.Frame{Addr: addr, Kind: api.Opened, Session: session})
	h.seq, h.ack = 0, 0
}

func (h *hand) wantTake(f, answer api.Frame) {
	h.t.Helper()
	if got, ok := h.m.Take(f); !same(got, answer) || !ok {
		h.t.Fatalf("Take(%v): %v, %v; want %v, true", f, got, ok, answer)
	}
}

func (h *hand) asking(kind uint8, b []byte) api.Frame {
	return api.Frame{Addr: addr, Kind: kind, Session: session, Seq: h.seq, Ack: h.ack, B: b}
}

// says is what a module answers that has this to tell.
func (h *hand) says(told []byte) api.Frame {
	return api.Frame{Addr: addr, Kind: api.Reply, Session: session, Seq: h.ack, Ack: h.seq, B: told}
}

// send sends bytes, and wants that they are taken; told is what the module
// still has to tell.
func (h *hand) send(b []byte, told ...api.Event) {
	h.t.Helper()
	f := h.asking(api.Data, b)
	h.seq ^= 1
	h.wantTake(f, h.says(bytesOf(told)))
}

func (h *hand) light(token, qty uint16, told ...api.Event) {
	h.t.Helper()
	h.send(CommandBytes(api.Command{Kind: api.Light, Token: token, Qty: qty}), told...)
}

func (h *hand) clear(token uint16, told ...api.Event) {
	h.t.Helper()
	h.send(CommandBytes(api.Command{Kind: api.Clear, Token: token}), told...)
}

func bytesOf(told []api.Event) []byte {
	if len(told) == 0 {
		return nil
	}
	return EventBytes(told[0])
}

// wantTold is of what is pending: it comes, and stays.
func (h *hand) wantTold(told ...api.Event) {
	h.t.Helper()
	h.wantTake(h.asking(api.Poll, nil), h.says(bytesOf(told)))
}

// hear says that what is pending was heard, and so is told no more.
func (h *hand) hear(told api.Event) {
	h.t.Helper()
	h.wantTold(told)
	h.ack ^= 1
	h.wantTold()
}

func (h *hand) wantShow(want Display) {
	h.t.Helper()
	if got := h.m.Show(); got != want {
		h.t.Fatalf("Show: %+v; want %+v", got, want)
	}
}

func (h *hand) set(button int, down bool) {
	h.t.Helper()
	if err := h.m.Set(button, down, h.now); err != api.OK {
		h.t.Fatalf("Set(%d, %v, %d): %v", button, down, h.now, err)
	}
}

func (h *hand) tick() {
	h.m.Tick(h.now)
	h.now++
}

// press has these be down at once for long enough, and be up again.
func (h *hand) press(buttons ...int) {
	h.t.Helper()
	for _, button := range buttons {
		h.set(button, true)
	}
	for range 5 {
		h.tick()
	}
	for _, button := range buttons {
		h.set(button, false)
	}
	h.tick()
}

func lit(token, qty, most uint16) Display {
	return Display{Lit: true, Token: token, Qty: qty, Most: most}
}

func latched(token, qty, most uint16) Display {
	return Display{Lit: true, Latched: true, Token: token, Qty: qty, Most: most}
}

func confirm(token, qty uint16) api.Event {
	return api.Event{Kind: api.Confirm, Token: token, Qty: qty}
}

func short(token, qty uint16) api.Event {
	return api.Event{Kind: api.Short, Token: token, Qty: qty}
}

func TestTheExample(t *testing.T) {
	h := newHand(t)
	h.light(7, 3)
	h.press(api.ButtonMinus)
	h.press(api.ButtonConfirm)
	h.hear(confirm(7, 2))
}

func TestNewModuleIsDark(t *testing.T) {
	h := &hand{t: t, m: New(addr)}
	h.wantShow(Display{})
	none := api.Frame{Addr: addr, Kind: api.Reply} // it has no session
	h.wantTake(api.Frame{Addr: addr, Kind: api.Poll}, none)
	h.wantTake(h.asking(api.Data, CommandBytes(api.Command{Kind: api.Light, Token: 7, Qty: 3})), none)
	h.wantShow(Display{})
	h.press(0, 1, 2, 3)
	h.wantShow(Display{})
	h.open()
	h.wantTold()
	h.wantShow(Display{})
}

func TestEachAddressIsItsOwn(t *testing.T) {
	for own := range 256 {
		m := New(uint8(own))
		for other := range 256 {
			f := api.Frame{Addr: uint8(other), Kind: api.Open, Session: session}
			got, ok := m.Take(f)
			if want := other == own; ok != want || want && got.Addr != uint8(own) || !want && !same(got, api.Frame{}) {
				t.Fatalf("%d takes what is sent to %d: %v, %v", own, other, got, ok)
			}
		}
	}
}

// Whom it does not listen to does not command it, either.
func TestWhomItDoesNotListenTo(t *testing.T) {
	for _, is := range []Display{{}, lit(7, 2, 3), latched(7, 2, 3)} {
		for _, c := range []api.Command{{Kind: api.Light, Token: 8, Qty: 1}, {Kind: api.Clear, Token: 7}} {
			h := newHand(t)
			h.become(is)
			f := h.asking(api.Data, CommandBytes(c))
			for addr := range uint8(40) {
				for kind := range uint8(40) {
					f.Addr, f.Kind = addr, kind
					if addr == h.asking(0, nil).Addr && (kind == api.Open || kind == api.Data || kind == api.Poll) {
						continue
					}
					if got, ok := h.m.Take(f); ok || !same(got, api.Frame{}) || got.B != nil {
						t.Fatalf("Take(%v): %v, %v", f, got, ok)
					}
				}
			}
			h.wantShow(is)
		}
	}
}

// become makes a module that is dark show token 7, of 3; if it is latched, what
// it told is pending.
func (h *hand) become(is Display) {
	h.t.Helper()
	if is.Lit {
		h.light(is.Token, is.Most)
	}
	for h.m.Show().Qty > is.Qty {
		h.press(api.ButtonMinus)
	}
	if is.Latched {
		h.press(api.ButtonShort)
	}
	h.wantShow(is)
}

// Be it a Poll or an Open that has a command's bytes, or one that is of another
// session, or was taken.
func TestWhatIsNoCommandYet(t *testing.T) {
	b := CommandBytes(api.Command{Kind: api.Light, Token: 8, Qty: 1})
	h := newHand(t)
	h.become(lit(7, 2, 3))
	h.wantTake(h.asking(api.Poll, b), h.says(nil))
	f := h.asking(api.Data, b)
	f.Session++
	h.wantTake(f, api.Frame{Addr: addr, Kind: api.Reply, Session: session})
	f = h.asking(api.Data, b)
	f.Seq ^= 1
	h.wantTake(f, h.says(nil))
	f = h.asking(api.Open, b)
	h.wantTake(f, api.Frame{Addr: addr, Kind: api.Opened, Session: session})
	h.wantShow(lit(7, 2, 3))
}

func TestACommandThatComesTwiceIsObeyedOnce(t *testing.T) {
	h := newHand(t)
	light := h.asking(api.Data, CommandBytes(api.Command{Kind: api.Light, Token: 7, Qty: 3}))
	h.light(7, 3)
	h.press(api.ButtonConfirm)
	h.hear(confirm(7, 3))
	light.Ack = h.ack
	for range 3 { // another light of 7 would light it again
		h.wantTake(light, h.says(nil))
		h.wantShow(latched(7, 3, 3))
	}
}

func TestLightOfWhatIsDark(t *testing.T) {
	for _, token := range []uint16{0, 1, 7, 255, 256, 65535} {
		for _, qty := range []uint16{0, 1, 3, 255, 256, 9999, 65535} {
			h := newHand(t)
			h.light(token, qty)
			h.wantShow(lit(token, qty, qty))
			h.wantTold()
		}
	}
}

func TestLightOfAnotherToken(t *testing.T) {
	for _, other := range []uint16{0, 6, 8, 7 + 256, 7 << 8, 65535} {
		h := newHand(t)
		h.become(lit(7, 2, 3))
		h.light(other, 5)
		h.wantShow(lit(other, 5, 5))
		h.light(7, 1)
		h.wantShow(lit(7, 1, 1))

		h = newHand(t)
		h.become(latched(7, 2, 3))
		h.light(other, 5, short(7, 2)) // though it is pending
		h.wantShow(lit(other, 5, 5))
		h.hear(short(7, 2))
		h.wantShow(lit(other, 5, 5))

		h = newHand(t)
		h.become(latched(7, 2, 3))
		h.hear(short(7, 2))
		h.light(other, 0)
		h.wantShow(lit(other, 0, 0))
	}
}

func TestLightOfTheSameTokenAsItIsLit(t *testing.T) {
	for _, qty := range []uint16{0, 2, 3, 9} {
		h := newHand(t)
		h.become(lit(7, 2, 3))
		h.light(7, qty)
		h.wantShow(lit(7, 2, 3))
	}
}

func TestLightOfTheSameTokenAsItIsLatched(t *testing.T) {
	for _, qty := range []uint16{0, 2, 3, 9} {
		h := newHand(t)
		h.become(latched(7, 2, 3))
		h.light(7, qty, short(7, 2))
		h.wantShow(latched(7, 2, 3))
		h.open() // and so in another session
		h.light(7, qty, short(7, 2))
		h.wantShow(latched(7, 2, 3))
		h.hear(short(7, 2))
		h.wantShow(latched(7, 2, 3))
		h.light(7, qty)
		h.wantShow(lit(7, qty, qty))
		h.press(api.ButtonConfirm)
		h.hear(confirm(7, qty))
	}
}

// What the frame itself says was heard is pending no more.
func TestLightThatComesWithWhatWasHeard(t *testing.T) {
	h := newHand(t)
	h.become(latched(7, 2, 3))
	h.wantTold(short(7, 2))
	h.ack ^= 1
	h.light(7, 5)
	h.wantShow(lit(7, 5, 5))
}

func TestClear(t *testing.T) {
	for _, is := range []Display{lit(7, 3, 3), lit(7, 2, 3), lit(0, 0, 0), latched(7, 2, 3), latched(0, 1, 1)} {
		for _, qty := range []uint16{0, 3, 9} {
			h := newHand(t)
			h.become(is)
			var told []api.Event
			if is.Latched {
				told = []api.Event{short(is.Token, is.Qty)} // it stays pending
			}
			for _, other := range []uint16{is.Token + 1, is.Token - 1, is.Token ^ 256} {
				h.send(CommandBytes(api.Command{Kind: api.Clear, Token: other, Qty: qty}), told...)
				h.wantShow(is)
			}
			h.send(CommandBytes(api.Command{Kind: api.Clear, Token: is.Token, Qty: qty}), told...)
			h.wantShow(Display{})
			h.wantTold(told...)
			h.clear(is.Token, told...)
			h.clear(0, told...)
			h.wantShow(Display{})
		}
	}
}

func TestLightBehindClear(t *testing.T) {
	h := newHand(t)
	h.become(latched(7, 2, 3))
	h.clear(7, short(7, 2))
	h.light(7, 4, short(7, 2)) // it is not lit, so nothing stands against it
	h.wantShow(lit(7, 4, 4))
	h.press(api.ButtonConfirm) // what it told of it is pending
	h.wantShow(lit(7, 4, 4))
	h.hear(short(7, 2))
	h.press(api.ButtonConfirm)
	h.wantShow(latched(7, 4, 4))
	h.hear(confirm(7, 4))
}

// They are taken, as what comes behind them shows.
func TestOfBytesThatAreNoCommandNothingBecomes(t *testing.T) {
	var all [][]byte
	for n := range 30 {
		for kind := range byte(5) {
			if b := append([]byte{kind, 0, 8, 0, 9}, make([]byte, 25)...)[:n]; n != 5 || kind != 1 && kind != 2 {
				all = append(all, b)
			}
		}
	}
	all = append(all, nil, []byte{255, 0, 7, 0, 9}, []byte{2, 0, 7, 0, 9, 0}, []byte{2, 0, 7, 0})
	for _, is := range []Display{{}, lit(7, 2, 3), latched(7, 2, 3)} {
		h := newHand(t)
		h.become(is)
		var told []api.Event
		if is.Latched {
			told = []api.Event{short(7, 2)}
		}
		for _, b := range all {
			h.send(b, told...)
			h.wantShow(is)
		}
		h.light(8, 1, told...)
		h.wantShow(lit(8, 1, 1))
	}
}

func TestSetTellsWhatIsWrong(t *testing.T) {
	h := newHand(t)
	h.become(lit(7, 2, 3))
	for _, button := range []int{-1, 4, 5, 255, 256, -256, 1 << 32, math.MinInt, math.MaxInt} {
		for _, down := range []bool{true, false} {
			if err := h.m.Set(button, down, 0); err != api.ErrArg {
				t.Errorf("Set(%d, %v): %v", button, down, err)
			}
		}
	}
	for range 10 {
		h.tick()
	}
	h.wantShow(lit(7, 2, 3))
	h.wantTold()
}

func TestAButtonMustBeDownForThreeTicks(t *testing.T) {
	for button, want := range []Display{latched(7, 2, 3), lit(7, 3, 3), lit(7, 1, 3), latched(7, 2, 3)} {
		h := newHand(t)
		h.become(lit(7, 2, 3))
		h.set(button, true)
		for range 3 {
			h.tick()
			h.wantShow(lit(7, 2, 3))
		}
		h.tick()
		h.wantShow(want)
		for range 9 { // and is pressed once as long as it is down
			h.tick()
		}
		h.wantShow(want)

		h = newHand(t)
		h.become(lit(7, 2, 3))
		h.set(button, true)
		h.now += 2
		h.set(button, false)
		h.now++
		h.tick()
		h.wantShow(lit(7, 2, 3))
	}
}

// Not Set, nor a frame, nor that it is asked what it shows.
func TestPressesCountAsItTicks(t *testing.T) {
	h := newHand(t)
	h.become(lit(7, 2, 3))
	h.set(api.ButtonMinus, true)
	h.set(api.ButtonConfirm, true)
	h.now += 50
	h.set(api.ButtonMinus, true)
	h.wantTold()
	h.wantShow(lit(7, 2, 3))
	h.set(api.ButtonConfirm, false)
	h.tick()
	h.wantShow(lit(7, 1, 3))
	h.wantTold()
}

func TestPlusUpToMost(t *testing.T) {
	for _, most := range []uint16{0, 1, 2, 9, 255, 256, 65534, 65535} {
		h := newHand(t)
		h.light(7, most)
		h.press(api.ButtonPlus)
		h.wantShow(lit(7, most, most))
		if most == 0 {
			continue
		}
		h.press(api.ButtonMinus)
		h.wantShow(lit(7, most-1, most))
		h.press(api.ButtonPlus)
		h.wantShow(lit(7, most, most))
		h.press(api.ButtonPlus)
		h.wantShow(lit(7, most, most))
	}
}

func TestMinusDownToNone(t *testing.T) {
	h := newHand(t)
	h.light(7, 2)
	for _, qty := range []uint16{1, 0, 0, 0} {
		h.press(api.ButtonMinus)
		h.wantShow(lit(7, qty, 2))
	}
	for _, qty := range []uint16{1, 2, 2} {
		h.press(api.ButtonPlus)
		h.wantShow(lit(7, qty, 2))
	}
	h.wantTold()
	h.light(8, 0)
	h.press(api.ButtonMinus)
	h.wantShow(lit(8, 0, 0))
}

func TestWhatIsToldOfWhatIsShown(t *testing.T) {
	for button, kind := range map[int]uint8{api.ButtonConfirm: api.Confirm, api.ButtonShort: api.Short} {
		for _, token := range []uint16{0, 1, 256, 65535} {
			for _, most := range []uint16{0, 1, 3, 256, 65535} {
				h := newHand(t)
				h.light(token, most)
				h.press(api.ButtonMinus)
				qty := most - min(most, 1)
				h.press(button)
				h.wantShow(latched(token, qty, most))
				h.hear(api.Event{Kind: kind, Token: token, Qty: qty})
				h.wantShow(latched(token, qty, most))
			}
		}
	}
}

func TestPlusAndMinusTellNothing(t *testing.T) {
	h := newHand(t)
	h.light(7, 3)
	for _, button := range []int{api.ButtonMinus, api.ButtonPlus, api.ButtonMinus} {
		h.press(button)
		h.wantTold()
	}
	h.wantShow(lit(7, 2, 3))
}

func TestWhatIsLatchedStays(t *testing.T) {
	h := newHand(t)
	h.become(latched(7, 2, 3))
	for range 2 {
		for button := range 4 {
			h.press(button)
			h.wantShow(latched(7, 2, 3))
		}
		h.wantTold(short(7, 2))
	}
	h.hear(short(7, 2))
	for button := range 4 { // though there would be room
		h.press(button)
		h.wantShow(latched(7, 2, 3))
		h.wantTold()
	}
}

// By rising numbers: Confirm, Plus, Minus, Short.
func TestSeveralAtOnceInOrder(t *testing.T) {
	all := []struct {
		buttons []int
		is      Display
		want    Display
		told    []api.Event
	}{
		{[]int{3, 0}, lit(7, 2, 3), latched(7, 2, 3), []api.Event{confirm(7, 2)}},
		{[]int{1, 0}, lit(7, 2, 3), latched(7, 2, 3), []api.Event{confirm(7, 2)}},
		{[]int{2, 0}, lit(7, 2, 3), latched(7, 2, 3), []api.Event{confirm(7, 2)}},
		{[]int{3, 1}, lit(7, 2, 3), latched(7, 3, 3), []api.Event{short(7, 3)}},
		{[]int{3, 2}, lit(7, 2, 3), latched(7, 1, 3), []api.Event{short(7, 1)}},
		{[]int{2, 1}, lit(7, 2, 3), lit(7, 2, 3), nil},
		{[]int{2, 1}, lit(7, 3, 3), lit(7, 2, 3), nil},
		{[]int{2, 1}, lit(7, 0, 3), lit(7, 0, 3), nil},
		{[]int{3, 2, 1}, lit(7, 3, 3), latched(7, 2, 3), []api.Event{short(7, 2)}},
		{[]int{3, 2, 1, 0}, lit(7, 0, 3), latched(7, 0, 3), []api.Event{confirm(7, 0)}},
	}
	for _, x := range all {
		h := newHand(t)
		h.become(x.is)
		h.press(x.buttons...)
		h.wantShow(x.want)
		h.wantTold(x.told...)
	}
}

// Who held it down till it was lit, or another was, did not press for that.
func TestAPressInTheDarkIsGone(t *testing.T) {
	for button := range 4 {
		h := newHand(t)
		h.set(button, true)
		h.now += 3
		h.tick()
		h.light(7, 3)
		for range 9 {
			h.tick()
		}
		h.wantShow(lit(7, 3, 3))
		if button != api.ButtonMinus {
			h.press(api.ButtonMinus)
			h.wantShow(lit(7, 2, 3))
		}
		h.wantTold()
		before := h.m.Show()
		h.set(button, false)
		h.press(button)
		if h.m.Show() == before {
			t.Errorf("%d is not pressed again", button)
		}
	}
}

func TestAPressAsItIsLatchedIsGone(t *testing.T) {
	for button := range 4 {
		h := newHand(t)
		h.become(latched(7, 2, 3))
		h.hear(short(7, 2))
		h.set(button, true)
		h.now += 3
		h.tick()
		h.light(8, 3)
		for range 9 {
			h.tick()
		}
		h.wantShow(lit(8, 3, 3))
		h.wantTold()
	}
}

// It is what is lit as the press counts.
func TestAPressThatLastsIntoTheLight(t *testing.T) {
	h := newHand(t)
	h.set(api.ButtonConfirm, true)
	h.now += 2
	h.tick()
	h.light(7, 3)
	h.tick()
	h.wantShow(latched(7, 3, 3))
	h.hear(confirm(7, 3))
}

// As something is pending there is no room: nothing is latched, and who
// presses must do it again.
func TestNoRoomForAnEvent(t *testing.T) {
	for _, button := range []int{api.ButtonConfirm, api.ButtonShort} {
		h := newHand(t)
		h.become(latched(7, 2, 3))
		h.light(8, 4, short(7, 2))
		h.press(button)
		h.wantShow(lit(8, 4, 4))
		h.press(api.ButtonMinus)
		h.wantShow(lit(8, 3, 4))
		h.press(button)
		h.wantShow(lit(8, 3, 4))
		h.set(button, true)
		h.now += 3
		h.tick()
		h.hear(short(7, 2))
		for range 9 { // that press was, though nothing came of it
			h.tick()
		}
		h.wantTold()
		h.wantShow(lit(8, 3, 4))
		h.set(button, false)
		h.press(button)
		h.wantShow(latched(8, 3, 4))
	}
	h := newHand(t)
	h.become(latched(7, 2, 3))
	h.light(8, 4, short(7, 2))
	h.press(0, 2, 3) // what comes behind the first counts
	h.wantShow(lit(8, 3, 4))
	h.hear(short(7, 2))
	h.wantTold()
}

func TestAnotherSessionLeavesTheLight(t *testing.T) {
	for _, is := range []Display{{}, lit(7, 2, 3), latched(7, 2, 3)} {
		h := newHand(t)
		h.become(is)
		h.set(api.ButtonPlus, true)
		h.open()
		h.wantShow(is)
		h.now += 3
		h.tick()
		switch {
		case is.Latched:
			h.wantShow(is)
			h.hear(short(7, 2))
		case is.Lit:
			h.wantShow(lit(7, 3, 3))
			h.wantTold()
		}
	}
}

func TestResetMakesAllAsAtFirst(t *testing.T) {
	for _, is := range []Display{{}, lit(7, 2, 3), latched(7, 2, 3)} {
		h := newHand(t)
		h.become(is)
		h.set(api.ButtonConfirm, true)
		h.m.Reset()
		h.wantShow(Display{})
		h.wantTake(api.Frame{Addr: addr, Kind: api.Poll, Session: session}, api.Frame{Addr: addr, Kind: api.Reply})
		h.open()
		h.wantTold()
		h.light(7, 3)
		h.wantShow(lit(7, 3, 3))
		h.now += 10
		h.tick()
		h.wantShow(lit(7, 3, 3)) // no button is down
		h.press(api.ButtonMinus)
		h.press(api.ButtonConfirm)
		h.wantShow(latched(7, 2, 3))
		h.hear(confirm(7, 2))
	}
	if got, want := fmt.Sprint(*reset()), fmt.Sprint(*New(addr)); got != want {
		t.Errorf("%s; want %s", got, want)
	}
}

// reset is a module of which much was, and is as at first.
func reset() *Module {
	h := newHand(&testing.T{})
	h.light(7, 3)
	h.press(api.ButtonMinus)
	h.press(api.ButtonShort)
	h.set(api.ButtonPlus, true)
	h.m.Reset()
	return h.m
}
