package button

import (
	"math"
	"slices"
	"testing"

	"lamplight/api"
)

// strangers are no buttons.
var strangers = []int{-1, 4, 5, 7, 8, 64, 255, 256, 1 << 16, 1 << 32, -4, -5, -256, 1 - 1<<32, math.MinInt, math.MinInt + 1, math.MaxInt}

// wantDown is of which buttons are down, of all there are, and some that are
// not.
func wantDown(t *testing.T, x *Buttons, buttons ...int) {
	t.Helper()
	for button := -3; button < 8; button++ {
		want := slices.Contains(buttons, button)
		if got := x.Down(button); got != want {
			t.Fatalf("Down(%d): %v; want %v", button, got, want)
		}
	}
}

func wantPressed(t *testing.T, x *Buttons, now int, buttons ...int) {
	t.Helper()
	if got := x.Pressed(now); !slices.Equal(got, buttons) {
		t.Fatalf("Pressed(%d): %v; want %v", now, got, buttons)
	}
}

func press(t *testing.T, x *Buttons, now int, buttons ...int) {
	t.Helper()
	for _, button := range buttons {
		if err := x.Set(button, true, now); err != api.OK {
			t.Fatalf("Set(%d, true, %d): %v", button, now, err)
		}
		if !x.Down(button) {
			t.Fatalf("%d is up behind Set", button)
		}
	}
}

func release(t *testing.T, x *Buttons, now int, buttons ...int) {
	t.Helper()
	for _, button := range buttons {
		if err := x.Set(button, false, now); err != api.OK {
			t.Fatalf("Set(%d, false, %d): %v", button, now, err)
		}
		if x.Down(button) {
			t.Fatalf("%d is down behind Set", button)
		}
	}
}

func TestHowLongAButtonMustBeDown(t *testing.T) {
	if Hold != 3 {
		t.Error(Hold)
	}
}

func TestTheExample(t *testing.T) {
	var x Buttons
	press(t, &x, 5, 0)
	wantPressed(t, &x, 7)
	wantPressed(t, &x, 8, 0)
	wantPressed(t, &x, 9)
}

func TestZeroButtonsAreAllUp(t *testing.T) {
	var x Buttons
	for _, now := range []int{math.MinInt, -1, 0, 2, 3, 4, 100, math.MaxInt} {
		wantPressed(t, &x, now)
		wantDown(t, &x)
	}
}

func TestEachButtonByItself(t *testing.T) {
	for button := range 4 {
		var x Buttons
		press(t, &x, 10, button)
		wantDown(t, &x, button)
		wantPressed(t, &x, 12)
		wantPressed(t, &x, 13, button)
		wantPressed(t, &x, 13)
		wantDown(t, &x, button)
		release(t, &x, 14, button)
		wantDown(t, &x)
		wantPressed(t, &x, 100)
	}
}

func TestThereAreNoOtherButtons(t *testing.T) {
	for _, button := range strangers {
		var x Buttons
		press(t, &x, 10, 0, 3)
		for _, down := range []bool{true, false, true} {
			if err := x.Set(button, down, 0); err != api.ErrArg {
				t.Errorf("Set(%d, %v): %v", button, down, err)
			}
			if x.Down(button) {
				t.Errorf("%d is down", button)
			}
		}
		wantDown(t, &x, 0, 3)
		wantPressed(t, &x, 12)
		wantPressed(t, &x, 13, 0, 3)
	}
}

// Each of these times and the next one of Pressed is told by how many ticks they
// are apart, however far from 0 they are.
func TestAButtonIsDownForThreeTicks(t *testing.T) {
	for _, since := range []int{math.MinInt, math.MinInt + 3, -100, -4, -3, -2, -1, 0, 1, 2, 3, 50, math.MaxInt - 3} {
		for ticks, want := range []int{-1, -1, -1, 2} {
			var x Buttons
			press(t, &x, since, 2)
			if want < 0 {
				wantPressed(t, &x, since+ticks)
			} else {
				wantPressed(t, &x, since+ticks, want)
			}
		}
		var x Buttons
		press(t, &x, since, 2)
		wantPressed(t, &x, since)
		wantPressed(t, &x, since+1)
		wantPressed(t, &x, since+2)
		wantPressed(t, &x, since+3, 2)
		wantPressed(t, &x, since+3)
	}
}

// Whether it was asked in between or not.
func TestAButtonThatIsAskedForLate(t *testing.T) {
	for _, late := range []int{4, 5, 6, 100, 1 << 40} {
		var x Buttons
		press(t, &x, 7, 1)
		wantPressed(t, &x, 7+late, 1)
		wantPressed(t, &x, 7+late+3)
	}
}

func TestATimeAheadIsNoTick(t *testing.T) {
	for _, since := range []int{0, 50, math.MinInt + 1000, math.MaxInt} {
		var x Buttons
		press(t, &x, since, 3)
		for _, now := range []int{since - 1, since - 2, since - 3, since - 4, since - 500, math.MinInt, since} {
			wantPressed(t, &x, now)
		}
		wantDown(t, &x, 3)
	}
	var x Buttons
	press(t, &x, 50, 3)
	wantPressed(t, &x, 0) // and that it was asked then does not count
	wantPressed(t, &x, 3)
	wantPressed(t, &x, 52)
	wantPressed(t, &x, 53, 3)
}

func TestTimesFarApart(t *testing.T) {
	var x Buttons
	press(t, &x, math.MinInt, 0)
	press(t, &x, math.MaxInt, 1)
	press(t, &x, -1, 2)
	press(t, &x, math.MaxInt-2, 3)
	wantPressed(t, &x, math.MinInt)
	wantPressed(t, &x, math.MaxInt, 0, 2)
	release(t, &x, 0, 0, 1, 2, 3)
	press(t, &x, math.MaxInt-3, 3)
	press(t, &x, math.MaxInt-2, 2)
	wantPressed(t, &x, math.MaxInt-1)
	wantPressed(t, &x, math.MinInt)
	wantPressed(t, &x, math.MaxInt, 3)
}

func TestAPressIsToldOnce(t *testing.T) {
	var x Buttons
	press(t, &x, 0, 0)
	wantPressed(t, &x, 3, 0)
	for _, now := range []int{3, 4, 6, 100, 0, -5, 3, math.MaxInt, math.MinInt} {
		wantPressed(t, &x, now)
		press(t, &x, now, 0) // it is down already
		wantPressed(t, &x, now)
		wantDown(t, &x, 0)
	}
}

func TestAnotherPressIsToldAgain(t *testing.T) {
	var x Buttons
	press(t, &x, 0, 0)
	wantPressed(t, &x, 3, 0)
	release(t, &x, 4, 0)
	wantPressed(t, &x, 100)
	press(t, &x, 100, 0)
	wantPressed(t, &x, 102)
	wantPressed(t, &x, 103, 0)
	wantPressed(t, &x, 106)
	release(t, &x, 106, 0)
	press(t, &x, 106, 0) // at the same time
	wantPressed(t, &x, 108)
	wantPressed(t, &x, 109, 0)
	release(t, &x, 0, 0)
	press(t, &x, 10, 0) // at a time ahead of the one it was told at
	wantPressed(t, &x, 12)
	wantPressed(t, &x, 13, 0)
}

func TestAPressThatIsTooShortIsNotTold(t *testing.T) {
	for ticks := range 3 {
		var x Buttons
		press(t, &x, 5, 2)
		wantPressed(t, &x, 5+ticks)
		release(t, &x, 5+ticks, 2)
		wantPressed(t, &x, 8)
		wantPressed(t, &x, 100)
		wantDown(t, &x)
		press(t, &x, 5+ticks, 2) // and does not count for the next one
		wantPressed(t, &x, 7+ticks)
		wantPressed(t, &x, 8+ticks, 2)
	}
}

// It was down long enough, but is not down any more.
func TestAPressThatNobodyAskedForIsNotTold(t *testing.T) {
	var x Buttons
	press(t, &x, 5, 2)
	release(t, &x, 50, 2)
	wantPressed(t, &x, 50)
	wantPressed(t, &x, 8)
}

func TestWhoIsDownStaysSoSinceItWas(t *testing.T) {
	var x Buttons
	press(t, &x, 10, 1)
	press(t, &x, 12, 1)
	press(t, &x, 13, 1)
	press(t, &x, 0, 1)
	wantPressed(t, &x, 12)
	wantPressed(t, &x, 13, 1)

	press(t, &x, 10, 2)
	press(t, &x, -90, 2) // not since a time that is less, either
	wantPressed(t, &x, 12)
	wantPressed(t, &x, 13, 2)
}

func TestWhoIsUpMayBeSoAgain(t *testing.T) {
	var x Buttons
	release(t, &x, 0, 0, 1, 2, 3, 3)
	wantPressed(t, &x, 100)
	wantDown(t, &x)
	press(t, &x, 100, 3)
	release(t, &x, 100, 0)
	wantPressed(t, &x, 103, 3)
	release(t, &x, 103, 3)
	release(t, &x, 103, 3)
	wantDown(t, &x)
	press(t, &x, 104, 3)
	wantPressed(t, &x, 107, 3)
}

// Be they down since when they may, and set in whatever order.
func TestSeveralByRisingNumbers(t *testing.T) {
	var x Buttons
	press(t, &x, 9, 2)
	press(t, &x, 4, 3)
	press(t, &x, 7, 1)
	press(t, &x, 8, 0)
	wantDown(t, &x, 0, 1, 2, 3)
	wantPressed(t, &x, 12, 0, 1, 2, 3)
	wantPressed(t, &x, 12)

	var y Buttons
	press(t, &y, 1, 3, 0)
	press(t, &y, 2, 2)
	press(t, &y, 3, 1)
	wantPressed(t, &y, 4, 0, 3)
	wantPressed(t, &y, 6, 1, 2)
	wantPressed(t, &y, 6)
	release(t, &y, 7, 3, 1)
	press(t, &y, 7, 1, 3)
	wantDown(t, &y, 0, 1, 2, 3)
	wantPressed(t, &y, 10, 1, 3)
}

func TestOneThatIsUpLeavesTheOthers(t *testing.T) {
	for button := range 4 {
		var x Buttons
		press(t, &x, 0, 0, 1, 2, 3)
		release(t, &x, 2, button)
		others := slices.DeleteFunc([]int{0, 1, 2, 3}, func(n int) bool { return n == button })
		wantDown(t, &x, others...)
		wantPressed(t, &x, 3, others...)
		press(t, &x, 3, button)
		wantPressed(t, &x, 6, button)
	}
}

func TestResetHasAllBeUp(t *testing.T) {
	var x Buttons
	x.Reset()
	wantDown(t, &x)
	press(t, &x, 0, 0, 1, 2)
	wantPressed(t, &x, 3, 0, 1, 2)
	press(t, &x, 4, 3)
	x.Reset()
	wantDown(t, &x)
	wantPressed(t, &x, 7)
	wantPressed(t, &x, 100)
	press(t, &x, 8, 0, 3) // one that was told, and one that was not
	wantPressed(t, &x, 10)
	wantPressed(t, &x, 11, 0, 3)
	wantPressed(t, &x, 11)
}
