package button

import "testing"

func TestWhatIsToldIsTheCallers(t *testing.T) {
	var x Buttons
	press(t, &x, 0, 0, 1, 2, 3)
	first := x.Pressed(3)
	clear(first[:cap(first)])
	wantDown(t, &x, 0, 1, 2, 3)
	wantPressed(t, &x, 6)
	release(t, &x, 7, 1, 2)
	press(t, &x, 7, 1, 2)
	wantPressed(t, &x, 10, 1, 2)
	for _, n := range first[:cap(first)] {
		if n != 0 {
			t.Fatal("an answer that was given is", first[:cap(first)])
		}
	}
}

func TestButtonsHaveNothingToDoWithEachOther(t *testing.T) {
	var one, other Buttons
	press(t, &one, 0, 0, 2)
	wantDown(t, &other)
	wantPressed(t, &other, 3)
	press(t, &other, 1, 2)
	wantPressed(t, &one, 4, 0, 2)
	wantPressed(t, &other, 4, 2)
	one.Reset()
	wantDown(t, &other, 2)
	wantDown(t, &one)
}

func TestACopyIsOfItsOwn(t *testing.T) {
	var x Buttons
	press(t, &x, 0, 0, 1)
	y := x
	wantPressed(t, &x, 3, 0, 1)
	release(t, &x, 3, 1)
	wantDown(t, &y, 0, 1)
	wantPressed(t, &y, 3, 0, 1)
}

// Of who is up, or was told, no time is kept.
func TestNoMoreIsKeptThanIsNeeded(t *testing.T) {
	var x Buttons
	press(t, &x, 7, 2)
	wantPressed(t, &x, 10, 2)
	if since := x.all[2].since; since != 0 {
		t.Error("told, and since", since)
	}
	press(t, &x, 19, 0)
	release(t, &x, 20, 0, 2, 3)
	if x != (Buttons{}) {
		t.Error(x)
	}
	press(t, &x, 22, 2, 3)
	x.Reset()
	if x != (Buttons{}) {
		t.Error(x)
	}
}
