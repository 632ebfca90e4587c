package place

import (
	"bytes"
	"reflect"
	"slices"
	"testing"

	"lamplight/api"
)

func TestTheSparesHandedInAreLeftAndNotKept(t *testing.T) {
	given := append(make([]byte, 0, 64), 0, 7, 3, 7, 40, 5)
	p := New(given...)
	if !bytes.Equal(given, []byte{0, 7, 3, 7, 40, 5}) || !bytes.Equal(given[6:64], make([]byte, 58)) {
		t.Fatal("the argument is", given[:64])
	}
	clear(given[:64])
	wantPlaces(t, p, nil, 3, 5, 7)
}

func TestARowHandedInAsItIsToBe(t *testing.T) {
	given := append(make([]byte, 0, 64), 3, 5, 7)
	p := New(given...)
	clear(given)
	wantPlaces(t, p, nil, 3, 5, 7)
	wantMap(t, p, 0, 1, api.OK)
	wantFail(t, p, 1, 3, api.OK)
	wantBring(t, p, 1, api.OK)
	if !bytes.Equal(given[:64], make([]byte, 64)) {
		t.Fatal("the argument is", given[:64])
	}
}

func TestWhatIsToldIsTheCallers(t *testing.T) {
	p := New(9, 3, 5)
	wantMap(t, p, 40, 1, api.OK)
	wantMap(t, p, 7, 2, api.OK)
	wantFail(t, p, 9, 0, api.OK) // there is room behind the others for one more
	spares, locs := p.Spares(), p.Locs()
	otherSpares, otherLocs := p.Spares(), p.Locs()
	clear(spares[:cap(spares)])
	clear(locs[:cap(locs)])
	if !bytes.Equal(otherSpares, []byte{3, 5}) || !slices.Equal(otherLocs, []uint16{7, 40}) {
		t.Fatal(otherSpares, otherLocs)
	}
	wantPlaces(t, p, shows{7: 2, 40: 1}, 3, 5)
	wantFail(t, p, 2, 3, api.OK)
	if !bytes.Equal(otherSpares, []byte{3, 5}) {
		t.Fatal(otherSpares)
	}
}

func TestPlacesHaveNothingToDoWithEachOther(t *testing.T) {
	one, other := New(8, 9), New(8, 9)
	wantMap(t, one, 5, 1, api.OK)
	wantPlaces(t, other, nil, 8, 9)
	wantMap(t, other, 5, 2, api.OK)
	wantFail(t, one, 1, 8, api.OK)
	wantPlaces(t, other, shows{5: 2}, 8, 9)
	wantBring(t, other, 1, api.ErrNone)
	wantFail(t, other, 8, 0, api.OK)
	wantPlaces(t, one, shows{5: 8}, 9)
}

// Behind errors, and behind as many steps there and back as one likes, there
// is no more than at first.
func TestNoMoreIsKeptThanIsNeeded(t *testing.T) {
	p := New(9, 9, 0, 32)
	wantMap(t, p, 5, 1, api.OK)
	for range 1000 {
		wantMap(t, p, 5, 2, api.ErrTwice)
		wantMap(t, p, 64, 2, api.ErrArg)
		wantFail(t, p, 2, 0, api.ErrNone)
		wantFail(t, p, 1, 9, api.OK)
		wantBring(t, p, 1, api.OK)
		wantFail(t, p, 9, 1, api.OK)
		wantBring(t, p, 9, api.OK)
	}
	if len(p.locs) != 1 || len(p.spare) != 1 || len(p.broken) != 0 {
		t.Error(*p)
	}
	if cap(p.spare) > 64 || cap(p.broken) > 64 {
		t.Error(cap(p.spare), cap(p.broken))
	}
}

func TestNothingElseIsReachedFromOutside(t *testing.T) {
	var methods []string
	for m := range reflect.TypeOf(&Places{}).Methods() {
		methods = append(methods, m.Name)
	}
	if want := []string{"At", "Bring", "Fail", "Locs", "Map", "Of", "Spares"}; !slices.Equal(methods, want) {
		t.Error(methods)
	}
	for f := range reflect.TypeOf(Places{}).Fields() {
		if f.IsExported() {
			t.Error(f.Name)
		}
	}
}
