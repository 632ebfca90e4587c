package module

import (
	"bytes"
	"reflect"
	"slices"
	"testing"

	"lamplight/api"
)

func TestWhatIsTakenIsLeftAndNotKept(t *testing.T) {
	h := newHand(t)
	b := append(make([]byte, 0, 64), CommandBytes(api.Command{Kind: api.Light, Token: 7, Qty: 3})...)
	want := bytes.Clone(b)
	h.send(b)
	if !bytes.Equal(b, want) || !bytes.Equal(b[5:cap(b)], make([]byte, cap(b)-5)) {
		t.Fatalf("the argument is %x", b[:cap(b)])
	}
	clear(b)
	h.wantShow(lit(7, 3, 3))
}

func TestAnswersAreTheCallers(t *testing.T) {
	h := newHand(t)
	h.become(latched(7, 2, 3))
	one, _ := h.m.Take(h.asking(api.Poll, nil))
	other, _ := h.m.Take(h.asking(api.Poll, nil))
	clear(one.B[:cap(one.B)])
	if !same(other, h.says(EventBytes(short(7, 2)))) {
		t.Error(other)
	}
	d := h.m.Show()
	d.Lit, d.Token, d.Qty = false, 1, 99
	h.wantShow(latched(7, 2, 3))
	h.hear(short(7, 2))
}

func TestModulesHaveNothingToDoWithEachOther(t *testing.T) {
	one, other := newHand(t), newHand(t)
	one.become(latched(7, 2, 3))
	one.set(api.ButtonConfirm, true)
	other.wantShow(Display{})
	other.light(8, 5)
	for range 9 {
		other.tick()
	}
	other.wantShow(lit(8, 5, 5))
	other.wantTold()
	other.m.Reset()
	one.wantShow(latched(7, 2, 3))
	one.hear(short(7, 2))
}

// Who has a module has nothing by which more could be told than it shows.
func TestNothingElseIsReachedFromOutside(t *testing.T) {
	var methods []string
	for m := range reflect.TypeOf(&Module{}).Methods() {
		methods = append(methods, m.Name)
	}
	if want := []string{"Reset", "Set", "Show", "Take", "Tick"}; !slices.Equal(methods, want) {
		t.Error(methods)
	}
	for f := range reflect.TypeOf(Module{}).Fields() {
		if f.IsExported() {
			t.Error(f.Name)
		}
	}
}
