package resync

import (
	"bytes"
	"testing"

	"lamplight/api"
)

func TestWhatIsFedIsLeftAndNotKept(t *testing.T) {
	f := someFrames()[1]
	b := encoded(t, f)
	kept := bytes.Clone(b)
	var d Decoder
	half := len(b) / 2
	d.Feed(b[:half]...)
	if !bytes.Equal(b, kept) {
		t.Fatalf("the argument is % x", b)
	}
	clear(b[:half])
	told := d.Feed(b[half:]...)
	if !bytes.Equal(b[half:], kept[half:]) {
		t.Fatalf("the argument is % x", b)
	}
	clear(b)
	wantTold(t, told, f)
}

func TestWhatWasToldStays(t *testing.T) {
	first, second := someFrames()[1], api.Frame{Addr: 9, Kind: api.Reply, B: []byte("world")}
	both := append(encoded(t, first), encoded(t, second)...)
	var d Decoder
	told := d.Feed(both...)
	wantTold(t, told, first, second)
	again := d.Feed(both...)
	d.Feed(bytes.Repeat([]byte{0xFF}, 62)...)
	wantTold(t, told, first, second)
	clear(told[0].B[:cap(told[0].B)])
	wantTold(t, told[1:], second)
	clear(told[:cap(told)])
	wantTold(t, again, first, second)
	wantState(t, &d, 62, nil)
}

func TestErrorsIsTheCallersOwn(t *testing.T) {
	var d Decoder
	d.Feed('a', 0x7E)
	counts := d.Errors()
	counts[api.ErrShort] = 99
	wantState(t, &d, 0, map[api.Errno]int{api.ErrShort: 1})
}

func TestDecodersHaveNothingToDoWithEachOther(t *testing.T) {
	f := someFrames()[1]
	b := encoded(t, f)
	var one, other Decoder
	one.Feed(b[:6]...)
	wantState(t, &other, 0, nil)
	other.Feed(make([]byte, 63)...)
	wantState(t, &one, 5, nil)
	copied := one
	wantTold(t, copied.Feed('x', 0x7E))
	wantState(t, &copied, 0, map[api.Errno]int{api.ErrShort: 1})
	wantTold(t, one.Feed(b[6:]...), f)
	wantState(t, &one, 0, nil)
	wantState(t, &other, 0, map[api.Errno]int{api.ErrRange: 1})
}
