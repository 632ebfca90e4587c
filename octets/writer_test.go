package octets

import (
	"bytes"
	"math"
	"testing"

	"lamplight/api"
)

func wantWritten(t *testing.T, w *Writer, want ...byte) {
	t.Helper()
	if b := w.Done(); !bytes.Equal(b, want) {
		t.Errorf("Done % x; want % x", b, want)
	}
}

func TestZeroWriterHasNothing(t *testing.T) {
	wantWritten(t, new(Writer))
	wantWritten(t, new(Writer).Bytes())
	wantWritten(t, new(Writer).Bytes(nil, []byte{}, nil))
}

func TestWriterNumbers(t *testing.T) {
	wantWritten(t, new(Writer).U8(0), 0)
	wantWritten(t, new(Writer).U8(255), 255)
	wantWritten(t, new(Writer).U16(513), 2, 1)
	wantWritten(t, new(Writer).U16(1), 0, 1)
	wantWritten(t, new(Writer).U16(0xFFFE), 0xFF, 0xFE)
	wantWritten(t, new(Writer).U32(0x01020304), 1, 2, 3, 4)
	wantWritten(t, new(Writer).U32(1), 0, 0, 0, 1)
	wantWritten(t, new(Writer).U32(math.MaxUint32-1), 0xFF, 0xFF, 0xFF, 0xFE)
}

func TestWriterPutsBehind(t *testing.T) {
	var w Writer
	for i, answer := range []*Writer{w.U8(1), w.U16(0x0203), w.U32(0x04050607), w.Bytes([]byte{8}, nil, []byte{9, 10}), w.Bytes()} {
		if answer != &w {
			t.Errorf("call %d answers another writer", i)
		}
	}
	wantWritten(t, &w, count(10)...)
	wantWritten(t, &w, count(10)...)
	wantWritten(t, w.U8(11), count(11)...)
}

func TestWriterOwnsWhatItHas(t *testing.T) {
	var w, other Writer
	part := []byte{1, 2, 3}
	w.Bytes(part, part[:1])
	other.U8(7)
	clear(part)
	first := w.Done()
	clear(first[:cap(first)])
	_ = append(first[:0], 9, 9, 9, 9, 9)
	wantWritten(t, &w, 1, 2, 3, 1)
	kept := w.Done()
	w.U32(0)
	if !bytes.Equal(kept, []byte{1, 2, 3, 1}) {
		t.Errorf("% x", kept)
	}
	wantWritten(t, &other, 7)
}

func TestWriterLeavesItsArguments(t *testing.T) {
	b := count(4)
	var w Writer
	w.Bytes(b[:1], b[:2]).U32(0)
	clear(w.Done())
	if !bytes.Equal(b, count(4)) {
		t.Errorf("% x", b)
	}
}

func TestJoin(t *testing.T) {
	for _, c := range []struct {
		parts [][]byte
		want  string
	}{
		{nil, ""},
		{[][]byte{nil}, ""},
		{[][]byte{{}, nil, {}}, ""},
		{[][]byte{[]byte("a")}, "a"},
		{[][]byte{[]byte("a"), []byte("bc")}, "abc"},
		{[][]byte{nil, []byte("bc"), nil, []byte("a"), {}}, "bca"},
	} {
		if b := Join(c.parts...); string(b) != c.want {
			t.Errorf("Join(%q): %q; want %q", c.parts, b, c.want)
		}
	}
}

func TestJoinIsACopy(t *testing.T) {
	// One part alone, or the first of several, could be handed on as it is.
	for _, behind := range [][]byte{nil, {5}} {
		b := count(4)
		joined := Join(b[:2], behind)
		clear(joined[:cap(joined)])
		_ = append(joined, 9, 9)
		if !bytes.Equal(b, count(4)) {
			t.Errorf("the argument is % x", b)
		}
		joined = Join(b[:2], behind)
		clear(b)
		if !bytes.Equal(joined, Join([]byte{1, 2}, behind)) {
			t.Errorf("the answer is % x", joined)
		}
	}
}

func TestWrittenIsRead(t *testing.T) {
	numbers := []uint32{0, 1, 0x7F, 0x80, 0xFF, 0x100, 0x7FFF, 0x8000, 0xFFFF, 0x10000, 0x12345678, 1 << 31, math.MaxUint32}
	var w Writer
	for _, n := range numbers {
		w.U8(uint8(n)).U16(uint16(n)).U32(n).Bytes(count(int(uint8(n))))
	}
	r := Read(w.Done())
	for _, n := range numbers {
		a, errA := r.U8()
		b, errB := r.U16()
		c, errC := r.U32()
		d, errD := r.Bytes(int(uint8(n)))
		if errA != api.OK || errB != api.OK || errC != api.OK || errD != api.OK {
			t.Fatalf("%x: %v, %v, %v, %v", n, errA, errB, errC, errD)
		}
		if a != uint8(n) || b != uint16(n) || c != n || !bytes.Equal(d, count(int(uint8(n)))) {
			t.Errorf("%x: %x, %x, %x, % x", n, a, b, c, d)
		}
	}
	wantRest(t, r, nil)
}

func TestAllOfTwoBytesIsRead(t *testing.T) {
	for n := range 1 << 16 {
		b := new(Writer).U16(uint16(n)).Done()
		if len(b) != 2 || int(b[0])*256+int(b[1]) != n {
			t.Fatalf("%d: % x", n, b)
		}
		if m, err := Read(b).U16(); int(m) != n || err != api.OK {
			t.Fatalf("%d: %d, %v", n, m, err)
		}
	}
}
