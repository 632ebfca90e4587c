package octets

import (
	"bytes"
	"math"
	"testing"

	"lamplight/api"
)

func count(n int) []byte {
	b := make([]byte, n)
	for i := range b {
		b[i] = byte(i + 1)
	}
	return b
}

// numberReads are the three calls that take a number, by their sizes.
func numberReads() map[int]func(*Reader) (uint32, api.Errno) {
	return map[int]func(*Reader) (uint32, api.Errno){
		1: func(r *Reader) (uint32, api.Errno) { n, err := r.U8(); return uint32(n), err },
		2: func(r *Reader) (uint32, api.Errno) { n, err := r.U16(); return uint32(n), err },
		4: (*Reader).U32,
	}
}

func wantRest(t *testing.T, r *Reader, want []byte) {
	t.Helper()
	wantDone := api.OK
	if len(want) > 0 {
		wantDone = api.ErrForm
	}
	if n, err := r.Left(), r.Done(); n != len(want) || err != wantDone {
		t.Errorf("Left %d, Done %v; want %d, %v", n, err, len(want), wantDone)
	}
	if b := r.Rest(); !bytes.Equal(b, want) {
		t.Errorf("Rest % x; want % x", b, want)
	}
	if n, err, b := r.Left(), r.Done(), r.Rest(); n != 0 || err != api.OK || len(b) != 0 {
		t.Errorf("behind Rest: Left %d, Done %v, Rest % x", n, err, b)
	}
}

func TestNumbersHighestByteFirst(t *testing.T) {
	for _, c := range []struct {
		b    []byte
		want uint32
	}{
		{[]byte{0}, 0},
		{[]byte{0x80}, 0x80},
		{[]byte{0xFF}, 0xFF},
		{[]byte{2, 1}, 513},
		{[]byte{0, 1}, 1},
		{[]byte{1, 0}, 256},
		{[]byte{0xFF, 0xFE}, 0xFFFE},
		{[]byte{1, 2, 3, 4}, 0x01020304},
		{[]byte{0, 0, 0, 1}, 1},
		{[]byte{0x80, 0, 0, 0}, 1 << 31},
		{[]byte{0xFF, 0xFF, 0xFF, 0xFE}, math.MaxUint32 - 1},
	} {
		read := numberReads()[len(c.b)]
		for _, behind := range [][]byte{nil, {9}, {9, 8, 7, 6, 5}} {
			r := Read(Join(c.b, behind))
			if n, err := read(r); n != c.want || err != api.OK {
				t.Errorf("% x: %x, %v; want %x", c.b, n, err, c.want)
			}
			wantRest(t, r, behind)
		}
	}
}

func TestNumbersTooShortTakeNothing(t *testing.T) {
	for size, read := range numberReads() {
		for have := range size {
			r := Read(count(have))
			for range 2 {
				if n, err := read(r); n != 0 || err != api.ErrShort {
					t.Errorf("size %d of %d: %x, %v", size, have, n, err)
				}
			}
			wantRest(t, r, count(have))
		}
	}
}

func TestNumbersTooShortBehindOthers(t *testing.T) {
	r := Read(count(6))
	if n, err := r.U32(); n != 0x01020304 || err != api.OK {
		t.Errorf("%x, %v", n, err)
	}
	if n, err := r.U32(); n != 0 || err != api.ErrShort {
		t.Errorf("%x, %v", n, err)
	}
	if n, err := r.U8(); n != 5 || err != api.OK {
		t.Errorf("%x, %v", n, err)
	}
	if n, err := r.U16(); n != 0 || err != api.ErrShort {
		t.Errorf("%x, %v", n, err)
	}
	wantRest(t, r, []byte{6})
}

func TestReaderBytes(t *testing.T) {
	const have = 5
	for n := 0; n <= have; n++ {
		r := Read(count(have))
		if b, err := r.Bytes(n); !bytes.Equal(b, count(have)[:n]) || err != api.OK {
			t.Errorf("Bytes(%d): % x, %v", n, b, err)
		}
		wantRest(t, r, count(have)[n:])
	}
}

func TestReaderBytesWrong(t *testing.T) {
	for _, have := range []int{0, 3} {
		for _, c := range []struct {
			n    int
			want api.Errno
		}{
			{-1, api.ErrArg},
			{math.MinInt, api.ErrArg},
			{have + 1, api.ErrShort},
			{math.MaxInt, api.ErrShort},
		} {
			r := Read(count(have))
			if b, err := r.Bytes(c.n); len(b) != 0 || err != c.want {
				t.Errorf("Bytes(%d) of %d: % x, %v; want %v", c.n, have, b, err, c.want)
			}
			wantRest(t, r, count(have))
		}
	}
}

func TestReaderOfNothing(t *testing.T) {
	for _, b := range [][]byte{nil, {}} {
		r := Read(b)
		if taken, err := r.Bytes(0); len(taken) != 0 || err != api.OK {
			t.Errorf("% x, %v", taken, err)
		}
		wantRest(t, r, nil)
	}
}

func TestReaderHasItsOwnCopy(t *testing.T) {
	b := count(4)
	r, other := Read(b), Read(b)
	clear(b)
	first, err := r.Bytes(2)
	if err != api.OK || !bytes.Equal(first, []byte{1, 2}) {
		t.Fatalf("% x, %v", first, err)
	}
	// What was answered is the caller's, to its whole room.
	clear(first[:cap(first)])
	rest := r.Rest()
	if !bytes.Equal(rest, []byte{3, 4}) {
		t.Errorf("% x", rest)
	}
	clear(rest[:cap(rest)])
	wantRest(t, other, count(4))
}

func TestReaderLeavesItsArgument(t *testing.T) {
	b := count(8)
	r := Read(b[:4])
	if taken, err := r.Bytes(3); err != api.OK {
		t.Error(err)
	} else {
		clear(taken)
		_ = append(taken, 99)
	}
	clear(r.Rest())
	if !bytes.Equal(b, count(8)) {
		t.Errorf("% x", b)
	}
}
