package frame

import (
	"bytes"
	"testing"

	"lamplight/api"
)

func TestDecodeHasTheErrorOfUnstuff(t *testing.T) {
	good := inside(api.Frame{Addr: 1, Kind: api.Poll, Session: 2})
	for i := range len(good) + 1 {
		with := func(c ...byte) []byte { return bytes.Join([][]byte{good[:i], c, good[i:]}, nil) }
		wantRefused(t, with(0x7E), api.ErrForm)
		wantRefused(t, with(0x7D, 0x7D), api.ErrForm)
		wantRefused(t, with(0x7D, 0x20), api.ErrForm)
		wantRefused(t, with(0x7D, 0x7E), api.ErrForm)
	}
	wantRefused(t, append(bytes.Clone(good), 0x7D), api.ErrShort)
	wantRefused(t, []byte{0x7E}, api.ErrForm)
	wantRefused(t, []byte{0x7D}, api.ErrShort)
	whole, _ := Encode(api.Frame{Addr: 1, Kind: api.Poll, Session: 2})
	wantRefused(t, whole, api.ErrForm)
	wantRefused(t, whole[1:], api.ErrForm)
	wantRefused(t, whole[:len(whole)-1], api.ErrForm)
}

func TestDecodeOfTooFew(t *testing.T) {
	wantRefused(t, nil, api.ErrShort)
	wantRefused(t, []byte{}, api.ErrShort)
	// A sum that holds, or does not, says nothing of them.
	for size := range 7 {
		wantRefused(t, make([]byte, size), api.ErrShort)
		wantRefused(t, bytes.Repeat([]byte{0x7D, 0x5E}, size), api.ErrShort)
		if size <= 4 {
			wantRefused(t, sealed(make([]byte, size)...), api.ErrShort)
		}
	}
	wantRefused(t, sealed(1, 3, 2, 0), api.ErrShort)
	// It is bytes behind Unstuff that are counted.
	wantRefused(t, make([]byte, 7), api.ErrSum)
	wantRefused(t, bytes.Repeat([]byte{0x7D, 0x5D}, 7), api.ErrSum)
	wantRefused(t, []byte("\x01\x03\x7D\x5E\x00\x00\x00"), api.ErrShort)
}

func TestDecodeHasTheErrorOfTheSum(t *testing.T) {
	for _, f := range knownFrames() {
		inner := summed(ahead(f)...)
		for bit := range 8 * len(inner) {
			turned := bytes.Clone(inner)
			turned[bit/8] ^= 0x80 >> (bit % 8)
			wantRefused(t, escaped(turned), api.ErrSum)
		}
		wantRefused(t, escaped(append(bytes.Clone(inner), 1)), api.ErrSum)
	}
	// What is of no right frame besides has the error of the sum all the same.
	wantRefused(t, []byte("\x00\x00\x00\xFF\xFF\x00\x00"), api.ErrSum)
	wantRefused(t, []byte("1234567"), api.ErrSum)
	wantRefused(t, bytes.Repeat([]byte{1}, 1000), api.ErrSum)
}

func TestDecodeOfNoRightHead(t *testing.T) {
	check := func(right bool, head ...byte) {
		t.Helper()
		if !right {
			wantRefused(t, sealed(head...), api.ErrForm)
			return
		}
		want := api.Frame{Addr: head[0], Kind: head[1], Session: head[2], Seq: head[3] % 2, Ack: head[3] / 2, B: head[5:]}
		wantDecoded(t, sealed(head...), want)
	}
	for n := range 256 {
		c := byte(n)
		check(n >= 1 && n <= 31, c, 3, 2, 0, 0)
		check(n >= 1 && n <= 5, 1, c, 2, 0, 0)
		check(true, 1, 3, c, 0, 0)
		check(n <= 3, 1, 3, 2, c, 0)
		check(n == 0, 1, 3, 2, 0, c)
		check(n == 1, 31, 5, 2, 3, c, 'x')
	}
}

func TestDecodeOfWrongCounts(t *testing.T) {
	for size := range 300 {
		for count := range 256 {
			b := sealed(append([]byte{1, 2, 3, 1, byte(count)}, make([]byte, size)...)...)
			if size != count || size > 24 {
				wantRefused(t, b, api.ErrForm)
				continue
			}
			wantDecoded(t, b, api.Frame{Addr: 1, Kind: api.Data, Session: 3, Seq: 1, B: make([]byte, size)})
		}
	}
}

func TestDecodeOfManyBytes(t *testing.T) {
	long := make([]byte, 100000)
	wantRefused(t, sealed(append([]byte{1, 2, 3, 1, 0}, long...)...), api.ErrForm)
	wantRefused(t, append(long, 0x7D), api.ErrShort)
	wantRefused(t, append(long, 0x7E), api.ErrForm)
}

func TestEncodeSharesNothing(t *testing.T) {
	const row = "hello...."
	b := []byte(row)
	f := api.Frame{Addr: 1, Kind: api.Data, B: b[:5]}
	first, _ := Encode(f)
	second, _ := Encode(f)
	want := append(append([]byte{0x7E}, inside(f)...), 0x7E)
	if err := Right(f); err != api.OK {
		t.Error(err)
	}
	clear(first[:cap(first)])
	if string(b) != row || string(f.B) != row[:5] {
		t.Errorf("the argument is %q", b)
	}
	clear(b)
	if !bytes.Equal(second, want) {
		t.Errorf("the answer is % x; want % x", second, want)
	}
}

func TestDecodeSharesNothing(t *testing.T) {
	want := api.Frame{Addr: 1, Kind: api.Data, B: []byte("hello")}
	for _, text := range []string{"hello", "\x7Ehe\x7D"} {
		want.B = []byte(text)
		b := append(inside(want), "...."...)
		kept := bytes.Clone(b)
		first, _ := Decode(b[:len(b)-4])
		second, _ := Decode(b[:len(b)-4])
		clear(first.B[:cap(first.B)])
		if !bytes.Equal(b, kept) {
			t.Errorf("the argument is % x", b)
		}
		clear(b)
		if !same(second, want) {
			t.Errorf("the answer is %v; want %v", second, want)
		}
	}
}
