package frame

import (
	"bytes"
	"testing"

	"lamplight/api"
)

// summed is bytes with their sum behind them, taken bit by bit.
func summed(b ...byte) []byte {
	sum := 0xFFFF
	for _, c := range b {
		sum ^= int(c) << 8
		for range 8 {
			sum <<= 1
			if sum > 0xFFFF {
				sum ^= 0x11021
			}
		}
	}
	return append(bytes.Clone(b), byte(sum>>8), byte(sum))
}

func escaped(b []byte) []byte {
	b = bytes.ReplaceAll(b, []byte{0x7D}, []byte{0x7D, 0x5D})
	return bytes.ReplaceAll(b, []byte{0x7E}, []byte{0x7D, 0x5E})
}

// sealed is what stands between two 7E, made of what is ahead of the sum.
func sealed(b ...byte) []byte {
	return escaped(summed(b...))
}

// ahead is what must be ahead of the sum of a right frame.
func ahead(f api.Frame) []byte {
	return append([]byte{f.Addr, f.Kind, f.Session, f.Seq | f.Ack<<1, byte(len(f.B))}, f.B...)
}

// inside is what must stand between the two 7E of a right frame.
func inside(f api.Frame) []byte {
	return sealed(ahead(f)...)
}

func same(a, b api.Frame) bool {
	return a.Addr == b.Addr && a.Kind == b.Kind && a.Session == b.Session && a.Seq == b.Seq && a.Ack == b.Ack && bytes.Equal(a.B, b.B)
}

func wantEncoded(t *testing.T, f api.Frame) {
	t.Helper()
	want := append(append([]byte{0x7E}, inside(f)...), 0x7E)
	b, err := Encode(f)
	if !bytes.Equal(b, want) || err != api.OK {
		t.Fatalf("Encode(%v): % x, %v; want % x", f, b, err, want)
	}
	if len(b) > Most+2 {
		t.Fatalf("Encode(%v): %d bytes", f, len(b))
	}
	wantDecoded(t, b[1:len(b)-1], f)
}

func wantDecoded(t *testing.T, b []byte, want api.Frame) {
	t.Helper()
	if f, err := Decode(b); !same(f, want) || err != api.OK {
		t.Fatalf("Decode(% x): %v, %v; want %v", b, f, err, want)
	}
}

func wantRefused(t *testing.T, b []byte, want api.Errno) {
	t.Helper()
	f, err := Decode(b)
	if err != want {
		t.Fatalf("Decode(% x): %v; want %v", b, err, want)
	}
	if !same(f, api.Frame{}) {
		t.Fatalf("Decode(% x): %v beside %v", b, f, err)
	}
}

// wantRight holds what Right and Encode answer against whether f is right.
func wantRight(t *testing.T, f api.Frame, right bool) {
	t.Helper()
	want := api.ErrArg
	if right {
		want = api.OK
	}
	if err := Right(f); err != want {
		t.Fatalf("Right(%v): %v; want %v", f, err, want)
	}
	b, err := Encode(f)
	if err != want || (len(b) > 0) != right {
		t.Fatalf("Encode(%v): % x, %v; want %v", f, b, err, want)
	}
}

func TestRightByEachField(t *testing.T) {
	for n := range 256 {
		c := byte(n)
		wantRight(t, api.Frame{Addr: c, Kind: api.Data}, n >= 1 && n <= 31)
		wantRight(t, api.Frame{Addr: 31, Kind: c}, n >= 1 && n <= 5)
		wantRight(t, api.Frame{Addr: 1, Kind: api.Open, Session: c}, true)
		wantRight(t, api.Frame{Addr: 1, Kind: api.Reply, Seq: c, Ack: 1}, n <= 1)
		wantRight(t, api.Frame{Addr: 1, Kind: api.Poll, Ack: c, Seq: 1}, n <= 1)
	}
	// From 256 on, what is told of the length in a byte would be small again.
	for size := range 600 {
		wantRight(t, api.Frame{Addr: 1, Kind: api.Data, B: make([]byte, size)}, size <= 24)
	}
	wantRight(t, api.Frame{}, false)
}

func TestRightWithSeveralWrong(t *testing.T) {
	wrong := api.Frame{Addr: 32, Kind: 6, Session: 9, Seq: 2, Ack: 2, B: make([]byte, 25)}
	right := api.Frame{Addr: 31, Kind: 5, Session: 9, Seq: 1, Ack: 1, B: make([]byte, 24)}
	for set := range 32 {
		f := right
		for i, take := range []func(){
			func() { f.Addr = wrong.Addr },
			func() { f.Kind = wrong.Kind },
			func() { f.Seq = wrong.Seq },
			func() { f.Ack = wrong.Ack },
			func() { f.B = wrong.B },
		} {
			if set>>i&1 == 1 {
				take()
			}
		}
		wantRight(t, f, set == 0)
	}
}

func TestMost(t *testing.T) {
	if Most != 62 {
		t.Errorf("Most is %d", Most)
	}
}

// knownFrames were reckoned by another program.
func knownFrames() map[string]api.Frame {
	return map[string]api.Frame{
		"\x7E\x01\x03\x02\x00\x00\x4E\xE1\x7E":                                 {Addr: 1, Kind: api.Poll, Session: 2},
		"\x7E\x1F\x05\xFF\x01\x05hello\xF8\x9F\x7E":                            {Addr: 31, Kind: api.Reply, Session: 255, Seq: 1, B: []byte("hello")},
		"\x7E\x07\x01\x00\x02\x00\x66\x0E\x7E":                                 {Addr: 7, Kind: api.Open, Ack: 1},
		"\x7E\x1E\x02\x7D\x5E\x03\x03\x7D\x5E\x7D\x5D\x7D\x5E\x60\x1C\x7E":     {Addr: 30, Kind: api.Data, Session: 0x7E, Seq: 1, Ack: 1, B: []byte("\x7E\x7D\x7E")},
		"\x7E\x01\x03\x50\x00\x00\x7D\x5E\x4F\x7E":                             {Addr: 1, Kind: api.Poll, Session: 80},
		"\x7E\x01\x03\x4D\x00\x00\x7F\x7D\x5D\x7E":                             {Addr: 1, Kind: api.Poll, Session: 77},
		"\x7E\x10\x02\x80\x00\x18" + string(make([]byte, 24)) + "\x59\xAD\x7E": {Addr: 16, Kind: api.Data, Session: 128, B: make([]byte, 24)},
	}
}

func TestKnownFrames(t *testing.T) {
	for want, f := range knownFrames() {
		if b, err := Encode(f); string(b) != want || err != api.OK {
			t.Errorf("Encode(%v): % x, %v; want % x", f, b, err, want)
		}
		wantDecoded(t, []byte(want[1:len(want)-1]), f)
	}
}

func TestEncodedIsDecoded(t *testing.T) {
	fill := []byte{0x00, 0x7E, 0x7D, 0x5E, 0xFF}
	for addr := 1; addr <= 31; addr++ {
		for kind := 1; kind <= 5; kind++ {
			for turns := range 4 {
				for size := range 25 {
					b := bytes.Repeat(fill[size%5:size%5+1], size)
					f := api.Frame{Addr: byte(addr), Kind: byte(kind), Session: byte(addr*size + turns), Seq: byte(turns % 2), Ack: byte(turns / 2), B: b}
					wantEncoded(t, f)
				}
			}
		}
	}
	for n := range 256 {
		wantEncoded(t, api.Frame{Addr: 5, Kind: api.Data, Session: byte(n), B: []byte{byte(n), byte(255 - n)}})
	}
}

func TestLongestFrames(t *testing.T) {
	// The first two bytes go through all, so that the sum does: it is stuffed too.
	f := api.Frame{Addr: 31, Kind: api.Opened, Session: 0x7D, Seq: 1, Ack: 1, B: bytes.Repeat([]byte{0x7E}, 24)}
	for n := range 1 << 16 {
		f.B[0], f.B[1] = byte(n>>8), byte(n)
		wantEncoded(t, f)
	}
}

func TestNoBytesAreNilOrEmpty(t *testing.T) {
	wantEncoded(t, api.Frame{Addr: 1, Kind: api.Poll})
	wantEncoded(t, api.Frame{Addr: 1, Kind: api.Poll, B: []byte{}})
}
