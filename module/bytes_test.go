package module

import (
	"testing"

	"lamplight/api"
)

// both are commands and events alike: what they are called, which kinds they
// may be of, and their bytes, back and forth.
var both = []struct {
	what  string
	kinds [2]uint8
	bytes func(w words) []byte
	parse func(b []byte) (words, api.Errno)
}{
	{"command", [2]uint8{api.Light, api.Clear},
		func(w words) []byte { return CommandBytes(api.Command(w)) },
		func(b []byte) (words, api.Errno) { c, err := ParseCommand(b); return words(c), err }},
	{"event", [2]uint8{api.Confirm, api.Short},
		func(w words) []byte { return EventBytes(api.Event(w)) },
		func(b []byte) (words, api.Errno) { e, err := ParseEvent(b); return words(e), err }},
}

func TestTheBytesOfEachNumber(t *testing.T) {
	for _, x := range both {
		for want, w := range map[string]words{
			"\x00\x00\x00\x00\x00": {},
			"\x01\x00\x07\x00\x03": {1, 7, 3},
			"\x02\x01\x02\x03\x04": {2, 0x102, 0x304},
			"\x01\x00\xff\x01\x00": {1, 255, 256},
			"\x02\xff\xff\x00\x00": {2, 65535, 0},
			"\x01\x00\x00\xff\xff": {1, 0, 65535},
			"\x03\x80\x00\x00\x80": {3, 0x8000, 0x80}, // of a kind that there is not, too
			"\xff\x7e\x7d\x27\x0f": {255, 0x7E7D, 9999},
		} {
			if got := string(x.bytes(w)); got != want {
				t.Errorf("bytes of the %s %v: %x; want %x", x.what, w, got, want)
			}
		}
	}
}

func TestWhatBytesSay(t *testing.T) {
	for _, x := range both {
		for text, want := range map[string]words{
			"\x01\x00\x07\x00\x03": {1, 7, 3},
			"\x02\x01\x02\x03\x04": {2, 0x102, 0x304},
			"\x01\x00\xff\x01\x00": {1, 255, 256},
			"\x02\xff\xff\x00\x00": {2, 65535, 0},
			"\x01\x00\x00\xff\xff": {1, 0, 65535},
			"\x02\x00\x00\x00\x00": {2, 0, 0},
		} {
			if got, err := x.parse([]byte(text)); got != want || err != api.OK {
				t.Errorf("the %s of %x: %v, %v; want %v, OK", x.what, text, got, err, want)
			}
		}
	}
}

func TestWhatIsWrittenIsRead(t *testing.T) {
	numbers := []uint16{0, 1, 2, 127, 128, 255, 256, 257, 9999, 0x7D7E, 0x8000, 65534, 65535}
	for _, x := range both {
		for _, kind := range x.kinds {
			for _, token := range numbers {
				for _, qty := range numbers {
					w := words{kind, token, qty}
					if got, err := x.parse(x.bytes(w)); got != w || err != api.OK {
						t.Fatalf("%s %v: %v, %v", x.what, w, got, err)
					}
				}
			}
		}
	}
}

func TestThereAreTwoKinds(t *testing.T) {
	for _, x := range both {
		for kind := range 256 {
			b := []byte{byte(kind), 1, 2, 3, 4}
			w, want := words{byte(kind), 0x102, 0x304}, api.OK
			if byte(kind) != x.kinds[0] && byte(kind) != x.kinds[1] {
				w, want = words{}, api.ErrForm
			}
			if got, err := x.parse(b); got != w || err != want {
				t.Errorf("the %s of %x: %v, %v; want %v, %v", x.what, b, got, err, w, want)
			}
		}
	}
}

// Be the kind one that there is, or not.
func TestThereAreFiveBytes(t *testing.T) {
	lengths := []int{255, 256, 257, 1 << 16, 1<<16 + 5, 1 << 20}
	for n := range 70 {
		lengths = append(lengths, n)
	}
	for _, x := range both {
		for _, n := range lengths {
			for _, kind := range []byte{0, 1, 2, 3, 255} {
				want := api.ErrForm
				if n < 5 {
					want = api.ErrShort
				} else if n == 5 && (kind == 1 || kind == 2) {
					continue
				}
				b := make([]byte, n)
				for i := range b {
					b[i] = kind
				}
				if got, err := x.parse(b); got != (words{}) || err != want {
					t.Errorf("the %s of %d bytes of kind %d: %v, %v; want %v", x.what, n, kind, got, err, want)
				}
			}
		}
		if got, err := x.parse(nil); got != (words{}) || err != api.ErrShort {
			t.Errorf("the %s of nil: %v, %v", x.what, got, err)
		}
	}
}

// What stands behind the bytes that are handed is no part of them.
func TestRoomIsNotBytes(t *testing.T) {
	for _, x := range both {
		b := []byte{1, 0, 7, 0, 3, 9, 9}
		if got, err := x.parse(b[:5]); got != (words{1, 7, 3}) || err != api.OK {
			t.Errorf("%s: %v, %v", x.what, got, err)
		}
		if got, err := x.parse(b[:4]); got != (words{}) || err != api.ErrShort {
			t.Errorf("%s: %v, %v", x.what, got, err)
		}
		if string(b) != "\x01\x00\x07\x00\x03\x09\x09" {
			t.Errorf("%s: the argument is %x", x.what, b)
		}
	}
}

func TestBytesAreTheCallers(t *testing.T) {
	for _, x := range both {
		one, other := x.bytes(words{1, 2, 3}), x.bytes(words{1, 2, 3})
		clear(one[:cap(one)])
		if string(other) != "\x01\x00\x02\x00\x03" || string(x.bytes(words{1, 2, 3})) != string(other) {
			t.Errorf("%s: %x", x.what, other)
		}
	}
}
