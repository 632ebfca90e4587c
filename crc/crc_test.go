package crc

import (
	"bytes"
	"testing"
)

// divided is the sum by another way: the bits of the text, the first sixteen
// of them turned, with sixteen zeros behind, divided by the polynomial.
func divided(text []byte) uint16 {
	var bits []int
	for _, b := range append(bytes.Clone(text), 0, 0) {
		for i := range 8 {
			bits = append(bits, int(b>>(7-i)&1))
		}
	}
	for i := range 16 {
		bits[i] ^= 1
	}
	for i := range 8 * len(text) {
		if bits[i] == 0 {
			continue
		}
		for _, power := range []int{16, 12, 5, 0} {
			bits[i+16-power] ^= 1
		}
	}
	var sum uint16
	for _, bit := range bits[8*len(text):] {
		sum = sum<<1 | uint16(bit)
	}
	return sum
}

func wantSum(t *testing.T, want uint16, parts ...[]byte) {
	t.Helper()
	if n := Bits(parts...); n != want {
		t.Errorf("Bits(% x): %04X; want %04X", parts, n, want)
	}
	if n := Table(parts...); n != want {
		t.Errorf("Table(% x): %04X; want %04X", parts, n, want)
	}
}

// texts are of all lengths up to some, and have all bytes.
func texts() [][]byte {
	var all [][]byte
	for size := range 40 {
		text := make([]byte, size)
		for i := range text {
			text[i] = byte(size*37 + i*101)
		}
		all = append(all, text)
	}
	whole := make([]byte, 256)
	for i := range whole {
		whole[i] = byte(255 - i)
	}
	return append(all, whole, make([]byte, 300), bytes.Repeat([]byte{0xFF}, 300))
}

func TestKnownSums(t *testing.T) {
	for text, want := range map[string]uint16{
		"":                 0xFFFF,
		"123456789":        0x29B1,
		"A":                0xB915,
		"\x00":             0xE1F0,
		"\x01":             0xF1D1,
		"\x80":             0x7078,
		"\xff":             0xFF00,
		"\x00\x00":         0x1D0F,
		"\xff\xff":         0x0000,
		"\xff\xff\x00":     0x0000,
		"\xff\xff\x00\x01": 0x1021,
	} {
		wantSum(t, want, []byte(text))
	}
}

func TestSumsOfNothing(t *testing.T) {
	wantSum(t, 0xFFFF)
	wantSum(t, 0xFFFF, nil)
	wantSum(t, 0xFFFF, []byte{})
	wantSum(t, 0xFFFF, nil, []byte{}, nil)
}

func TestSumsOfAllPairsOfBytes(t *testing.T) {
	for n := range 1 << 16 {
		b := []byte{byte(n >> 8), byte(n)}
		want := divided(b)
		if Bits(b) != want || Table(b) != want {
			t.Fatalf("% x: Bits %04X, Table %04X; want %04X", b, Bits(b), Table(b), want)
		}
	}
}

func TestSumsOfTexts(t *testing.T) {
	for _, text := range texts() {
		wantSum(t, divided(text), text)
	}
}

func TestPartsAreOneBehindTheOther(t *testing.T) {
	text := []byte("123456789")
	for i := range len(text) + 1 {
		for j := i; j <= len(text); j++ {
			wantSum(t, 0x29B1, text[:i], text[i:j], text[j:])
			wantSum(t, 0x29B1, nil, text[:i], []byte{}, text[i:j], nil, text[j:], nil)
		}
	}
	var single [][]byte
	for i := range text {
		single = append(single, text[i:i+1])
	}
	wantSum(t, 0x29B1, single...)
	wantSum(t, divided([]byte("567891234")), text[4:], text[:4])
	wantSum(t, divided([]byte("123123")), text[:3], text[:3])
}

func TestSumsLeaveTheirArguments(t *testing.T) {
	b := []byte("123456789")
	parts := [][]byte{b[:4], nil, b[4:]}
	for range 2 {
		wantSum(t, 0x29B1, parts...)
	}
	if string(b) != "123456789" || string(parts[0]) != "1234" || parts[1] != nil || string(parts[2]) != "56789" {
		t.Errorf("%q, %q", b, parts)
	}
}

func TestAppendPutsTheSumBehind(t *testing.T) {
	if b := Append([]byte("123456789")); string(b) != "123456789\x29\xB1" {
		t.Errorf("% x", b)
	}
	for _, b := range [][]byte{nil, {}} {
		if whole := Append(b); string(whole) != "\xFF\xFF" {
			t.Errorf("of nothing: % x", whole)
		}
	}
	for _, text := range texts() {
		sum := divided(text)
		want := append(bytes.Clone(text), byte(sum>>8), byte(sum))
		if whole := Append(text); !bytes.Equal(whole, want) {
			t.Errorf("% x: % x; want % x", text, whole, want)
		}
	}
}

func TestAppendSharesNothing(t *testing.T) {
	// The room behind what is handed in would hold the sum.
	row := []byte("123456789....")
	whole := Append(row[:9])
	if string(row) != "123456789...." {
		t.Errorf("the argument is %q", row)
	}
	clear(row)
	if string(whole) != "123456789\x29\xB1" {
		t.Errorf("the answer is % x", whole)
	}
	row = []byte("123456789....")
	first, second := Append(row[:9]), Append(row[:9])
	clear(first[:cap(first)])
	if string(row) != "123456789...." || string(second) != "123456789\x29\xB1" {
		t.Errorf("%q, % x", row, second)
	}
}

func TestAppendedIsValid(t *testing.T) {
	for _, text := range texts() {
		whole := Append(text)
		if !Valid(whole) {
			t.Errorf("% x", whole)
		}
		// What is whole is a text again.
		if again := Append(whole); !Valid(again) || string(again[len(whole):]) != "\x00\x00" {
			t.Errorf("% x", again)
		}
	}
}

func TestTooFewAreNotValid(t *testing.T) {
	if Valid(nil) || Valid([]byte{}) {
		t.Error("of nothing")
	}
	for n := range 256 {
		if Valid([]byte{byte(n)}) {
			t.Errorf("%02X alone", n)
		}
	}
}

func TestOneSumIsValid(t *testing.T) {
	for _, text := range []string{"", "\x00", "A", "123456789"} {
		sum := divided([]byte(text))
		for n := range 1 << 16 {
			b := append([]byte(text), byte(n>>8), byte(n))
			if got, want := Valid(b), uint16(n) == sum; got != want {
				t.Fatalf("% x: %v", b, got)
			}
		}
	}
}

func TestValidLeavesItsArgument(t *testing.T) {
	b := []byte("123456789\x29\xB1..")
	for range 2 {
		if !Valid(b[:11]) || Valid(b) || Valid(b[:10]) {
			t.Error("other answers")
		}
	}
	if string(b) != "123456789\x29\xB1.." {
		t.Errorf("% x", b)
	}
}

// turn turns, from a bit of b on, those that the burst has; its first is the
// lowest. What stands behind the end is left away.
func turn(b []byte, from int, burst uint16) {
	for i := range 16 {
		if at := from + i; burst>>i&1 == 1 && at < 8*len(b) {
			b[at/8] ^= 0x80 >> (at % 8)
		}
	}
}

// wantBurstsTold turns each burst that begins at each bit of what is whole.
func wantBurstsTold(t *testing.T, text []byte, step int) {
	t.Helper()
	whole := Append(text)
	for from := range 8 * len(whole) {
		for burst := 1; burst < 1<<16; burst += step {
			turn(whole, from, uint16(burst))
			if Valid(whole) {
				t.Fatalf("% x: burst %04X from bit %d on", text, burst, from)
			}
			turn(whole, from, uint16(burst))
		}
	}
	if !bytes.Equal(whole, Append(text)) {
		t.Fatal("the test has not turned back what it turned")
	}
}

func TestBurstsAreTold(t *testing.T) {
	// The first bit of a burst is turned: so all odd numbers are all bursts.
	for _, text := range []string{"", "\x00", "\xFF\xFF", "123456789"} {
		wantBurstsTold(t, []byte(text), 2)
	}
	// Of longer texts some bursts are enough: what is told hangs on the burst alone.
	for _, text := range texts() {
		wantBurstsTold(t, text, 4098)
	}
}
