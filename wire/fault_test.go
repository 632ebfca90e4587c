package wire

import (
	"bytes"
	"math"
	"slices"
	"testing"
)

func texts(rows [][]byte) []string {
	var out []string
	for _, row := range rows {
		out = append(out, string(row))
	}
	return out
}

func wantRows(t *testing.T, what any, got [][]byte, want ...string) {
	t.Helper()
	if !slices.Equal(texts(got), want) {
		t.Fatalf("%v: %q; want %q", what, got, want)
	}
}

func TestKindsHaveTheirNumbers(t *testing.T) {
	kinds := []int{Pass, Drop, Twice, Hold, Edit, Cut, Noise}
	if !slices.Equal(kinds, []int{0, 1, 2, 3, 4, 5, 6}) {
		t.Error(kinds)
	}
	// They have no type of their own: a kind may be held as any number.
	var small uint8 = Noise
	if small != 6 {
		t.Error(small)
	}
}

func TestWhatBecomesOfBytes(t *testing.T) {
	for _, c := range []struct {
		f    Fault
		want []string
	}{
		{Fault{}, []string{"abc"}},
		{Fault{Kind: Pass, N: 2, By: 1, B: []byte("x")}, []string{"abc"}},
		{Fault{Kind: Drop}, nil},
		{Fault{Kind: Drop, N: 2, By: 1, B: []byte("x")}, nil},
		{Fault{Kind: Twice}, []string{"abc", "abc"}},
		{Fault{Kind: Twice, N: 2, By: 1, B: []byte("x")}, []string{"abc", "abc"}},
		{Fault{Kind: Hold}, []string{"abc"}},
		{Fault{Kind: Hold, N: 2, By: 1, B: []byte("x")}, []string{"abc"}},
		{Fault{Kind: Hold, N: -2}, []string{"abc"}},
		{Fault{Kind: Noise, B: []byte("xy")}, []string{"xy", "abc"}},
		{Fault{Kind: Noise, N: 1, By: 1, B: []byte("xy")}, []string{"xy", "abc"}},
		{Fault{Kind: Noise}, []string{"", "abc"}},
		{Fault{Kind: Noise, B: []byte{}}, []string{"", "abc"}},
		{Fault{Kind: 7, N: 2, By: 1, B: []byte("x")}, []string{"abc"}},
		{Fault{Kind: -1, N: 2, By: 1, B: []byte("x")}, []string{"abc"}},
		{Fault{Kind: math.MaxInt, N: 2, By: 1, B: []byte("x")}, []string{"abc"}},
		{Fault{Kind: math.MinInt, N: 2, By: 1, B: []byte("x")}, []string{"abc"}},
	} {
		wantRows(t, c.f, c.f.Of([]byte("abc")), c.want...)
	}
}

func TestEditCountsRound(t *testing.T) {
	for n, want := range map[int]string{
		0: "Abc", 1: "aBc", 2: "abC",
		3: "Abc", 4: "aBc", 5: "abC",
		300: "Abc", 301: "aBc", 302: "abC",
		-1: "Abc", -2: "Abc", -3: "Abc", -5: "Abc", math.MinInt: "Abc",
		math.MaxInt: "aBc", math.MaxInt - 1: "Abc", // 2^63 - 1 is 1 behind a number of threes
	} {
		f := Fault{Kind: Edit, N: n, By: 0x20, B: []byte("x")}
		wantRows(t, f, f.Of([]byte("abc")), want)
	}
}

func TestEditOfOneByte(t *testing.T) {
	for _, n := range []int{math.MinInt, -1, 0, 1, 2, math.MaxInt} {
		f := Fault{Kind: Edit, N: n, By: 0x20}
		wantRows(t, f, f.Of([]byte("a")), "A")
	}
}

func TestEditXors(t *testing.T) {
	for by := range 256 {
		for c := range 256 {
			f := Fault{Kind: Edit, N: 1, By: byte(by)}
			wantRows(t, f, f.Of([]byte{7, byte(c)}), string([]byte{7, byte(c ^ by)}))
		}
	}
}

func TestCutIsTheFirst(t *testing.T) {
	for n, want := range map[int]string{
		math.MinInt: "", -3: "", -1: "", 0: "", 1: "a", 2: "ab", 3: "abc", 4: "abc", math.MaxInt: "abc",
	} {
		f := Fault{Kind: Cut, N: n, By: 1, B: []byte("x")}
		wantRows(t, f, f.Of([]byte("abc")), want)
	}
}

func TestNoiseIsCutTo64(t *testing.T) {
	var noise []byte
	for i := range 300 {
		noise = append(noise, byte(i))
	}
	long := bytes.Repeat([]byte("long "), 100)
	for size := range len(noise) {
		f := Fault{Kind: Noise, B: noise[:size]}
		wantRows(t, size, f.Of(long), string(noise[:min(size, 64)]), string(long))
	}
}

func TestNoBytesAreARowToo(t *testing.T) {
	for _, none := range [][]byte{nil, {}} {
		for kind := range 9 {
			f := Fault{Kind: kind, N: 3, By: 255, B: []byte("x")}
			want := []string{""}
			switch kind {
			case Drop:
				want = nil
			case Twice:
				want = []string{"", ""}
			case Noise:
				want = []string{"x", ""}
			}
			wantRows(t, f, f.Of(none), want...)
		}
	}
}

func someFaults() []Fault {
	var out []Fault
	for kind := -1; kind < 9; kind++ {
		for n := -1; n < 5; n++ {
			out = append(out, Fault{Kind: kind, N: n, By: 0x55, B: []byte("noise")})
		}
	}
	return out
}

func TestWhatIsHandedToOfStays(t *testing.T) {
	for _, f := range someFaults() {
		b := []byte("abc and behind")
		f.Of(b[:3])
		if string(b) != "abc and behind" || string(f.B) != "noise" {
			t.Fatalf("%v: the bytes are %q", f, b)
		}
	}
}

func TestRowsShareNothing(t *testing.T) {
	for _, f := range someFaults() {
		b := []byte("abc")
		rows := f.Of(b)
		want := texts(rows)
		clear(b)
		clear(f.B)
		wantRows(t, f, rows, want...)
		for i, row := range rows {
			full := row[:cap(row)]
			for k := range full {
				full[k] = '#'
			}
			wantRows(t, f, rows[i+1:], want[i+1:]...)
		}
		if !bytes.Equal(b, make([]byte, 3)) || !bytes.Equal(f.B, make([]byte, 5)) {
			t.Fatalf("%v: what was handed in is %q and %q", f, b, f.B)
		}
	}
}
