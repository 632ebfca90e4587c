package stuff

import (
	"bytes"
	"regexp"
	"testing"

	"lamplight/api"
)

// replaced is Stuff by another way. What is put for a 7E has a 7D: so those
// that were there are replaced first.
func replaced(b []byte) []byte {
	b = bytes.ReplaceAll(b, []byte{0x7D}, []byte{0x7D, 0x5D})
	return bytes.ReplaceAll(b, []byte{0x7E}, []byte{0x7D, 0x5E})
}

var (
	whole = regexp.MustCompile(`^([^\x7D\x7E]|\x7D[\x5D\x5E])*$`)
	cut   = regexp.MustCompile(`^([^\x7D\x7E]|\x7D[\x5D\x5E])*\x7D$`)
)

// wantedError is what Unstuff must answer beside its bytes, told by patterns.
func wantedError(b []byte) api.Errno {
	switch {
	case whole.Match(b):
		return api.OK
	case cut.Match(b):
		return api.ErrShort
	}
	return api.ErrForm
}

func wantStuffed(t *testing.T, b []byte) {
	t.Helper()
	got := Stuff(b)
	if want := replaced(b); !bytes.Equal(got, want) {
		t.Fatalf("Stuff(% x): % x; want % x", b, got, want)
	}
	if bytes.IndexByte(got, 0x7E) >= 0 || len(got) > 2*len(b) {
		t.Fatalf("Stuff(% x): % x", b, got)
	}
	if back, err := Unstuff(got); !bytes.Equal(back, b) || err != api.OK {
		t.Fatalf("Unstuff(% x): % x, %v; want % x", got, back, err, b)
	}
}

func wantUnstuffed(t *testing.T, b []byte) {
	t.Helper()
	got, err := Unstuff(b)
	if want := wantedError(b); err != want {
		t.Fatalf("Unstuff(% x): %v; want %v", b, err, want)
	}
	if err != api.OK && len(got) != 0 {
		t.Fatalf("Unstuff(% x): % x beside %v", b, got, err)
	}
	if err == api.OK && !bytes.Equal(replaced(got), b) {
		t.Fatalf("Unstuff(% x): % x", b, got)
	}
}

// rows are all rows of so many of those bytes.
func rows(size int, of []byte) [][]byte {
	all := [][]byte{{}}
	for range size {
		var longer [][]byte
		for _, row := range all {
			for _, c := range of {
				longer = append(longer, append(bytes.Clone(row), c))
			}
		}
		all = longer
	}
	return all
}

func TestConstants(t *testing.T) {
	if Flag != 0x7E || Esc != 0x7D {
		t.Errorf("Flag %02X, Esc %02X", Flag, Esc)
	}
}

func TestKnownBytes(t *testing.T) {
	for plain, want := range map[string]string{
		"":                     "",
		"abc":                  "abc",
		"\x01\x7E\x7D":         "\x01\x7D\x5E\x7D\x5D",
		"\x7E":                 "\x7D\x5E",
		"\x7D":                 "\x7D\x5D",
		"\x7E\x7E":             "\x7D\x5E\x7D\x5E",
		"\x7D\x5E":             "\x7D\x5D\x5E",
		"\x7D\x5D":             "\x7D\x5D\x5D",
		"\x5D\x5E":             "\x5D\x5E",
		"\x00\x7C\x7F\xFD\xFE": "\x00\x7C\x7F\xFD\xFE",
		"a\x7Eb\x7Dc":          "a\x7D\x5Eb\x7D\x5Dc",
	} {
		if got := Stuff([]byte(plain)); string(got) != want {
			t.Errorf("Stuff(% x): % x; want % x", plain, got, want)
		}
		if got, err := Unstuff([]byte(want)); string(got) != plain || err != api.OK {
			t.Errorf("Unstuff(% x): % x, %v; want % x", want, got, err, plain)
		}
	}
}

func TestNothingStaysNothing(t *testing.T) {
	for _, b := range [][]byte{nil, {}} {
		if got := Stuff(b); len(got) != 0 {
			t.Errorf("% x", got)
		}
		if got, err := Unstuff(b); len(got) != 0 || err != api.OK {
			t.Errorf("% x, %v", got, err)
		}
	}
}

func TestUnstuffWrong(t *testing.T) {
	for b, want := range map[string]api.Errno{
		"\x7D":             api.ErrShort,
		"abc\x7D":          api.ErrShort,
		"\x7D\x5E\x7D":     api.ErrShort,
		"\x7D\x5D\x7D":     api.ErrShort,
		"\x7E":             api.ErrForm,
		"\x7Eabc":          api.ErrForm,
		"abc\x7E":          api.ErrForm,
		"\x7D\x7E":         api.ErrForm,
		"\x7D\x7D":         api.ErrForm,
		"\x7D\x7D\x5E":     api.ErrForm,
		"\x7D\x20":         api.ErrForm,
		"\x7D\x5C":         api.ErrForm,
		"\x7D\x5F":         api.ErrForm,
		"\x7D\x5E\x7E":     api.ErrForm,
		"a\x7D\x5Eb\x7Dc":  api.ErrForm,
		"a\x7Eb\x7D":       api.ErrForm,
		"\x7D\x00\x7D":     api.ErrForm,
		"\x7D\x5D\x7D\x7D": api.ErrForm,
	} {
		if got, err := Unstuff([]byte(b)); len(got) != 0 || err != want {
			t.Errorf("Unstuff(% x): % x, %v; want %v", b, got, err, want)
		}
	}
}

func TestAllPairsOfBytes(t *testing.T) {
	for n := range 256 {
		wantStuffed(t, []byte{byte(n)})
		wantUnstuffed(t, []byte{byte(n)})
	}
	for n := range 1 << 16 {
		b := []byte{byte(n >> 8), byte(n)}
		wantStuffed(t, b)
		wantUnstuffed(t, b)
	}
}

func TestAllShortRows(t *testing.T) {
	// All that a byte may be to Stuff and to Unstuff; 5C stands for the others.
	for size := range 7 {
		for _, row := range rows(size, []byte{0x5C, 0x5D, 0x5E, 0x7D, 0x7E}) {
			wantStuffed(t, row)
			wantUnstuffed(t, row)
		}
	}
}

func TestLongRows(t *testing.T) {
	all := make([]byte, 256)
	for i := range all {
		all[i] = byte(i)
	}
	for _, unit := range [][]byte{all, {0x7E}, {0x7D}, {0x7D, 0x5E}, {0x5E}, {0}, {1, 0x7E, 0x7D}} {
		long := bytes.Repeat(unit, 5000)
		wantStuffed(t, long)
		wantUnstuffed(t, long)
		long = replaced(long)
		wantUnstuffed(t, append(bytes.Clone(long), 0x7D))
		wantUnstuffed(t, append(bytes.Clone(long), 0x7E))
		wantUnstuffed(t, append(bytes.Clone(long), 0x7D, 0x5D))
	}
	if got := Stuff(bytes.Repeat([]byte{0x7E}, 31)); len(got) != 62 {
		t.Errorf("31 that are all stuffed: %d", len(got))
	}
}

func TestArgumentsAreLeft(t *testing.T) {
	const row = "a\x7D\x5Eb\x7D\x5D\x7E..."
	b := []byte(row)
	for range 2 {
		if got := Stuff(b[:7]); string(got) != "a\x7D\x5D\x5Eb\x7D\x5D\x5D\x7D\x5E" {
			t.Errorf("Stuff % x", got)
		}
		if got, err := Unstuff(b[:6]); string(got) != "a\x7Eb\x7D" || err != api.OK {
			t.Errorf("Unstuff % x, %v", got, err)
		}
		if got, err := Unstuff(b[:7]); len(got) != 0 || err != api.ErrForm {
			t.Errorf("Unstuff % x, %v", got, err)
		}
	}
	if string(b) != row {
		t.Errorf("the argument is % x", b)
	}
}

func TestAnswersShareNothing(t *testing.T) {
	// With nothing to replace, what is handed in could be handed on.
	for _, text := range []string{"abcd", "a\x7D\x5Ed"} {
		b := []byte(text)
		stuffedOnce, stuffedTwice := Stuff(b), Stuff(b)
		plain, err := Unstuff(b)
		again, errAgain := Unstuff(b)
		if err != api.OK || errAgain != api.OK {
			t.Fatal(err, errAgain)
		}
		clear(stuffedOnce[:cap(stuffedOnce)])
		clear(plain[:cap(plain)])
		if string(b) != text {
			t.Errorf("the argument is % x", b)
		}
		clear(b)
		if want := replaced([]byte(text)); !bytes.Equal(stuffedTwice, want) {
			t.Errorf("Stuff is % x; want % x", stuffedTwice, want)
		}
		if got := replaced(again); string(got) != text {
			t.Errorf("Unstuff is % x", again)
		}
	}
}

func TestStuffedMayBeLeftEarly(t *testing.T) {
	b := []byte{1, 0x7E, 0x7D}
	want := replaced(b)
	for most := range len(want) {
		var got []byte
		for c := range stuffed(b) {
			got = append(got, c)
			if len(got) > most {
				break
			}
		}
		if !bytes.Equal(got, want[:most+1]) {
			t.Errorf("the first %d: % x", most+1, got)
		}
	}
}
