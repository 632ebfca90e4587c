package resync

import (
	"bytes"
	"math/rand"
	"slices"
	"testing"

	"lamplight/api"
	"lamplight/frame"
)

func encoded(t *testing.T, f api.Frame) []byte {
	t.Helper()
	b, err := frame.Encode(f)
	if err != api.OK {
		t.Fatalf("Encode(%v): %v", f, err)
	}
	return b
}

func same(a, b api.Frame) bool {
	return a.Addr == b.Addr && a.Kind == b.Kind && a.Session == b.Session && a.Seq == b.Seq && a.Ack == b.Ack && bytes.Equal(a.B, b.B)
}

func someFrames() []api.Frame {
	return []api.Frame{
		{Addr: 1, Kind: api.Poll, Session: 2},
		{Addr: 31, Kind: api.Reply, Session: 255, Seq: 1, B: []byte("hello")},
		{Addr: 7, Kind: api.Open, Ack: 1},
		{Addr: 30, Kind: api.Data, Session: 0x7E, Seq: 1, Ack: 1, B: []byte("\x7E\x7D\x7E")},
		{Addr: 2, Kind: api.Opened, Session: 0x7D, B: bytes.Repeat([]byte{0x7E}, 24)},
	}
}

// stream is what a decoder must have told of bytes, worked out from all of
// them at once.
type stream struct {
	frames []api.Frame
	errors [12]int
	held   int
}

func wantedOf(all []byte) stream {
	var s stream
	pieces := bytes.Split(all, []byte{0x7E})
	for i, piece := range pieces {
		switch last := i == len(pieces)-1; {
		case len(piece) > 62:
			s.errors[api.ErrRange]++
		case last:
			s.held = len(piece)
		case len(piece) > 0:
			if f, err := frame.Decode(piece); err == api.OK {
				s.frames = append(s.frames, f)
			} else {
				s.errors[err]++
			}
		}
	}
	return s
}

// fed is what a new decoder tells of portions, one behind the other.
func fed(portions ...[]byte) stream {
	var d Decoder
	var s stream
	for _, portion := range portions {
		s.frames = append(s.frames, d.Feed(portion...)...)
	}
	s.errors, s.held = d.Errors(), d.Held()
	return s
}

func wantSame(t *testing.T, what string, got, want stream) {
	t.Helper()
	if !slices.EqualFunc(got.frames, want.frames, same) || got.errors != want.errors || got.held != want.held {
		t.Fatalf("%s: %v; want %v", what, got, want)
	}
}

// wantState holds what a decoder tells of itself against counts by errors.
func wantState(t *testing.T, d *Decoder, held int, counts map[api.Errno]int) {
	t.Helper()
	var want [12]int
	for err, n := range counts {
		want[err] = n
	}
	if d.Held() != held || d.Errors() != want {
		t.Fatalf("Held %d, Errors %v; want %d, %v", d.Held(), d.Errors(), held, want)
	}
}

func wantTold(t *testing.T, got []api.Frame, want ...api.Frame) {
	t.Helper()
	if !slices.EqualFunc(got, want, same) {
		t.Fatalf("told %v; want %v", got, want)
	}
}

func TestZeroDecoderHoldsNothing(t *testing.T) {
	var d Decoder
	wantState(t, &d, 0, nil)
	wantTold(t, d.Feed())
	wantTold(t, d.Feed(nil...))
	wantTold(t, d.Feed([]byte{}...))
	wantState(t, &d, 0, nil)
}

func TestTwoFramesThatShareAFlag(t *testing.T) {
	var d Decoder
	told := d.Feed([]byte("\x7E\x01\x03\x02\x00\x00\x4E\xE1\x7E\x1F\x05\xFF\x01\x05hello\xF8\x9F\x7E")...)
	wantTold(t, told, someFrames()[:2]...)
	wantState(t, &d, 0, nil)
}

func TestFirstFrameNeedsNoFlagAhead(t *testing.T) {
	var d Decoder
	for _, f := range someFrames() {
		wantTold(t, d.Feed(encoded(t, f)[1:]...), f)
	}
	wantState(t, &d, 0, nil)
}

func TestFlagsAlone(t *testing.T) {
	var d Decoder
	f := someFrames()[0]
	wantTold(t, d.Feed(bytes.Repeat([]byte{0x7E}, 1000)...))
	wantTold(t, d.Feed(encoded(t, f)...), f)
	wantTold(t, d.Feed(0x7E, 0x7E, 0x7E))
	wantTold(t, d.Feed(encoded(t, f)...), f)
	wantState(t, &d, 0, nil)
}

func TestFrameIsToldWithItsLastByte(t *testing.T) {
	var d Decoder
	for _, f := range someFrames() {
		b := encoded(t, f)
		for i, c := range b[:len(b)-1] {
			wantTold(t, d.Feed(c))
			wantState(t, &d, i, nil)
		}
		wantTold(t, d.Feed(0x7E), f)
		wantState(t, &d, 0, nil)
	}
}

func TestErrorsAreCountedByTheirNumber(t *testing.T) {
	for text, err := range map[string]api.Errno{
		"a":                            api.ErrShort,
		"\x7D":                         api.ErrShort,
		"abcdefg\x7D":                  api.ErrShort,
		"\x01\x03\x02\x00\x00\x4E":     api.ErrShort,
		"\x7Da":                        api.ErrForm,
		"\x7D\x7D":                     api.ErrForm,
		"\x00\x03\x02\x00\x00\xE4\xB0": api.ErrForm, // its sum holds, but there is no address 0
		"\x01\x03\x02\x00\x00\x4E\xE0": api.ErrSum,
		"1234567":                      api.ErrSum,
		string(make([]byte, 62)):       api.ErrSum,
		string(make([]byte, 63)):       api.ErrRange,
	} {
		var d Decoder
		for n := range 5 {
			wantTold(t, d.Feed([]byte(text)...))
			wantTold(t, d.Feed(0x7E))
			wantState(t, &d, 0, map[api.Errno]int{err: n + 1})
			wantTold(t, d.Feed(encoded(t, someFrames()[0])...), someFrames()[0])
			wantState(t, &d, 0, map[api.Errno]int{err: n + 1})
		}
	}
}

func TestNothingIsCountedAheadOfTheFlag(t *testing.T) {
	var d Decoder
	wantTold(t, d.Feed([]byte("\x7D\x7D\x7D\x00")...))
	wantState(t, &d, 4, nil)
	wantTold(t, d.Feed(0x7E))
	wantState(t, &d, 0, map[api.Errno]int{api.ErrForm: 1})
}

func TestErrorsOfAllKindsAddUp(t *testing.T) {
	var d Decoder
	f := someFrames()[1]
	b := slices.Concat([]byte("a\x7Eb\x7E\x7Dc\x7E1234567\x7E"), encoded(t, f), make([]byte, 70), encoded(t, f), []byte("d\x7E\x7Dc"))
	wantTold(t, d.Feed(b...), f, f)
	wantState(t, &d, 2, map[api.Errno]int{api.ErrShort: 3, api.ErrForm: 1, api.ErrSum: 1, api.ErrRange: 1})
}

func TestOverflow(t *testing.T) {
	for _, ahead := range [][]byte{nil, {0x7E}, encoded(t, someFrames()[0])} {
		var d Decoder
		d.Feed(ahead...)
		for n := range 62 {
			wantState(t, &d, n, nil)
			wantTold(t, d.Feed('x'))
		}
		wantState(t, &d, 62, nil)
		for range 300 {
			wantTold(t, d.Feed('x'))
			wantState(t, &d, 0, map[api.Errno]int{api.ErrRange: 1})
		}
		// What is not taken is no frame, even if it has the bytes of one.
		inside := encoded(t, someFrames()[0])[1:]
		wantTold(t, d.Feed(inside...))
		wantState(t, &d, 0, map[api.Errno]int{api.ErrRange: 1})
		wantTold(t, d.Feed(inside...), someFrames()[0])
		wantTold(t, d.Feed(make([]byte, 62)...))
		wantState(t, &d, 62, map[api.Errno]int{api.ErrRange: 1})
		wantTold(t, d.Feed('x'))
		wantState(t, &d, 0, map[api.Errno]int{api.ErrRange: 2})
	}
}

func TestWhateverSizeIsAhead(t *testing.T) {
	f := someFrames()[1]
	for size := range 300 {
		for _, c := range []byte{0x00, 0x5E, 0x7D, 0xFF} {
			b := append(bytes.Repeat([]byte{c}, size), encoded(t, f)...)
			var d Decoder
			wantTold(t, d.Feed(b...), f)
			counts := map[api.Errno]int{}
			switch {
			case size > 62:
				counts[api.ErrRange] = 1
			case c == 0x7D && size > 1:
				counts[api.ErrForm] = 1
			case size > 6:
				counts[api.ErrSum] = 1
			case size > 0:
				counts[api.ErrShort] = 1
			}
			wantState(t, &d, 0, counts)
		}
	}
}

func TestAllPortions(t *testing.T) {
	var all []byte
	for _, f := range someFrames() {
		all = append(all, encoded(t, f)...)
		all = append(all, "noise\x7D"...)
	}
	all = append(append(all, make([]byte, 80)...), encoded(t, someFrames()[0])...)
	all = append(all, "rest"...)
	want := wantedOf(all)
	if len(want.frames) != 6 || want.held != 4 {
		t.Fatalf("the wanted answer is %v", want)
	}
	for i := range len(all) + 1 {
		for j := i; j <= len(all); j++ {
			wantSame(t, "three portions", fed(all[:i], all[i:j], all[j:]), want)
		}
	}
	for size := 1; size < 70; size++ {
		wantSame(t, "equal portions", fed(slices.Collect(slices.Chunk(all, size))...), want)
	}
}

func TestAllShortRows(t *testing.T) {
	const size = 7
	of := []byte{0x7E, 0x7D, 0x5E, 0x01}
	row := make([]byte, size)
	for n := range 1 << (2 * size) {
		for i := range row {
			row[i] = of[n>>(2*i)&3]
		}
		wantSame(t, "short", fed(row), wantedOf(row))
	}
}

// spoiltStream is frames and noise by turns, of which some bytes are turned.
func spoiltStream(t *testing.T, r *rand.Rand) []byte {
	var all []byte
	for range 20 {
		noise := make([]byte, r.Intn(90)*r.Intn(2))
		r.Read(noise)
		f := someFrames()[r.Intn(5)]
		f.Session = byte(r.Intn(256))
		all = slices.Concat(all, noise, encoded(t, f)[r.Intn(2):])
	}
	for range r.Intn(8) {
		all[r.Intn(len(all))] ^= byte(1 << r.Intn(8))
	}
	return all
}

func TestSpoiltStreams(t *testing.T) {
	r := rand.New(rand.NewSource(5))
	for range 3000 {
		all := spoiltStream(t, r)
		var portions [][]byte
		for left := all; len(left) > 0; {
			n := min(1+r.Intn(100), len(left))
			portions, left = append(portions, left[:n]), left[n:]
		}
		wantSame(t, "spoilt", fed(portions...), wantedOf(all))
	}
}

func TestManyBytes(t *testing.T) {
	f := someFrames()[3]
	b := bytes.Repeat(encoded(t, f), 50000)
	b = append(append(b, make([]byte, 500000)...), encoded(t, f)...)
	var d Decoder
	if n := len(d.Feed(b...)); n != 50001 {
		t.Errorf("%d frames", n)
	}
	wantState(t, &d, 0, map[api.Errno]int{api.ErrRange: 1})
}
