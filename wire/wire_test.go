package wire

import (
	"math"
	"math/rand"
	"slices"
	"strconv"
	"testing"

	"lamplight/api"
)

func wantPut(t *testing.T, w *Wire, text string, f Fault, want api.Errno) {
	t.Helper()
	before := w.Len()
	if err := w.Put([]byte(text), f); err != want {
		t.Fatalf("Put(%q, %v): %v; want %v", text, f, err, want)
	}
	if want != api.OK && w.Len() != before {
		t.Fatalf("Put(%q, %v): refused, and Len is %d, not %d", text, f, w.Len(), before)
	}
}

func wantTake(t *testing.T, w *Wire, left int, want ...string) {
	t.Helper()
	wantRows(t, "Take", w.Take(), want...)
	wantLen(t, w, left)
}

func wantLen(t *testing.T, w *Wire, want int) {
	t.Helper()
	if n := w.Len(); n != want {
		t.Fatalf("Len %d; want %d", n, want)
	}
}

func held(n int) Fault {
	return Fault{Kind: Hold, N: n}
}

func TestNewWireHasNothing(t *testing.T) {
	w := New(4)
	for range 3 {
		wantTake(t, w, 0)
	}
}

func TestHeldExample(t *testing.T) {
	w := New(8)
	wantPut(t, w, "x", held(2), api.OK)
	wantPut(t, w, "y", Fault{}, api.OK)
	wantTake(t, w, 2)
	wantTake(t, w, 2)
	wantTake(t, w, 0, "x", "y")
	wantTake(t, w, 0)
}

func TestHowOftenARowIsHeld(t *testing.T) {
	for n, want := range map[int]int{
		math.MinInt: 0, -1: 0, 0: 0, 1: 1, 2: 2, 15: 15, 16: 16, 17: 16, 1000: 16, math.MaxInt: 16,
	} {
		w := New(2)
		wantPut(t, w, "x", held(n), api.OK)
		for range want {
			wantTake(t, w, 1)
		}
		wantTake(t, w, 0, "x")
	}
}

func TestOnlyHoldHolds(t *testing.T) {
	for kind := -1; kind < 9; kind++ {
		f := Fault{Kind: kind, N: 3, By: 1, B: []byte("noise")}
		if kind == Hold {
			continue
		}
		w := New(4)
		wantPut(t, w, "abc", f, api.OK)
		want := texts(f.Of([]byte("abc")))
		wantLen(t, w, len(want))
		wantTake(t, w, 0, want...)
	}
}

func TestRowsBehindAHeldOneWait(t *testing.T) {
	w := New(9)
	wantPut(t, w, "a", Fault{}, api.OK)
	wantPut(t, w, "b", Fault{Kind: Twice}, api.OK)
	wantPut(t, w, "c", held(1), api.OK)
	wantPut(t, w, "d", Fault{Kind: Noise, B: []byte("n")}, api.OK)
	wantPut(t, w, "e", held(2), api.OK)
	wantPut(t, w, "f", held(1), api.OK)
	wantTake(t, w, 5, "a", "b", "b")
	wantTake(t, w, 5)
	wantPut(t, w, "g", Fault{}, api.OK)
	wantTake(t, w, 3, "c", "n", "d")
	// A row is held once less only when it is the first.
	wantTake(t, w, 3)
	wantTake(t, w, 3)
	wantTake(t, w, 2, "e")
	wantTake(t, w, 2)
	wantTake(t, w, 0, "f", "g")
}

func TestRoom(t *testing.T) {
	for room, most := range map[int]int{math.MinInt: 1, -1: 1, 0: 1, 1: 1, 2: 2, 3: 3, 64: 64} {
		w := New(room)
		for i := range most {
			wantLen(t, w, i)
			wantPut(t, w, "x", Fault{}, api.OK)
		}
		for kind := -1; kind < 9; kind++ {
			want := api.ErrFull
			if kind == Drop {
				want = api.OK
			}
			wantPut(t, w, "y", Fault{Kind: kind, N: 1}, want)
		}
		wantTake(t, w, 0, slices.Repeat([]string{"x"}, most)...)
		wantPut(t, w, "z", Fault{}, api.OK)
		wantTake(t, w, 0, "z")
	}
	w := New(math.MaxInt)
	wantPut(t, w, "x", Fault{Kind: Twice}, api.OK)
	wantPut(t, w, "y", Fault{Kind: Twice}, api.OK)
	wantTake(t, w, 0, "x", "x", "y", "y")
}

func TestTwoRowsNeedRoomForTwo(t *testing.T) {
	for _, f := range []Fault{{Kind: Twice}, {Kind: Noise, B: []byte("n")}, {Kind: Noise}} {
		wantPut(t, New(1), "x", f, api.ErrFull)
		w := New(3)
		wantPut(t, w, "x", f, api.OK)
		wantPut(t, w, "y", f, api.ErrFull)
		wantPut(t, w, "z", held(1), api.OK)
		wantPut(t, w, "z", f, api.ErrFull)
		wantTake(t, w, 1, texts(f.Of([]byte("x")))...)
		wantTake(t, w, 1)
		wantTake(t, w, 0, "z")
	}
}

func TestHeldRowsTakeRoom(t *testing.T) {
	w := New(1)
	wantPut(t, w, "x", held(1), api.OK)
	wantTake(t, w, 1)
	wantPut(t, w, "y", Fault{}, api.ErrFull)
	wantTake(t, w, 0, "x")
	wantPut(t, w, "y", Fault{}, api.OK)
}

func TestRowsWithoutBytesGoTheirWay(t *testing.T) {
	w := New(4)
	wantPut(t, w, "", Fault{}, api.OK)
	wantPut(t, w, "abc", Fault{Kind: Cut}, api.OK)
	wantPut(t, w, "", held(1), api.OK)
	if err := w.Put(nil, Fault{Kind: Edit, By: 1}); err != api.OK {
		t.Fatal(err)
	}
	wantLen(t, w, 4)
	wantPut(t, w, "", Fault{}, api.ErrFull)
	wantTake(t, w, 2, "", "")
	wantTake(t, w, 2)
	wantTake(t, w, 0, "", "")
}

func TestWhatIsPutIsLeftAndNotKept(t *testing.T) {
	for _, f := range someFaults() {
		b := []byte("abc and behind")
		want := texts(f.Of(b[:3]))
		w := New(4)
		if err := w.Put(b[:3], f); err != api.OK {
			t.Fatal(err)
		}
		if string(b) != "abc and behind" || string(f.B) != "noise" {
			t.Fatalf("%v: the arguments are %q and %q", f, b, f.B)
		}
		clear(b)
		clear(f.B)
		var got []string
		for range 20 {
			got = append(got, texts(w.Take())...)
		}
		if !slices.Equal(got, want) {
			t.Fatalf("%v: %q; want %q", f, got, want)
		}
	}
}

func TestWhatWasTakenIsTheCallersOwn(t *testing.T) {
	w := New(8)
	wantPut(t, w, "x", Fault{Kind: Twice}, api.OK)
	wantPut(t, w, "y", held(1), api.OK)
	wantPut(t, w, "z", Fault{}, api.OK)
	first := w.Take()
	first = append(first, []byte("spare"))
	first[0][0] = '#'
	wantRows(t, "taken", first, "#", "x", "spare")
	wantTake(t, w, 2)
	second := w.Take()
	wantRows(t, "taken", second, "y", "z")
	clear(second[:cap(second)])
	for range 8 {
		wantPut(t, w, "new", Fault{}, api.OK)
	}
	wantRows(t, "taken", first, "#", "x", "spare")
	wantTake(t, w, 0, slices.Repeat([]string{"new"}, 8)...)
}

func TestWiresHaveNothingToDoWithEachOther(t *testing.T) {
	one, other := New(2), New(2)
	wantPut(t, one, "x", held(1), api.OK)
	wantTake(t, other, 0)
	wantPut(t, other, "y", Fault{Kind: Twice}, api.OK)
	wantLen(t, one, 1)
	wantTake(t, one, 1)
	wantTake(t, other, 0, "y", "y")
	wantTake(t, one, 0, "x")
}

// slowWire is a wire by the words alone: each row is told with its holds.
type slowWire struct {
	room int
	rows []string
	held []int
}

func (s *slowWire) put(b []byte, f Fault) api.Errno {
	more := texts(f.Of(b))
	if len(s.rows)+len(more) > s.room {
		return api.ErrFull
	}
	for i, text := range more {
		n := 0
		if f.Kind == Hold && i == 0 && f.N > 0 {
			n = min(f.N, 16)
		}
		s.rows, s.held = append(s.rows, text), append(s.held, n)
	}
	return api.OK
}

func (s *slowWire) take() []string {
	var out []string
	if len(s.rows) > 0 && s.held[0] > 0 {
		s.held[0]--
		return nil
	}
	for len(s.rows) > 0 && s.held[0] == 0 {
		out = append(out, s.rows[0])
		s.rows, s.held = s.rows[1:], s.held[1:]
	}
	return out
}

func TestLongRuns(t *testing.T) {
	r := rand.New(rand.NewSource(6))
	for range 2000 {
		room := r.Intn(12) - 1
		w, s := New(room), &slowWire{room: max(room, 1)}
		for step := range 100 {
			if r.Intn(3) == 0 {
				wantRows(t, step, w.Take(), s.take()...)
			} else {
				b := []byte("row " + strconv.Itoa(step))
				f := Fault{Kind: r.Intn(10) - 1, N: r.Intn(24) - 3, By: byte(r.Intn(256)), B: []byte("noise")}
				if got, want := w.Put(b, f), s.put(b, f); got != want {
					t.Fatalf("step %d: Put(%q, %v): %v; want %v", step, b, f, got, want)
				}
			}
			wantLen(t, w, len(s.rows))
		}
	}
}

// TestFirstInFirstOut: whatever is held, rows come out in the order in which they went in, each once.
func TestFirstInFirstOut(t *testing.T) {
	r := rand.New(rand.NewSource(7))
	w := New(16)
	var in, out []string
	for step := range 20000 {
		text := strconv.Itoa(step)
		if w.Put([]byte(text), held(r.Intn(4)*r.Intn(2))) == api.OK {
			in = append(in, text)
		}
		out = append(out, texts(w.Take())...)
	}
	for w.Len() > 0 {
		out = append(out, texts(w.Take())...)
	}
	if !slices.Equal(in, out) || len(in) < 1000 {
		t.Fatalf("%d rows went in, %d came out", len(in), len(out))
	}
}

func TestManyRows(t *testing.T) {
	const many = 300000
	w := New(many)
	for i := range many {
		wantPut(t, w, "x", held(i%2), api.OK)
	}
	wantPut(t, w, "x", Fault{}, api.ErrFull)
	n := 0
	for w.Len() > 0 {
		n += len(w.Take())
	}
	if n != many {
		t.Errorf("%d rows came out", n)
	}
}
