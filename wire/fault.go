package wire

import "bytes"

// What becomes of bytes.
const (
	Pass = iota
	Drop
	Twice
	Hold
	Edit
	Cut
	Noise
)

// mostNoise is how many bytes of noise a fault makes at most.
const mostNoise = 64

// mostHeld is how often a fault has a row held at most.
const mostHeld = 16

// Fault is what becomes of bytes.
type Fault struct {
	Kind, N int
	By      byte
	B       []byte
}

// Of is what becomes of these bytes, as rows, one behind the other (F1).
func (f Fault) Of(b []byte) [][]byte {
	switch f.Kind {
	case Drop:
		return nil
	case Twice:
		return copies(b, b)
	case Edit:
		return f.edited(b)
	case Cut:
		return copies(start(b, f.N))
	case Noise:
		return copies(start(f.B, mostNoise), b)
	default:
		// Hold too: that it is late is the wire's to see to.
		return copies(b)
	}
}

// edited turns bits in the copy, since the bytes are not ours.
func (f Fault) edited(b []byte) [][]byte {
	rows := copies(b)
	if len(b) > 0 {
		rows[0][max(f.N, 0)%len(b)] ^= f.By
	}
	return rows
}

// times is how often a row is held that this fault makes; one that holds
// makes a single row, so there is no other that would have to go free.
func (f Fault) times() int {
	if f.Kind != Hold {
		return 0
	}
	return min(max(f.N, 0), mostHeld)
}

func start(b []byte, n int) []byte {
	return b[:min(max(n, 0), len(b))]
}

// copies share nothing with the rows that they are of, nor with each other.
func copies(rows ...[]byte) [][]byte {
	out := make([][]byte, len(rows))
	for i, row := range rows {
		out[i] = bytes.Clone(row)
	}
	return out
}
