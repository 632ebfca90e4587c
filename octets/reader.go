package octets

import "lamplight/api"

// Reader takes bytes from the left (A1).
type Reader struct {
	left []byte
}

// Read makes a reader of its own copy, so that b may be written over (A1).
func Read(b []byte) *Reader {
	return &Reader{left: Join(b)}
}

// U8 takes a number of one byte (A1).
func (r *Reader) U8() (uint8, api.Errno) {
	n, err := r.number(1)
	return uint8(n), err
}

// U16 takes a number of two bytes (A1).
func (r *Reader) U16() (uint16, api.Errno) {
	n, err := r.number(2)
	return uint16(n), err
}

// U32 takes a number of four bytes (A1).
func (r *Reader) U32() (uint32, api.Errno) {
	return r.number(4)
}

func (r *Reader) number(size int) (uint32, api.Errno) {
	taken, err := r.Bytes(size)
	var n uint32
	for _, b := range taken {
		n = n<<8 | uint32(b)
	}
	return n, err
}

// Bytes takes the next n; with an error nothing is taken (A1).
func (r *Reader) Bytes(n int) ([]byte, api.Errno) {
	if n < 0 {
		return nil, api.ErrArg
	}
	if n > len(r.left) {
		return nil, api.ErrShort
	}
	taken := Join(r.left[:n])
	r.left = r.left[n:]
	return taken, api.OK
}

// Rest takes all that are left (A1).
func (r *Reader) Rest() []byte {
	taken := Join(r.left)
	r.left = nil
	return taken
}

// Left is how many are left (A1).
func (r *Reader) Left() int {
	return len(r.left)
}

// Done is ErrForm if any are left (A1).
func (r *Reader) Done() api.Errno {
	if len(r.left) > 0 {
		return api.ErrForm
	}
	return api.OK
}
