package octets

// Writer puts bytes one behind the other; a zero one has written nothing (A2).
type Writer struct {
	row
}

// row is what a writer writes into. It is not exported, so that nobody else
// reaches the bytes.
type row struct {
	written []byte
}

func (r *row) put(b ...byte) {
	r.written = append(r.written, b...)
}

// U8 writes a number of one byte (A2).
func (w *Writer) U8(n uint8) *Writer {
	w.put(n)
	return w
}

// U16 writes a number of two bytes (A2).
func (w *Writer) U16(n uint16) *Writer {
	w.put(byte(n>>8), byte(n))
	return w
}

// U32 writes a number of four bytes (A2).
func (w *Writer) U32(n uint32) *Writer {
	w.put(byte(n>>24), byte(n>>16), byte(n>>8), byte(n))
	return w
}

// Bytes writes all parts in order (A2).
func (w *Writer) Bytes(parts ...[]byte) *Writer {
	for _, part := range parts {
		w.put(part...)
	}
	return w
}

// Done is a copy of all that was written; the writer may go on (A2).
func (w *Writer) Done() []byte {
	return Join(w.written)
}
