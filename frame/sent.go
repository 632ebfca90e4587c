package frame

import (
	"lamplight/api"
	"lamplight/octets"
)

// sent is a frame, and beside it the bytes that are sent and are no field of
// it: what came may tell others than the frame has.
type sent struct {
	api.Frame
	turns uint8 // Seq and two times Ack together
	count uint8 // how many bytes B has
}

// toSend is for right frames alone: turns and count of others may not fit.
func toSend(f api.Frame) sent {
	return sent{Frame: f, turns: f.Seq + 2*f.Ack, count: uint8(len(f.B))}
}

// bytes are the inner bytes ahead of the sum.
func (s sent) bytes() []byte {
	var w octets.Writer
	return w.U8(s.Addr).U8(s.Kind).U8(s.Session).U8(s.turns).U8(s.count).Bytes(s.B).Done()
}

// fromBytes is what was sent, right or not; b has at least a whole head, so
// that its numbers can't be short.
func fromBytes(b []byte) sent {
	var s sent
	r := octets.Read(b)
	s.Addr, _ = r.U8()
	s.Kind, _ = r.U8()
	s.Session, _ = r.U8()
	s.turns, _ = r.U8()
	s.count, _ = r.U8()
	// All higher bits go to Ack, so that it is not right if one is set.
	s.Seq, s.Ack = s.turns&1, s.turns>>1
	s.B = r.Rest()
	return s
}

// agrees is whether bytes are those of a right frame.
func (s sent) agrees() bool {
	return Right(s.Frame) == api.OK && int(s.count) == len(s.B)
}
