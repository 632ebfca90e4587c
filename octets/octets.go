// Package octets is layer 1: numbers as bytes, the highest byte first
// (shared/doc/01-octets.md).
package octets

// Join is all parts, one behind the other, in memory of its own (A2).
func Join(parts ...[]byte) []byte {
	size := 0
	for _, part := range parts {
		size += len(part)
	}
	joined := make([]byte, size)
	at := 0
	for _, part := range parts {
		at += copy(joined[at:], part)
	}
	return joined
}
