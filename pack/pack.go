// Package pack is layer 1: it encodes numbers, flags and strings as bytes, and decodes bytes that may come from anywhere (doc/01-pack.md).
package pack

// A varint has groups of seven bits; nine of them and one bit more make up the 64 bits of a number.
const (
	groupBits = 7
	groupMask = 1<<groupBits - 1
	moreBit   = 1 << groupBits
	maxGroups = 10
	maxLast   = 1
)

// Zig returns the zigzag encoding of a number.
func Zig(n int64) uint64 { return uint64(n)<<1 ^ uint64(n>>63) }

// Zag decodes a zigzag encoding.
func Zag(v uint64) int64 { return int64(v>>1) ^ -int64(v&1) }

// Var returns a varint.
func Var(v uint64) []byte { return appendVar(nil, v) }

func appendVar(b []byte, v uint64) []byte {
	for range maxGroups {
		if v < moreBit {
			break
		}
		b = append(b, byte(v&groupMask|moreBit))
		v >>= groupBits
	}
	return append(b, byte(v))
}
