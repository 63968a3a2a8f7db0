// Package float is layer 1: float64s as keys, which stand byte by byte in the order of their numbers.
package float

import "math"

const (
	keySize = 8
	signBit = uint64(1) << 63
	nanBits = uint64(0x7ff8000000000000)
)

// Key tells the eight bytes that stand for f. Numbers that are one have one key.
func Key(f float64) string {
	turned := turn(plainBits(f))
	var key [keySize]byte
	for i := keySize - 1; i >= 0; i-- {
		key[i] = byte(turned)
		turned >>= 8
	}
	return string(key[:])
}

// Value tells the number whose key k is, or false if k is no number's key.
func Value(k string) (float64, bool) {
	if len(k) != keySize {
		return 0, false
	}
	var turned uint64
	for i := range keySize {
		turned = turned<<8 | uint64(k[i])
	}
	f := math.Float64frombits(turnBack(turned))
	// The negative nought and all NaNs but one have another key than the one that their own bits would make.
	if Key(f) != k {
		return 0, false
	}
	return f, true
}

// Less tells whether a stands ahead of b; NaN stands behind all others.
func Less(a, b float64) bool {
	if math.IsNaN(a) {
		return false
	}
	// A comparison with NaN is always false, so NaN is asked for by itself.
	return math.IsNaN(b) || a < b
}

// Same tells whether a and b are one number: all NaNs are one, and so are both noughts.
func Same(a, b float64) bool {
	if math.IsNaN(a) {
		return math.IsNaN(b)
	}
	return a == b
}

// plainBits tells the bits of f with one choice for each number that has several.
func plainBits(f float64) uint64 {
	if math.IsNaN(f) {
		return nanBits
	}
	bits := math.Float64bits(f)
	if bits == signBit {
		return 0
	}
	return bits
}

// turn lays bits so that they rise as their numbers do: of those below nought the sign's bit is the higher one, and the others fall as the number rises.
func turn(bits uint64) uint64 {
	if bits&signBit == 0 {
		return bits ^ signBit
	}
	return ^bits
}

func turnBack(turned uint64) uint64 {
	if turned&signBit != 0 {
		return turned ^ signBit
	}
	return ^turned
}
