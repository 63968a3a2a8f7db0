package float_test

import (
	"encoding/binary"
	"math"
	"slices"
	"testing"

	"umbel/float"
)

const sign = uint64(1) << 63

var minusNought = math.Copysign(0, -1)

// nans has NaNs of both signs, quiet and signalling, with the least and the greatest bits.
func nans() []float64 {
	var l []float64
	for _, bits := range []uint64{0x7ff0000000000001, 0x7ff0000000000005, 0x7ff7ffffffffffff, 0x7ff8000000000000, 0x7ff8000000000001, 0x7ff80000deadbeef, 0x7fffffffffffffff} {
		l = append(l, math.Float64frombits(bits), math.Float64frombits(bits|sign))
	}
	return append(l, math.NaN())
}

// above has bits of numbers above nought, rising: of each exponent the least, some between, and the greatest, the infinity last.
func above() []uint64 {
	var l []uint64
	for exponent := range uint64(0x7ff) {
		for _, fraction := range []uint64{0, 1, 0xff, 0x100, 0x5555555555555, 0x8000000000000, 0xffffffffffffe, 0xfffffffffffff} {
			if exponent != 0 || fraction != 0 {
				l = append(l, exponent<<52|fraction)
			}
		}
	}
	return append(l, 0x7ff0000000000000)
}

// ladder has numbers as the order has them, no two of them one.
func ladder() []float64 {
	up := above()
	var l []float64
	for _, bits := range slices.Backward(up) {
		l = append(l, math.Float64frombits(bits|sign))
	}
	l = append(l, 0)
	for _, bits := range up {
		l = append(l, math.Float64frombits(bits))
	}
	return append(l, math.NaN())
}

// edges is a short ladder.
func edges() []float64 {
	return []float64{
		math.Inf(-1), -math.MaxFloat64, -1e10, -2, math.Nextafter(-1, -2), -1, math.Nextafter(-1, 0), -0x1p-1022, -0x0.fffffffffffffp-1022, -2 * math.SmallestNonzeroFloat64, -math.SmallestNonzeroFloat64,
		0,
		math.SmallestNonzeroFloat64, 2 * math.SmallestNonzeroFloat64, 0x0.fffffffffffffp-1022, 0x1p-1022, math.Nextafter(1, 0), 1, math.Nextafter(1, 2), 2, 1e10, math.MaxFloat64, math.Inf(1),
		math.NaN(),
	}
}

func checkKey(t *testing.T, f float64, want string) {
	t.Helper()
	if k := float.Key(f); k != want {
		t.Errorf("Key(%v, bits %016x) = %x, want %x", f, math.Float64bits(f), k, want)
	}
}

func checkNone(t *testing.T, k string) {
	t.Helper()
	if f, ok := float.Value(k); ok || math.Float64bits(f) != 0 {
		t.Errorf("Value(%x) = %v (bits %016x), %v, want 0, false", k, f, math.Float64bits(f), ok)
	}
}

// P1.1, Key.
func TestKeyOfOrdinaryNumbersAndEdges(t *testing.T) {
	for _, x := range []struct {
		f    float64
		want string
	}{
		{math.Inf(-1), "\x00\x0f\xff\xff\xff\xff\xff\xff"},
		{-math.MaxFloat64, "\x00\x10\x00\x00\x00\x00\x00\x00"},
		{-2.5, "\x3f\xfb\xff\xff\xff\xff\xff\xff"},
		{-1, "\x40\x0f\xff\xff\xff\xff\xff\xff"},
		{math.Float64frombits(0x8123456789abcdef), "\x7e\xdc\xba\x98\x76\x54\x32\x10"},
		{-math.SmallestNonzeroFloat64, "\x7f\xff\xff\xff\xff\xff\xff\xfe"},
		{minusNought, "\x80\x00\x00\x00\x00\x00\x00\x00"},
		{0, "\x80\x00\x00\x00\x00\x00\x00\x00"},
		{math.SmallestNonzeroFloat64, "\x80\x00\x00\x00\x00\x00\x00\x01"},
		{math.Float64frombits(0x0123456789abcdef), "\x81\x23\x45\x67\x89\xab\xcd\xef"},
		{1, "\xbf\xf0\x00\x00\x00\x00\x00\x00"},
		{2.5, "\xc0\x04\x00\x00\x00\x00\x00\x00"},
		{math.MaxFloat64, "\xff\xef\xff\xff\xff\xff\xff\xff"},
		{math.Inf(1), "\xff\xf0\x00\x00\x00\x00\x00\x00"},
	} {
		checkKey(t, x.f, x.want)
	}
}

// P1.1, Key: all NaNs have one.
func TestKeyOfNaNs(t *testing.T) {
	for _, f := range nans() {
		checkKey(t, f, "\xff\xf8\x00\x00\x00\x00\x00\x00")
	}
}

// P1.1, Value: the number, bit by bit.
func TestValueOfKeyIsTheNumber(t *testing.T) {
	for _, f := range ladder() {
		want := math.Float64bits(f)
		if math.IsNaN(f) {
			want = 0x7ff8000000000000
		}
		got, ok := float.Value(float.Key(f))
		if !ok || math.Float64bits(got) != want {
			t.Fatalf("Value(Key(%v)) = bits %016x, %v, want %016x", f, math.Float64bits(got), ok, want)
		}
	}
}

// P1.1, Value: of numbers with several bits, those that the chapter names.
func TestValueHasOneNoughtAndOneNaN(t *testing.T) {
	for _, f := range []float64{0, minusNought} {
		if got, ok := float.Value(float.Key(f)); !ok || math.Float64bits(got) != 0 {
			t.Errorf("nought: bits %016x, %v", math.Float64bits(got), ok)
		}
	}
	for _, f := range nans() {
		if got, ok := float.Value(float.Key(f)); !ok || math.Float64bits(got) != 0x7ff8000000000000 {
			t.Errorf("NaN: bits %016x, %v", math.Float64bits(got), ok)
		}
	}
}

// P1.1, Value: texts of other lengths than eight.
func TestValueOfOtherLengths(t *testing.T) {
	long := "\xbf\xf0\x00\x00\x00\x00\x00\x00\x00\x00\x00\x00\x00\x00\x00\x00\x00"
	for n := range len(long) + 1 {
		if n != 8 {
			checkNone(t, long[:n])
			checkNone(t, long[len(long)-n:])
		}
	}
}

// P1.1, Value: eight bytes that are no number's key.
func TestValueOfNoNumbersKey(t *testing.T) {
	for _, k := range []string{
		"\x7f\xff\xff\xff\xff\xff\xff\xff", // the negative nought's bits, turned
		"\xff\xf0\x00\x00\x00\x00\x00\x01", // NaNs' above
		"\xff\xf7\xff\xff\xff\xff\xff\xff",
		"\xff\xf8\x00\x00\x00\x00\x00\x01",
		"\xff\xf9\x00\x00\x00\x00\x00\x00",
		"\xff\xff\xff\xff\xff\xff\xff\xff",
		"\x00\x00\x00\x00\x00\x00\x00\x00", // and below
		"\x00\x07\xff\xff\xff\xff\xff\xff",
		"\x00\x08\x00\x00\x00\x00\x00\x00",
		"\x00\x0f\xff\xff\xff\xff\xff\xfe",
	} {
		checkNone(t, k)
	}
}

// isKey tells by ranges alone whether eight bytes, as one number, are a key: infinity to infinity without the negative nought, and one NaN.
func isKey(v uint64) bool {
	below := v >= 0x000fffffffffffff && v <= 0x7ffffffffffffffe
	rest := v >= 0x8000000000000000 && v <= 0xfff0000000000000
	return below || rest || v == 0xfff8000000000000
}

// P1.1, Value: of any eight bytes, those of either end of the range too.
func TestValueOfAnyEightBytes(t *testing.T) {
	v := uint64(1)
	for range 20000 {
		v = v*6364136223846793005 + 1442695040888963407
		for _, x := range []uint64{v, v | 0xfff<<52, v & (1<<52 - 1)} {
			k := string(binary.BigEndian.AppendUint64(nil, x))
			f, ok := float.Value(k)
			if ok != isKey(x) || ok && float.Key(f) != k {
				t.Fatalf("Value(%x) = %v, %v", k, f, ok)
			}
			if !ok {
				checkNone(t, k)
			}
		}
	}
}

// P1.1, Same and Less.
func TestSameAndLessOfEdges(t *testing.T) {
	l := edges()
	for i, a := range l {
		for k, b := range l {
			if float.Same(a, b) != (i == k) {
				t.Errorf("Same(%v, %v) = %v", a, b, float.Same(a, b))
			}
			if float.Less(a, b) != (i < k) {
				t.Errorf("Less(%v, %v) = %v", a, b, float.Less(a, b))
			}
		}
	}
}

// P1.1, Same and Less: numbers with several bits are one.
func TestSameAndLessOfOneNumber(t *testing.T) {
	for _, l := range [][]float64{nans(), {0, minusNought}} {
		for _, a := range l {
			for _, b := range l {
				if !float.Same(a, b) || float.Less(a, b) {
					t.Errorf("bits %016x and %016x: Same %v, Less %v", math.Float64bits(a), math.Float64bits(b), float.Same(a, b), float.Less(a, b))
				}
			}
		}
	}
}

// P1.1, Same and Less: each NaN stands behind all others, the negative nought where nought does.
func TestSameAndLessAgainstOthers(t *testing.T) {
	for _, f := range edges() {
		if float.Same(f, minusNought) != float.Same(f, 0) || float.Less(f, minusNought) != float.Less(f, 0) || float.Less(minusNought, f) != float.Less(0, f) {
			t.Errorf("%v against the negative nought", f)
		}
		if math.IsNaN(f) {
			continue
		}
		for _, n := range nans() {
			if float.Same(f, n) || float.Same(n, f) || !float.Less(f, n) || float.Less(n, f) {
				t.Errorf("%v against NaN of bits %016x", f, math.Float64bits(n))
			}
		}
	}
}

// P1.2: pair by pair.
func TestKeysOfEdgesStandInOrder(t *testing.T) {
	l := append(append(edges(), minusNought), nans()...)
	for _, a := range l {
		for _, b := range l {
			if (float.Key(a) < float.Key(b)) != float.Less(a, b) || (float.Key(a) == float.Key(b)) != float.Same(a, b) {
				t.Errorf("keys of %v and %v: %x, %x", a, b, float.Key(a), float.Key(b))
			}
		}
	}
}

// P1.2: over all exponents of both signs.
func TestKeysRiseUpTheLadder(t *testing.T) {
	l := ladder()
	for i, b := range l[1:] {
		a := l[i]
		if !math.IsNaN(b) && !(a < b) {
			t.Fatalf("the ladder itself is wrong at %v, %v", a, b)
		}
		if float.Key(a) >= float.Key(b) || !float.Less(a, b) || float.Less(b, a) || float.Same(a, b) {
			t.Fatalf("%v, %v: keys %x, %x", a, b, float.Key(a), float.Key(b))
		}
	}
}
