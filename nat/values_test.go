package nat_test

import (
	"math"
	"math/big"
	"slices"
	"testing"

	"dspcompiler/api"
	"dspcompiler/internal/sample"
	"dspcompiler/nat"
)

// P1.1

func TestNormal(t *testing.T) {
	for _, a := range [][]uint32{nil, {}, {1}, {0, 1}, {0, 0, top}} {
		if !nat.Normal(a) {
			t.Error("Normal of a normal list", a)
		}
	}
	for _, a := range [][]uint32{{0}, {0, 0}, {1, 0}, {0, 1, 0}, {top, 0, 0}} {
		if nat.Normal(a) {
			t.Error("Normal of a list with a leading zero", a)
		}
	}
}

func TestTrim(t *testing.T) {
	for _, a := range sample.Edges() {
		expect(t, "Trim", nat.Trim(a), value(a), a)
	}
	if a := nat.Trim([]uint32{7, 0, 5, 0, 0}); !slices.Equal(a, []uint32{7, 0, 5}) {
		t.Error("Trim of 7, 0, 5, 0, 0:", a)
	}
}

func TestCompare(t *testing.T) {
	pairs(func(a, b []uint32) {
		if c := nat.Compare(a, b); c != value(a).Cmp(value(b)) {
			t.Fatal("Compare", a, b, c)
		}
		if c := nat.Compare(append(slices.Clone(a), 0, 0), a); c != 0 {
			t.Fatal("Compare of a list with leading zeros", a, c)
		}
	})
	long := all(7, 20)
	for i := range long {
		less := slices.Clone(long)
		less[i]--
		if nat.Compare(less, long) != -1 || nat.Compare(long, less) != 1 {
			t.Error("Compare of lists that differ in the digit", i)
		}
	}
}

// P1.2

func TestAdd(t *testing.T) {
	if z := nat.Add([]uint32{4294967295}, []uint32{1}); !slices.Equal(z, []uint32{0, 1}) {
		t.Error("the chapter's example", z)
	}
	pairs(func(a, b []uint32) {
		expect(t, "Add", nat.Add(a, b), new(big.Int).Add(value(a), value(b)), a, b)
	})
	for n := range 70 {
		expect(t, "Add with a carry through all digits", nat.Add(all(top, n), []uint32{1}), new(big.Int).Lsh(big.NewInt(1), uint(32*n)), n)
	}
}

func TestSub(t *testing.T) {
	pairs(func(a, b []uint32) {
		want := new(big.Int).Sub(value(a), value(b))
		if want.Sign() < 0 {
			want.SetInt64(0)
		}
		expect(t, "Sub", nat.Sub(a, b), want, a, b)
		expect(t, "Sub of itself", nat.Sub(a, append(slices.Clone(a), 0)), new(big.Int), a)
	})
	for n := range 70 {
		expect(t, "Sub with a borrow through all digits", nat.Sub(append(make([]uint32, n), 1), []uint32{1}), value(all(top, n)), n)
	}
}

func TestMul(t *testing.T) {
	pairs(func(a, b []uint32) {
		expect(t, "Mul", nat.Mul(a, b), new(big.Int).Mul(value(a), value(b)), a, b)
		expect(t, "Mul of itself", nat.Mul(a, a), new(big.Int).Mul(value(a), value(a)), a)
	})
}

func TestDivMod(t *testing.T) {
	q, r, e := nat.DivMod([]uint32{0, 1}, []uint32{3})
	if e != api.OK || !slices.Equal(q, []uint32{1431655765}) || !slices.Equal(r, []uint32{1}) {
		t.Error("the chapter's example", q, r, e)
	}
	divide := func(a, b []uint32) {
		q, r, e := nat.DivMod(a, b)
		x, y := value(a), value(b)
		if y.Sign() == 0 {
			if e != api.ErrZero || len(q) != 0 || len(r) != 0 {
				t.Fatal("DivMod by 0", a, b, q, r, e)
			}
			return
		}
		if e != api.OK {
			t.Fatal("DivMod", a, b, e)
		}
		x.DivMod(x, y, y)
		expect(t, "the quotient", q, x, a, b)
		expect(t, "the remainder", r, y, a, b)
	}
	pairs(divide)
	pairs(func(a, b []uint32) {
		product := nat.Mul(a, b)
		divide(product, b)
		divide(nat.Add(product, b), b)
		divide(nat.Sub(product, []uint32{1}), b)
	})
}

// The digits of the quotient that are guessed from the first digits of these
// numbers are too great, by one or two before the third digit is looked at and
// by one even then.
func TestDivModGuesses(t *testing.T) {
	edge := []uint32{0, 1, 2, 1<<31 - 1, 1 << 31, 1<<31 + 1, top - 1, top}
	for i := range len(edge) * len(edge) * len(edge) {
		b := []uint32{edge[i%8], edge[i/8%8], edge[i/64]}
		if nat.BitLen(b) <= 64 {
			continue
		}
		for _, digit := range edge {
			for _, rest := range [][]uint32{nil, {1}, nat.Sub(b, []uint32{1})} {
				q := []uint32{top, digit, 1}
				a := nat.Add(nat.Mul(q, b), rest)
				q2, r2, e := nat.DivMod(a, b)
				if e != api.OK || !slices.Equal(q2, q) || !slices.Equal(r2, trimmed(rest)) {
					t.Fatal("DivMod", a, b, q2, r2, e)
				}
			}
		}
	}
}

// P1.3

func TestBitLen(t *testing.T) {
	pairs(func(a, _ []uint32) {
		if n := nat.BitLen(a); n != value(a).BitLen() {
			t.Fatal("BitLen", a, n)
		}
	})
	for n := range 200 {
		power := nat.Shift([]uint32{1}, n)
		if nat.BitLen(power) != n+1 || nat.BitLen(nat.Sub(power, []uint32{1})) != n {
			t.Error("BitLen of 2^n and of one less", n)
		}
	}
}

func TestShift(t *testing.T) {
	g := sample.Generator(2)
	lists := append(sample.Edges(), g.Digits(9), g.Digits(20), g.Digits(60))
	for _, a := range lists {
		for n := range 140 {
			expect(t, "Shift", nat.Shift(a, n), new(big.Int).Lsh(value(a), uint(n)), a, n)
			expect(t, "Shift", nat.Shift(a, -n), new(big.Int).Rsh(value(a), uint(n)), a, -n)
		}
	}
}

func TestShiftLimits(t *testing.T) {
	long := all(top, 3000)
	for _, n := range []int{api.MaxShift - 1, api.MaxShift} {
		expect(t, "the greatest shift", nat.Shift([]uint32{5}, n), new(big.Int).Lsh(big.NewInt(5), uint(n)), n)
	}
	for _, n := range []int{api.MaxShift + 1, api.MaxShift + 32, math.MaxInt32, math.MaxInt} {
		expect(t, "a shift that is too great", nat.Shift([]uint32{5}, n), new(big.Int), n)
	}
	for _, n := range []int{api.MaxShift, api.MaxShift + 1, 32*len(long) - 1} {
		expect(t, "a long shift down", nat.Shift(long, -n), new(big.Int).Rsh(value(long), uint(n)), -n)
	}
	for _, n := range []int{-32 * len(long), math.MinInt32, math.MinInt + 1, math.MinInt} {
		expect(t, "a shift of all bits", nat.Shift(long, n), new(big.Int), n)
	}
}

func TestGcd(t *testing.T) {
	g := sample.Generator(3)
	pairs(func(a, b []uint32) {
		expect(t, "Gcd", nat.Gcd(a, b), new(big.Int).GCD(nil, nil, value(a), value(b)), a, b)
		common := g.Digits(g.Below(9))
		a, b = nat.Mul(a, common), nat.Mul(b, common)
		expect(t, "Gcd", nat.Gcd(a, b), new(big.Int).GCD(nil, nil, value(a), value(b)), a, b)
	})
	for _, a := range sample.Edges() {
		expect(t, "Gcd of 0", nat.Gcd(nil, a), value(a), a)
		expect(t, "Gcd with 0", nat.Gcd(a, []uint32{0}), value(a), a)
		expect(t, "Gcd with itself", nat.Gcd(a, a), value(a), a)
	}
}

// Neighbours in the sequence of Fibonacci have the longest run of Euclid's
// algorithm; quotients of all sizes come from numbers that are built up from
// them.
func TestGcdLongRuns(t *testing.T) {
	common := all(top, 5)
	x, y := []uint32{1}, []uint32{1}
	for n := range 1200 {
		x, y = y, nat.Add(x, y)
		if n%7 == 0 {
			expect(t, "Gcd of neighbours", nat.Gcd(nat.Mul(x, common), nat.Mul(y, common)), value(common), n)
			expect(t, "Gcd of neighbours", nat.Gcd(y, x), big.NewInt(1), n)
		}
	}
	g := sample.Generator(4)
	for range 300 {
		x, y = common, nil
		for range 40 {
			quotient := nat.Shift([]uint32{g.Next()}, g.Below(70)-31)
			x, y = nat.Add(nat.Mul(quotient, x), y), x
			expect(t, "Gcd of numbers with known quotients", nat.Gcd(x, y), value(common), x, y)
		}
	}
}
