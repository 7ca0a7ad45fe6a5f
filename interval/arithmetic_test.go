package interval_test

import (
	"slices"
	"testing"

	"dspcompiler/api"
	"dspcompiler/interval"
	"dspcompiler/rational"
)

// P4.2

// quotient returns x / y.
func quotient(x, y api.Rat) api.Rat {
	z, _ := rational.Div(x, y)
	return z
}

// checkImage compares a result with its definition, by means of some of the
// numbers that it contains, those at its ends among them.
func checkImage(t *testing.T, call string, got api.Interval, image []api.Rat, arguments ...api.Interval) {
	t.Helper()
	if !isValid(got) {
		t.Fatalf("%s is not valid: %v, for %v", call, got, arguments)
	}
	for _, z := range image {
		if !has(got, z) {
			t.Fatalf("%s is %v and does not contain %v, for %v", call, got, z, arguments)
		}
	}
	for _, end := range []api.Rat{got.Lo, got.Hi} {
		if !slices.ContainsFunc(image, func(z api.Rat) bool { return rational.Compare(z, end) == 0 }) {
			t.Fatalf("%s is %v, whose end %v is no such value, for %v", call, got, end, arguments)
		}
	}
}

// imageOf returns the values of a function of a number of a and one of b.
func imageOf(f func(x, y api.Rat) api.Rat, a, b api.Interval) []api.Rat {
	var z []api.Rat
	for _, x := range members(a) {
		for _, y := range members(b) {
			z = append(z, f(x, y))
		}
	}
	return z
}

// someOperands are intervals of all forms and of a few sizes, not so many
// that all pairs of members of all pairs take long.
func someOperands() []api.Interval {
	list := intervals()
	return slices.Concat(list[:66], list[len(list)-4:])
}

func TestSumsDifferencesAndProducts(t *testing.T) {
	for _, a := range someOperands() {
		for _, b := range someOperands() {
			checkImage(t, "Add", interval.Add(a, b), imageOf(rational.Add, a, b), a, b)
			checkImage(t, "Sub", interval.Sub(a, b), imageOf(rational.Sub, a, b), a, b)
			checkImage(t, "Mul", interval.Mul(a, b), imageOf(rational.Mul, a, b), a, b)
		}
	}
}

func TestQuotients(t *testing.T) {
	for _, a := range someOperands() {
		for _, b := range someOperands() {
			got, e := interval.Div(a, b)
			if has(b, rational.Of(0)) {
				refuse(t, "Div", got, e, api.ErrZero, a, b)
				continue
			}
			if e != api.OK {
				t.Fatal("Div fails", a, b, e)
			}
			checkImage(t, "Div", got, imageOf(quotient, a, b), a, b)
		}
	}
}

func TestSquare(t *testing.T) {
	for _, a := range intervals() {
		var image []api.Rat
		for _, x := range members(a) {
			image = append(image, rational.Mul(x, x))
		}
		checkImage(t, "Square", interval.Square(a), image, a)
	}
	for _, row := range [][2]api.Interval{{of(-6, 12), of(0, 24)}, {of(6, -12), of(0, 24)}, {of(-12, -6), of(6, 24)}, {of(6, 12), of(6, 24)}, {of(-6, 6), of(0, 6)}, {of(0, 6), of(0, 6)}, {of(-6, 0), of(0, 6)}, {of(-6, -6), of(6, 6)}, {{}, of(0, 0)}} {
		expect(t, "Square", interval.Square(row[0]), row[1], row[0])
	}
}

// All combinations of signs, with either order of the ends.
func TestSmallSumsDifferencesAndProducts(t *testing.T) {
	rows := []struct{ a, b, sum, difference, product [2]int }{
		{[2]int{1, 2}, [2]int{3, 5}, [2]int{4, 7}, [2]int{-4, -1}, [2]int{3, 10}},
		{[2]int{1, 2}, [2]int{-3, 5}, [2]int{-2, 7}, [2]int{-4, 5}, [2]int{-6, 10}},
		{[2]int{1, 2}, [2]int{-5, -3}, [2]int{-4, -1}, [2]int{4, 7}, [2]int{-10, -3}},
		{[2]int{-1, 2}, [2]int{3, 4}, [2]int{2, 6}, [2]int{-5, -1}, [2]int{-4, 8}},
		{[2]int{-1, 2}, [2]int{-3, 1}, [2]int{-4, 3}, [2]int{-2, 5}, [2]int{-6, 3}},
		{[2]int{-2, 1}, [2]int{-3, 1}, [2]int{-5, 2}, [2]int{-3, 4}, [2]int{-3, 6}},
		{[2]int{-1, 2}, [2]int{-5, -3}, [2]int{-6, -1}, [2]int{2, 7}, [2]int{-10, 5}},
		{[2]int{-2, -1}, [2]int{-5, -3}, [2]int{-7, -4}, [2]int{1, 4}, [2]int{3, 10}},
		{[2]int{-2, -1}, [2]int{3, 5}, [2]int{1, 4}, [2]int{-7, -4}, [2]int{-10, -3}},
		{[2]int{0, 2}, [2]int{-3, 0}, [2]int{-3, 2}, [2]int{0, 5}, [2]int{-6, 0}},
		{[2]int{0, 0}, [2]int{-3, 7}, [2]int{-3, 7}, [2]int{-7, 3}, [2]int{0, 0}},
		{[2]int{2, 2}, [2]int{-3, -3}, [2]int{-1, -1}, [2]int{5, 5}, [2]int{-6, -6}},
	}
	whole := func(ends [2]int) api.Interval {
		return api.Interval{Lo: rational.Of(ends[0]), Hi: rational.Of(ends[1])}
	}
	for _, row := range rows {
		for _, a := range []api.Interval{whole(row.a), {Lo: rational.Of(row.a[1]), Hi: rational.Of(row.a[0])}} {
			for _, b := range []api.Interval{whole(row.b), {Lo: rational.Of(row.b[1]), Hi: rational.Of(row.b[0])}} {
				expect(t, "Add", interval.Add(a, b), whole(row.sum), a, b)
				expect(t, "Sub", interval.Sub(a, b), whole(row.difference), a, b)
				expect(t, "Mul", interval.Mul(a, b), whole(row.product), a, b)
				expect(t, "Mul", interval.Mul(b, a), whole(row.product), b, a)
			}
		}
	}
}

func TestSmallQuotients(t *testing.T) {
	rows := []struct{ a, b, want api.Interval }{
		{of(6, 12), of(6, 18), of(2, 12)}, {of(6, 12), of(-18, -6), of(-12, -2)}, {of(-6, 12), of(12, 18), of(-3, 6)}, {of(-6, 12), of(-18, -12), of(-6, 3)},
		{of(-12, -6), of(6, 12), of(-12, -3)}, {of(-12, -6), of(-12, -6), of(3, 12)}, {of(0, 6), of(6, 6), of(0, 6)}, {of(6, 6), of(12, 18), of(2, 3)},
		{of(6, 6), of(-12, -12), of(-3, -3)}, {api.Interval{}, of(2, 3), of(0, 0)},
	}
	for _, row := range rows {
		for _, b := range []api.Interval{row.b, {Lo: row.b.Hi, Hi: row.b.Lo}} {
			got, e := interval.Div(row.a, b)
			if e != api.OK {
				t.Fatal("Div fails", row.a, b, e)
			}
			expect(t, "Div", got, row.want, row.a, b)
		}
	}
}

func TestQuotientsByIntervalsWithZero(t *testing.T) {
	for _, b := range []api.Interval{{}, of(0, 0), of(-1, 1), of(1, -1), of(0, 3), of(3, 0), of(-3, 0), of(0, -3), {Hi: rational.Of(1)}} {
		for _, a := range []api.Interval{{}, of(0, 0), of(1, 2), of(-2, 5), of(-3, -3)} {
			got, e := interval.Div(a, b)
			refuse(t, "Div", got, e, api.ErrZero, a, b)
		}
	}
}
