package depth_test

import (
	"math"
	"math/big"
	"testing"

	"engraver/depth"
)

var minusNought = math.Copysign(0, -1)

// wantRatio asks for a float by its value and by its nought's sign; of a NaN, that it is one.
func wantRatio(t *testing.T, out, in int, want float64) {
	t.Helper()
	got := depth.Ratio(out, in)
	if math.IsNaN(want) {
		if !math.IsNaN(got) {
			t.Errorf("%d by %d: %v, want a NaN", out, in, got)
		}
		return
	}
	if got != want || math.Signbit(got) != math.Signbit(want) {
		t.Errorf("%d by %d: %v, want %v", out, in, got, want)
	}
}

// P9.3: numbers by numbers, the parts behind the point too.
func TestRatio(t *testing.T) {
	wantRatio(t, 1, 4, 0.25)
	wantRatio(t, 6, 4, 1.5)
	wantRatio(t, 4, 6, 4.0/6.0)
	wantRatio(t, 1, 3, 1.0/3.0)
	wantRatio(t, 3, 1, 3)
	wantRatio(t, 7, 7, 1)
	wantRatio(t, 255, 1<<18, 255.0/262144.0)
	wantRatio(t, 1, 1<<40, 1.0/(1<<40))
}

// P9.3: the quotient that is nearest, as exact fractions tell it.
func TestRatioOfManyNumbers(t *testing.T) {
	d := dice(3)
	for range 20000 {
		out, in := 1+d.below(1<<30), 1+d.below(1<<30)
		want, _ := big.NewRat(int64(out), int64(in)).Float64()
		wantRatio(t, out, in, want)
		wantRatio(t, -out, in, -want)
		wantRatio(t, out, -in, -want)
		wantRatio(t, -out, -in, want)
	}
}

// P9.3: numbers below 0.
func TestRatioBelowNought(t *testing.T) {
	wantRatio(t, -6, 3, -2)
	wantRatio(t, 6, -3, -2)
	wantRatio(t, -6, -3, 2)
	wantRatio(t, -1, 4, -0.25)
}

// P9.3: noughts above, of the sign that is below; noughts below; both.
func TestRatioOfNoughts(t *testing.T) {
	for _, n := range []int{1, 2, 3, 5, 1000, math.MaxInt} {
		wantRatio(t, 0, n, 0)
		wantRatio(t, 0, -n, minusNought)
		wantRatio(t, n, 0, math.Inf(1))
		wantRatio(t, -n, 0, math.Inf(-1))
	}
	wantRatio(t, 0, math.MinInt, minusNought)
	wantRatio(t, math.MinInt, 0, math.Inf(-1))
	wantRatio(t, 0, 0, math.NaN())
}

// P9.3: numbers that no float has are rounded ahead of the division, and those that no int could answer are answered.
func TestRatioOfGreatNumbers(t *testing.T) {
	wantRatio(t, 1<<53+1, 1, 1<<53)
	wantRatio(t, 1<<53+1, 1<<53, 1)
	wantRatio(t, math.MaxInt, 1, 1<<63)
	wantRatio(t, math.MaxInt, math.MaxInt-1, 1)
	wantRatio(t, math.MaxInt, math.MinInt, -1)
	wantRatio(t, math.MinInt, -1, 1<<63)
	wantRatio(t, math.MinInt, math.MinInt, 1)
	wantRatio(t, 1, math.MaxInt, 1.0/(1<<63))
}

// ratios answers those that do not count, and behind them those that do, the better ones first.
func ratios() (all []float64, counting int) {
	all = []float64{
		math.NaN(), math.Copysign(math.NaN(), -1), math.Float64frombits(0x7ff0000000000001), math.Float64frombits(0xffffffffffffffff),
		math.Inf(-1), -math.MaxFloat64, -2, -1, -0.5, -math.SmallestNonzeroFloat64, minusNought,
	}
	counting = len(all)
	return append(all, 0, math.SmallestNonzeroFloat64, 0x1p-1022, 0.25, 0.5, math.Nextafter(1, 0), 1, math.Nextafter(1, 2), 2, 1e300, math.MaxFloat64, math.Inf(1)), counting
}

// P9.3: each pair, by the places in that list.
func TestBetter(t *testing.T) {
	all, counting := ratios()
	for i, x := range all {
		for k, y := range all {
			want := i >= counting && (k < counting || i < k)
			if got := depth.Better(x, y); got != want {
				t.Errorf("Better(%v, %v), places %d and %d: %v", x, y, i, k, got)
			}
		}
	}
}

// P9.3: never of a ratio with itself, and never both ways.
func TestBetterIsOneWay(t *testing.T) {
	all, _ := ratios()
	for _, x := range all {
		if depth.Better(x, x) {
			t.Error(x)
		}
		for _, y := range all {
			if depth.Better(x, y) && depth.Better(y, x) {
				t.Error(x, y)
			}
		}
	}
}

// P9.3: pairs written out, each edge by its name.
func TestBetterAtTheEdges(t *testing.T) {
	nan, inf := math.NaN(), math.Inf(1)
	for _, c := range []struct {
		x, y float64
		want bool
	}{
		{0, minusNought, true}, {minusNought, 0, false}, {0, 0, false}, {minusNought, minusNought, false},
		{inf, nan, true}, {nan, inf, false}, {inf, minusNought, true}, {minusNought, inf, false}, {inf, -inf, true}, {-inf, inf, false},
		{0, inf, true}, {inf, 0, false}, {inf, inf, false}, {-inf, -inf, false}, {nan, nan, false},
		{nan, -1, false}, {-1, nan, false}, {nan, -inf, false}, {-inf, nan, false}, {-2, -1, false}, {-1, -2, false},
		{0, -1, true}, {-1, 0, false}, {1, -1, true}, {0.5, 1, true}, {1, 0.5, false}, {1, inf, true}, {0, nan, true},
	} {
		if got := depth.Better(c.x, c.y); got != c.want {
			t.Errorf("Better(%v, %v): %v", c.x, c.y, got)
		}
	}
}

// P9.3: the ratios that Ratio answers, noughts among the numbers.
func TestBetterOfRatios(t *testing.T) {
	if !depth.Better(depth.Ratio(0, 5), depth.Ratio(0, -5)) || depth.Better(depth.Ratio(0, -5), depth.Ratio(1, 0)) {
		t.Error("a nought below 0 counts")
	}
	if !depth.Better(depth.Ratio(3, 0), depth.Ratio(0, 0)) || depth.Better(depth.Ratio(0, 0), depth.Ratio(3, 0)) {
		t.Error("0 by 0 counts")
	}
	if !depth.Better(depth.Ratio(9, 1), depth.Ratio(3, 0)) || !depth.Better(depth.Ratio(1, 3), depth.Ratio(1, 2)) {
		t.Error("the less is not the better")
	}
	if depth.Better(depth.Ratio(1, 2), depth.Ratio(2, 4)) {
		t.Error("the same is better")
	}
}
