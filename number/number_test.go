package number

import (
	"math"
	"math/big"
	"slices"
	"testing"

	"longcase/api"
)

const (
	top = math.MaxInt64
	low = math.MinInt64
)

// edges are whole numbers round every place at which a sum, a product, a quotient or a float turns.
func edges() []int64 {
	l := []int64{0, top, top - 1, top - 511, top - 512, top - 1023, low, low + 1, low + 1024, 3037000499, 3037000500, 86400, -86400, 1e18}
	for k := range 63 {
		for d := int64(-3); d <= 3; d++ {
			l = append(l, int64(1)<<k+d, -(int64(1)<<k)+d)
		}
	}
	slices.Sort(l)
	return slices.Compact(l)
}

func TestAdd(t *testing.T) {
	for _, c := range []struct {
		a, b, sum int64
		fits      bool
	}{
		{1, 2, 3, true}, {-5, 3, -2, true}, {0, 0, 0, true},
		{top, 0, top, true}, {low, 0, low, true},
		{top - 1, 1, top, true}, {top, 1, 0, false}, {1, top, 0, false}, {top, top, 0, false},
		{low + 1, -1, low, true}, {low, -1, 0, false}, {-1, low, 0, false}, {low, low, 0, false},
		{top, low, -1, true}, {low, top, -1, true},
	} {
		if sum, fits := Add(c.a, c.b); sum != c.sum || fits != c.fits {
			t.Errorf("Add(%d, %d) = %d, %v", c.a, c.b, sum, fits)
		}
	}
}

func TestMul(t *testing.T) {
	for _, c := range []struct {
		a, b, product int64
		fits          bool
	}{
		{6, 7, 42, true}, {-6, 7, -42, true}, {-6, -7, 42, true},
		{0, low, 0, true}, {low, 0, 0, true}, {top, 0, 0, true},
		{1, low, low, true}, {low, 1, low, true}, {top, -1, -top, true}, {-1, top, -top, true},
		{low, -1, 0, false}, {-1, low, 0, false}, {low, low, 0, false}, {top, top, 0, false}, {top, low, 0, false},
		{1 << 31, 1<<32 - 1, 1<<63 - 1<<31, true}, {1 << 31, 1 << 32, 0, false},
		{-1 << 31, 1 << 32, low, true}, {-1 << 31, 1<<32 + 1, 0, false},
		{7, top / 7, top, true}, {7, top/7 + 1, 0, false}, // 7 is a divisor of the greatest one
		{2, top / 2, top - 1, true}, {2, top/2 + 1, 0, false},
		{2, low / 2, low, true}, {2, low/2 - 1, 0, false},
	} {
		if product, fits := Mul(c.a, c.b); product != c.product || fits != c.fits {
			t.Errorf("Mul(%d, %d) = %d, %v", c.a, c.b, product, fits)
		}
	}
}

func TestDiv(t *testing.T) {
	for _, c := range []struct {
		a, b, quotient, left int64
		is                   bool
	}{
		{7, 2, 3, 1, true}, {-7, 2, -4, 1, true}, {-8, 2, -4, 0, true}, {8, 2, 4, 0, true},
		{0, 5, 0, 0, true}, {1, 5, 0, 1, true}, {-1, 5, -1, 4, true}, {-1, 86400, -1, 86399, true},
		{low, 1, low, 0, true}, {top, 1, top, 0, true},
		{low, top, -2, top - 1, true}, {top, top, 1, 0, true}, {-1, top, -1, top - 1, true},
		{5, 0, 0, 0, false}, {5, -1, 0, 0, false}, {0, 0, 0, 0, false}, {0, -3, 0, 0, false},
		{low, -1, 0, 0, false}, {low, low, 0, 0, false}, {top, low, 0, 0, false},
	} {
		if quotient, left, is := Div(c.a, c.b); quotient != c.quotient || left != c.left || is != c.is {
			t.Errorf("Div(%d, %d) = %d, %d, %v", c.a, c.b, quotient, left, is)
		}
	}
}

// exact is what a call with whole numbers must tell of a result without bounds.
func exact(n *big.Int) (int64, bool) {
	if !n.IsInt64() {
		return 0, false
	}
	return n.Int64(), true
}

func TestWholeAgainstBig(t *testing.T) {
	l := edges()
	for _, a := range l {
		for _, b := range l {
			x, y := big.NewInt(a), big.NewInt(b)
			want, fits := exact(new(big.Int).Add(x, y))
			if got, is := Add(a, b); got != want || is != fits {
				t.Fatalf("Add(%d, %d) = %d, %v", a, b, got, is)
			}
			want, fits = exact(new(big.Int).Mul(x, y))
			if got, is := Mul(a, b); got != want || is != fits {
				t.Fatalf("Mul(%d, %d) = %d, %v", a, b, got, is)
			}
			quotient, left := new(big.Int), new(big.Int)
			if b >= 1 {
				quotient.DivMod(x, y, left) // of a divisor above 0 this one rounds down
			}
			if q, r, is := Div(a, b); q != quotient.Int64() || r != left.Int64() || is != (b >= 1) {
				t.Fatalf("Div(%d, %d) = %d, %d, %v", a, b, q, r, is)
			}
		}
	}
}

func TestSeconds(t *testing.T) {
	minus := math.Copysign(0, -1)
	for _, c := range []struct {
		f   float64
		n   int64
		err api.Errno
	}{
		{0, 0, api.OK}, {minus, 0, api.OK}, {1, 1, api.OK}, {-1, -1, api.OK},
		{0.5, 0, api.OK}, {-0.5, -1, api.OK}, {1.999, 1, api.OK}, {-1.001, -2, api.OK}, {-2, -2, api.OK},
		{math.Nextafter(1, 0), 0, api.OK}, {math.Nextafter(-1, 0), -1, api.OK}, {math.Nextafter(-1, -2), -2, api.OK},
		{math.SmallestNonzeroFloat64, 0, api.OK}, {-math.SmallestNonzeroFloat64, -1, api.OK},
		{1<<52 + 0.5, 1 << 52, api.OK}, {-(1 << 51) - 0.5, -(1 << 51) - 1, api.OK}, {1<<53 + 2, 1<<53 + 2, api.OK},
		{math.Nextafter(1<<63, 0), 1<<63 - 1024, api.OK}, {1<<63 - 1, 0, api.ErrRange}, {1 << 63, 0, api.ErrRange},
		{-1 << 63, low, api.OK}, {math.Nextafter(-1<<63, 0), low + 1024, api.OK},
		{math.Nextafter(-1<<63, math.Inf(-1)), 0, api.ErrRange},
		{1 << 64, 0, api.ErrRange}, {-1 << 64, 0, api.ErrRange}, {1<<64 + 1<<20, 0, api.ErrRange},
		{math.MaxFloat64, 0, api.ErrRange}, {-math.MaxFloat64, 0, api.ErrRange},
		{math.Inf(1), 0, api.ErrNumber}, {math.Inf(-1), 0, api.ErrNumber},
		{math.NaN(), 0, api.ErrNumber}, {math.Copysign(math.NaN(), -1), 0, api.ErrNumber},
		{math.Float64frombits(0x7ff0000000000001), 0, api.ErrNumber},
	} {
		if n, err := Seconds(c.f); n != c.n || err != c.err {
			t.Errorf("Seconds(%v) = %d, %v", c.f, n, err)
		}
	}
}

// TestSecondsAgainstBig asks of floats of every power of two, since each of them loses other bits behind the point.
func TestSecondsAgainstBig(t *testing.T) {
	one := big.NewInt(1)
	for exponent := -70; exponent <= 70; exponent++ {
		for _, part := range []float64{1, 1.25, 1.5, math.Nextafter(1, 2), math.Nextafter(2, 0), 4.0 / 3} {
			for _, f := range []float64{math.Ldexp(part, exponent), -math.Ldexp(part, exponent)} {
				whole, how := new(big.Float).SetFloat64(f).Int(nil)
				if f < 0 && how != big.Exact { // Int rounds towards 0
					whole.Sub(whole, one)
				}
				want, fits := exact(whole)
				if n, err := Seconds(f); n != want || (err == api.OK) != fits || !fits && err != api.ErrRange {
					t.Errorf("Seconds(%v) = %d, %v", f, n, err)
				}
			}
		}
	}
}

func TestFloat(t *testing.T) {
	for _, c := range []struct {
		n    int64
		f    float64
		just bool
	}{
		{0, 0, true}, {1, 1, true}, {-1, -1, true}, {86400, 86400, true},
		{1<<53 - 1, 1<<53 - 1, true}, {1 << 53, 1 << 53, true}, {1<<53 + 2, 1<<53 + 2, true},
		{1<<53 + 1, 1 << 53, false}, {1<<53 + 3, 1<<53 + 4, false}, // as near to two: the even one, once below, once above
		{-1<<53 - 1, -1 << 53, false}, {-1<<53 - 3, -1<<53 - 4, false},
		{1<<54 + 1, 1 << 54, false}, {1<<54 + 3, 1<<54 + 4, false},
		{top, 1 << 63, false}, {top - 511, 1 << 63, false}, {top - 512, 1<<63 - 1024, false}, {top - 1023, 1<<63 - 1024, true},
		{low, -1 << 63, true}, {low + 1, -1 << 63, false}, {low + 1024, -1<<63 + 1024, true},
	} {
		if f, just := Float(c.n); f != c.f || just != c.just {
			t.Errorf("Float(%d) = %v, %v", c.n, f, just)
		}
	}
	if f, _ := Float(0); math.Signbit(f) {
		t.Error("Float(0) is minus nought")
	}
}

func TestFloatAgainstBig(t *testing.T) {
	for _, n := range edges() {
		want := new(big.Float).SetPrec(53).SetMode(big.ToNearestEven).SetInt64(n)
		nearest, _ := want.Float64()
		if f, just := Float(n); f != nearest || just != (want.Acc() == big.Exact) {
			t.Errorf("Float(%d) = %v, %v", n, f, just)
		}
	}
}

func TestFloatIsReadBySeconds(t *testing.T) {
	for _, n := range edges() {
		f, just := Float(n)
		if back, err := Seconds(f); just && (back != n || err != api.OK) {
			t.Errorf("Seconds(Float(%d)) = %d, %v", n, back, err)
		}
	}
}

// TestOrder holds rows of floats against each other; those of one row stand together.
func TestOrder(t *testing.T) {
	rows := [][]float64{
		{math.Inf(-1)},
		{-math.MaxFloat64},
		{-1 << 63},
		{-1.5}, {-1},
		{-math.SmallestNonzeroFloat64},
		{math.Copysign(0, -1)},
		{0},
		{math.SmallestNonzeroFloat64},
		{1}, {math.Nextafter(1, 2)},
		{1 << 53},
		{math.MaxFloat64},
		{math.Inf(1)},
		{math.NaN(), math.Copysign(math.NaN(), -1), math.Float64frombits(0x7ff0000000000001), math.Float64frombits(0xfff8000000000002)},
	}
	for i, as := range rows {
		for k, bs := range rows {
			want := 0
			if i < k {
				want = -1
			} else if i > k {
				want = 1
			}
			for _, a := range as {
				for _, b := range bs {
					if got := Order(a, b); got != want {
						t.Errorf("Order(%v, %v) = %d, want %d (rows %d, %d)", a, b, got, want, i, k)
					}
				}
			}
		}
	}
}
