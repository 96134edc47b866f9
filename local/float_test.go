package local

import (
	"math"
	"math/big"
	"math/rand"
	"testing"

	"longcase/api"
	"longcase/clock"
)

func floatShowsNothing(t *testing.T, why string, z api.Zone, f float64, want api.Errno) {
	t.Helper()
	if c, k, err := Float(z, f); c != (api.Civil{}) || k != (api.Kind{}) || err != want {
		t.Errorf("%s: at %g: %v, %v, %v, not %v: %s", why, f, c, k, err, want, brief(z))
	}
}

// TestFloats: whole seconds, and what lies between two, which is rounded down, below 0 too.
func TestFloats(t *testing.T) {
	least := math.SmallestNonzeroFloat64
	for _, c := range []struct {
		f    float64
		text string
		dst  bool
	}{
		{0, "1970-01-01 01:00:00", false}, {math.Copysign(0, -1), "1970-01-01 01:00:00", false},
		{1, "1970-01-01 01:00:01", false}, {-1, "1970-01-01 00:59:59", false}, {-2, "1970-01-01 00:59:58", false},
		{0.5, "1970-01-01 01:00:00", false}, {-0.5, "1970-01-01 00:59:59", false},
		{least, "1970-01-01 01:00:00", false}, {-least, "1970-01-01 00:59:59", false},
		{math.Nextafter(1, 0), "1970-01-01 01:00:00", false}, {math.Nextafter(-1, 0), "1970-01-01 00:59:59", false},
		{math.Nextafter(-1, -2), "1970-01-01 00:59:58", false}, {-1.5, "1970-01-01 00:59:58", false},
		{1174784399, "2007-03-25 01:59:59", false}, {1174784399.75, "2007-03-25 01:59:59", false},
		{math.Nextafter(1174784400, 0), "2007-03-25 01:59:59", false},
		{1174784400, "2007-03-25 03:00:00", true}, {1174784400.999, "2007-03-25 03:00:00", true},
		{1193533199.5, "2007-10-28 02:59:59", true}, {1193533200, "2007-10-28 02:00:00", false},
		{1<<40 + 0.5, "36812-02-20 01:36:16", false}, {-1<<40 - 0.5, "-32873-11-13 00:23:43", false},
	} {
		z := berlin()
		kind := z.Kinds[0]
		if c.dst {
			kind = z.Kinds[1]
		}
		if got, k, err := Float(z, c.f); clock.Text(got) != c.text || k != kind || err != api.OK {
			t.Errorf("%g: %q, %v, %v, not %q, %v", c.f, clock.Text(got), k, err, c.text, kind)
		}
	}
}

// TestFloatsAtTheEnds: at that size a float's next one is 8 further, below the least size of what has no civil time.
func TestFloatsAtTheEnds(t *testing.T) {
	z := ahead(0)
	for _, c := range []struct {
		f    float64
		text string
	}{{lastSecond + 1 - 8, "2147483647-12-31 23:59:52"}, {firstSecond, "-2147483648-01-01 00:00:00"}} {
		if got, k, err := Float(z, c.f); clock.Text(got) != c.text || k != z.Kinds[0] || err != api.OK {
			t.Errorf("%g: %q, %v, %v, not %q", c.f, clock.Text(got), k, err, c.text)
		}
	}
	for _, f := range []float64{lastSecond + 1, firstSecond - 16, 1 << 62, -1 << 62, -1 << 63, math.Nextafter(1<<63, 0)} {
		floatShowsNothing(t, "no civil time", z, f, api.ErrRange)
		floatShowsNothing(t, "no date", ruledBy(t, z, "EST5EDT,M3.2.0,M11.1.0"), f, api.ErrRange)
	}
}

// TestWrongFloats: what is wrong with the float is told ahead of what is wrong with the zone.
func TestWrongFloats(t *testing.T) {
	zones := wrongs(t)
	zones["a right one"], zones["a ruled one"] = berlin(), ruledBy(t, berlin(), "EST5EDT,M3.2.0,M11.1.0")
	for why, z := range zones {
		for _, f := range []float64{math.NaN(), -math.NaN(), math.Float64frombits(0x7ff0000000000001), math.Inf(1), math.Inf(-1)} {
			floatShowsNothing(t, why, z, f, api.ErrNumber)
		}
		for _, f := range []float64{1 << 63, math.Nextafter(1<<63, math.Inf(1)), 1e300, math.MaxFloat64, math.Nextafter(-1<<63, math.Inf(-1)), -1e300, -math.MaxFloat64} {
			floatShowsNothing(t, why, z, f, api.ErrRange)
		}
	}
	for why, z := range wrongs(t) {
		for _, f := range []float64{0, math.Copysign(0, -1), -0.5, 1e9, 1e17, -1e17, -1 << 63, math.Nextafter(1<<63, 0)} {
			floatShowsNothing(t, why, z, f, api.ErrArg)
		}
	}
}

func TestFloatOfAnyZone(t *testing.T) {
	random := rand.New(rand.NewSource(12))
	for range 2000 {
		z := anyZone(t, random)
		was := cloneZone(z)
		for range 10 {
			f := float64(anyMoment(random)) + random.Float64()
			wantCivil, wantKind, want := expect(z, down(f))
			if c, k, err := Float(z, f); c != wantCivil || k != wantKind || err != want {
				t.Fatalf("%s at %g: %v, %v, %v, not %v, %v, %v", brief(z), f, c, k, err, wantCivil, wantKind, want)
			}
		}
		if !same(z, was) {
			t.Fatalf("the zone was changed: %s", brief(z))
		}
	}
}

// down rounds down by whole numbers without bounds; f is one that fits.
func down(f float64) int64 {
	exact := new(big.Float).SetFloat64(f)
	whole, _ := exact.Int(nil)
	if exact.Sign() < 0 && !exact.IsInt() {
		whole.Sub(whole, big.NewInt(1))
	}
	return whole.Int64()
}
