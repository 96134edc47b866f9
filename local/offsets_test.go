package local

import (
	"math/rand"
	"slices"
	"testing"

	"longcase/api"
)

func TestOffsets(t *testing.T) {
	repeated := api.Zone{Kinds: []api.Kind{{Off: 7200, Name: "EET"}, {Off: -5}, {Off: 7200, Dst: true, Name: "CEST"}, {Off: 7200, Name: "EET"}, {Off: -5}}}
	jumped := berlin()
	jumped.Jumps = jumped.Jumps[:1]
	for _, c := range []struct {
		z    api.Zone
		want []int
	}{
		{ahead(0), []int{0}}, {ahead(5), []int{5}}, {ahead(-5), []int{-5}},
		{ahead(0, 0), []int{0}}, {ahead(7, 7, 7), []int{7}},
		{ahead(1, 2, 3), []int{1, 2, 3}}, {ahead(3, 2, 1), []int{1, 2, 3}}, {ahead(2, -1, 3, 0, -2), []int{-2, -1, 0, 2, 3}},
		{ahead(3, 1, 3, 2, 1, 3), []int{1, 2, 3}}, {ahead(10, 9, 100, -10, -9), []int{-10, -9, 9, 10, 100}},
		{ahead(api.MaxOff, -api.MaxOff, 0), []int{-api.MaxOff, 0, api.MaxOff}},
		{repeated, []int{-5, 7200}},
		{berlin(), []int{3600, 7200}}, {jumped, []int{3600, 7200}},
		// A kind of no jump is one of the zone's as well.
		{api.Zone{Kinds: ahead(9, 4, 1).Kinds, Jumps: []api.Jump{{At: 5, Kind: 1}}}, []int{1, 4, 9}},
		{ruledBy(t, ahead(3600), "AAA-1"), []int{3600}}, {ruledBy(t, ahead(3600), "AAA0"), []int{0, 3600}},
		{ruledBy(t, ahead(3600), "AAA5"), []int{-18000, 3600}}, {ruledBy(t, ahead(3600), "AAA-5"), []int{3600, 18000}},
		{ruledBy(t, ahead(5, -18000, 4), "AAA5"), []int{-18000, 4, 5}},
		{ruledBy(t, ahead(9), "EST5EDT,M3.2.0,M11.1.0"), []int{-18000, -14400, 9}},
		{ruledBy(t, ahead(-15000), "EST5EDT,M3.2.0,M11.1.0"), []int{-18000, -15000, -14400}},
		{ruledBy(t, ahead(-18000), "EST5EDT,M3.2.0,M11.1.0"), []int{-18000, -14400}},
		{ruledBy(t, ahead(-14400), "EST5EDT,M3.2.0,M11.1.0"), []int{-18000, -14400}},
		{ruledBy(t, ahead(-14400, -18000), "EST5EDT,M3.2.0,M11.1.0"), []int{-18000, -14400}},
		{ruledBy(t, ahead(-3600), "AAA0BBB1,M3.2.0,M11.1.0"), []int{-3600, 0}},
		{ruledBy(t, ahead(7), "AAA1BBB0,M3.2.0,M11.1.0"), []int{-3600, 0, 7}},
		{ruledBy(t, ahead(7), "AAA1BBB1,M3.2.0,M11.1.0"), []int{-3600, 7}},
		{ruledBy(t, berlin(), "CET-1CEST,M3.5.0,M10.5.0/3"), []int{3600, 7200}},
		{ruledBy(t, berlin(), "EET-2EEST,M3.5.0,M10.5.0/3"), []int{3600, 7200, 10800}},
		{ruledBy(t, berlin(), "EET-2"), []int{3600, 7200}},
	} {
		was := cloneZone(c.z)
		if l := Offsets(c.z); !slices.Equal(l, c.want) {
			t.Errorf("%s: %v, not %v", brief(c.z), l, c.want)
		}
		if !same(c.z, was) {
			t.Errorf("the zone was changed: %s", brief(c.z))
		}
	}
}

func TestOffsetsOfWrongZones(t *testing.T) {
	for why, z := range wrongs(t) {
		if l := Offsets(z); len(l) != 0 {
			t.Errorf("%s: %v", why, l)
		}
	}
}

// TestManyOffsets: as many kinds as there may be, in no order, each offset twice.
func TestManyOffsets(t *testing.T) {
	var z api.Zone
	var want []int
	for i := range 256 {
		z.Kinds = append(z.Kinds, api.Kind{Off: (i*37%128 - 64) * 900, Dst: i >= 128})
	}
	for i := range 128 {
		want = append(want, (i-64)*900)
	}
	if l := Offsets(z); !slices.Equal(l, want) {
		t.Error(l)
	}
}

func TestOffsetsOfAnyZone(t *testing.T) {
	random := rand.New(rand.NewSource(13))
	for range 5000 {
		z := anyZone(t, random)
		was := cloneZone(z)
		if l := Offsets(z); !slices.Equal(l, expectOffsets(z)) || !same(z, was) {
			t.Fatalf("%s: %v", brief(z), l)
		}
	}
}

// TestOffsetsAreSeparate: what is told is the caller's, who may write over it.
func TestOffsetsAreSeparate(t *testing.T) {
	for _, z := range []api.Zone{ahead(0), ahead(3, 2, 1), berlin(), ruledBy(t, berlin(), "AAA5"), ruledBy(t, berlin(), "EST5EDT,M3.2.0,M11.1.0")} {
		was := cloneZone(z)
		first := Offsets(z)
		kept := slices.Clone(first)
		second := Offsets(z)
		for i := range first {
			first[i] = 99
		}
		if l := Offsets(z); !slices.Equal(l, kept) || !slices.Equal(second, kept) || !same(z, was) {
			t.Errorf("%s: %v, %v, not %v", brief(z), l, second, kept)
		}
	}
}
