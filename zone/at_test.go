package zone

import (
	"math"
	"math/rand"
	"testing"
	"unsafe"

	"longcase/api"
)

// The first and the last second whose day has a date.
const (
	firstSecond = -784353015833 * 86400
	lastSecond  = 784351576777*86400 - 1
)

func inForce(t *testing.T, z api.Zone, at int64, want api.Kind) {
	t.Helper()
	if k, err := At(z, at); k != want || err != api.OK {
		t.Errorf("%s at %d: %v, %v, not %v", brief(z), at, k, err, want)
	}
}

func noKind(t *testing.T, why string, z api.Zone, at int64, want api.Errno) {
	t.Helper()
	if k, err := At(z, at); k != (api.Kind{}) || err != want {
		t.Errorf("%s: at %d: %v, %v, not %v: %s", why, at, k, err, want, brief(z))
	}
}

// moments are near each jump, and far from all.
func moments(z api.Zone) []int64 {
	all := []int64{math.MinInt64, math.MinInt64 + 1, -1 << 50, -1, 0, 1, 1 << 50, math.MaxInt64 - 1, math.MaxInt64}
	for _, jump := range z.Jumps {
		for d := int64(-2); d <= 2; d++ {
			all = append(all, jump.At+d)
		}
	}
	return all
}

func TestWithoutJumps(t *testing.T) {
	z := api.Zone{Kinds: threeKinds()}
	for _, at := range moments(z) {
		inForce(t, least(), at, api.Kind{})
		inForce(t, z, at, z.Kinds[0])
		inForce(t, api.Zone{Kinds: z.Kinds[2:]}, at, z.Kinds[2])
		one := ruledBy(t, z, "AAA5")
		inForce(t, one, at, one.Rule.Std)
	}
	two := ruledBy(t, z, "EST5EDT,M3.2.0,M11.1.0")
	for _, c := range []struct {
		at   int64
		want api.Kind
	}{
		{1173596399, two.Rule.Std}, {1173596400, two.Rule.Dst}, {1173596401, two.Rule.Dst},
		{1194155999, two.Rule.Dst}, {1194156000, two.Rule.Std}, {1194156001, two.Rule.Std},
		{firstSecond, two.Rule.Std}, {lastSecond, two.Rule.Std}, {-1, two.Rule.Std}, {0, two.Rule.Std},
	} {
		inForce(t, two, c.at, c.want)
	}
}

// TestAtJumps: a jump's kind is in force from its moment on, until the next one's.
func TestAtJumps(t *testing.T) {
	z := jumping(-100, -50, 7, 8, 10, 1000)
	want := []int{2, 1, 0, 2, 1, 0}
	ahead := z.Kinds[0]
	for i, jump := range z.Jumps {
		kind := z.Kinds[want[i]]
		inForce(t, z, jump.At-1, ahead)
		inForce(t, z, jump.At, kind)
		if jump.At != 7 {
			inForce(t, z, jump.At+1, kind)
		}
		ahead = kind
	}
	inForce(t, z, math.MinInt64, z.Kinds[0])
	inForce(t, z, -1, z.Kinds[1])
	inForce(t, z, 0, z.Kinds[1])
	inForce(t, z, 999, z.Kinds[1])
	inForce(t, z, math.MaxInt64, z.Kinds[0])
}

// TestAheadOfTheFirstJump: the kind 0 is in force there, whatever the jumps lead to.
func TestAheadOfTheFirstJump(t *testing.T) {
	for _, text := range []string{"", "AAA5", "EST5EDT,M3.2.0,M11.1.0"} {
		z := jumping(1194156000, 1194156005)
		if text != "" {
			z = ruledBy(t, z, text)
		}
		for _, at := range []int64{1194155999, 1194155998, 0, -1, firstSecond - 1, -1 << 62, math.MinInt64} {
			inForce(t, z, at, z.Kinds[0])
		}
		inForce(t, z, 1194156000, z.Kinds[2])
	}
	inForce(t, jumping(math.MinInt64+1), math.MinInt64, threeKinds()[0])
	inForce(t, jumping(math.MinInt64), math.MinInt64, threeKinds()[2])
	inForce(t, jumping(math.MaxInt64), math.MaxInt64-1, threeKinds()[0])
	inForce(t, jumping(math.MaxInt64), math.MaxInt64, threeKinds()[2])
	inForce(t, jumping(0, math.MaxInt64), math.MaxInt64-1, threeKinds()[2])
}

// TestBehindTheLastJump: from the last jump's own moment on the rule tells, and not that jump.
func TestBehindTheLastJump(t *testing.T) {
	for _, moments := range [][]int64{{1173596400 - 9}, {5, 1173596400 - 9}, {-7, 0, 7, 1173596400 - 9}} {
		bare := jumping(moments...)
		last := bare.Kinds[bare.Jumps[len(moments)-1].Kind]
		ahead := bare.Kinds[0]
		if len(moments) > 1 {
			ahead = bare.Kinds[bare.Jumps[len(moments)-2].Kind]
		}
		one, two := ruledBy(t, bare, "AAA5"), ruledBy(t, bare, "EST5EDT,M3.2.0,M11.1.0")
		for _, z := range []api.Zone{bare, one, two} {
			inForce(t, z, 1173596400-10, ahead)
		}
		for _, at := range []int64{1173596400 - 9, 1173596400 - 8, 1173596400 - 1} {
			inForce(t, bare, at, last)
			inForce(t, one, at, one.Rule.Std)
			inForce(t, two, at, two.Rule.Std)
		}
		for _, at := range []int64{1173596400, 1173596401, 1194155999} {
			inForce(t, bare, at, last)
			inForce(t, one, at, one.Rule.Std)
			inForce(t, two, at, two.Rule.Dst)
		}
		inForce(t, two, 1194156000, two.Rule.Std)
		inForce(t, one, math.MaxInt64, one.Rule.Std)
		inForce(t, bare, math.MaxInt64, last)
	}
	// The rule may change at the very moment of the last jump.
	z := ruledBy(t, jumping(1173596400), "EST5EDT,M3.2.0,M11.1.0")
	inForce(t, z, 1173596399, z.Kinds[0])
	inForce(t, z, 1173596400, z.Rule.Dst)
}

// TestWhereTheRuleTellsNoKind: where a day has no date; a jump's kind needs none.
func TestWhereTheRuleTellsNoKind(t *testing.T) {
	far := []int64{math.MinInt64, -1 << 62, firstSecond - 1, lastSecond + 1, 1 << 62, math.MaxInt64}
	z := ruledBy(t, api.Zone{Kinds: threeKinds()}, "EST5EDT,M3.2.0,M11.1.0")
	inForce(t, z, firstSecond, z.Rule.Std)
	inForce(t, z, lastSecond, z.Rule.Std)
	for _, at := range far {
		noKind(t, "no date", z, at, api.ErrRange)
		noKind(t, "no date", api.Zone{Kinds: z.Kinds, Leaps: rising(3), Rule: z.Rule, Ruled: true}, at, api.ErrRange)
		inForce(t, api.Zone{Kinds: z.Kinds}, at, z.Kinds[0])
	}
	jumped := ruledBy(t, jumping(0), "EST5EDT,M3.2.0,M11.1.0")
	for _, at := range far[:3] {
		inForce(t, jumped, at, jumped.Kinds[0])
	}
	for _, at := range far[3:] {
		noKind(t, "no date behind the last jump", jumped, at, api.ErrRange)
	}
	ends := ruledBy(t, jumping(math.MinInt64, math.MaxInt64), "EST5EDT,M3.2.0,M11.1.0")
	for _, at := range far[:5] {
		inForce(t, ends, at, ends.Kinds[2])
	}
	noKind(t, "no date at the last jump", ends, math.MaxInt64, api.ErrRange)
}

// TestLeapSecondsDoNotMatter: of a zone with leap seconds as of the same without.
func TestLeapSecondsDoNotMatter(t *testing.T) {
	for _, z := range []api.Zone{least(), {Kinds: threeKinds()}, jumping(500), jumping(-7, 999, 1000, 1001, 5000), ruledBy(t, jumping(1500), "AAA5"), ruledBy(t, jumping(1173596400), "EST5EDT,M3.2.0,M11.1.0"), ruledBy(t, least(), "EST5EDT,M3.2.0,M11.1.0")} {
		for _, leaps := range [][]api.Leap{rising(1), rising(27), rising(5000), idle(), {{At: 0, Corr: -1}}, {{At: 1173596395, Corr: 1}}} {
			with := z
			with.Leaps = leaps
			for _, at := range append(moments(z), 1173596399, 1173596400, 1194155999, 1194156000) {
				want, err := expectAt(z, at)
				if k, gotErr := At(with, at); k != want || gotErr != err {
					t.Errorf("%s at %d: %v, %v, not %v, %v", brief(with), at, k, gotErr, want, err)
				}
			}
		}
	}
}

func TestAtOfAnyZone(t *testing.T) {
	random := rand.New(rand.NewSource(1))
	for range 2000 {
		z := anyZone(t, random)
		was := cloneZone(z)
		for range 20 {
			at := int64(random.Intn(120) - 60)
			if random.Intn(4) == 0 {
				at = int64(random.Uint64())
			}
			want, err := expectAt(z, at)
			if k, gotErr := At(z, at); k != want || gotErr != err {
				t.Fatalf("%s at %d: %v, %v, not %v, %v", brief(z), at, k, gotErr, want, err)
			}
		}
		if !same(z, was) {
			t.Fatalf("the zone was changed: %s", brief(z))
		}
	}
}

// TestManyJumps: the last jump is found among as many as there may be.
func TestManyJumps(t *testing.T) {
	z := api.Zone{Kinds: make([]api.Kind, 256)}
	for i := range z.Kinds {
		z.Kinds[i].Off = i
	}
	for i := range 5000 {
		z.Jumps = append(z.Jumps, api.Jump{At: int64(i) * 3, Kind: (i*7 + 1) % 256})
	}
	for i := 0; i < 5000; i += 61 {
		kind := z.Kinds[(i*7+1)%256]
		for d := range int64(3) {
			inForce(t, z, int64(i)*3+d, kind)
		}
	}
	inForce(t, z, -1, z.Kinds[0])
	inForce(t, z, 4999*3+3, z.Kinds[(4999*7+1)%256])
}

// TestKindsAreSeparate: a name that is told shares no memory with the zone's.
func TestKindsAreSeparate(t *testing.T) {
	z := ruledBy(t, jumping(0, 5), "EST5EDT,M3.2.0,M11.1.0")
	names := []string{z.Rule.Std.Name, z.Rule.Dst.Name}
	for _, kind := range z.Kinds {
		names = append(names, kind.Name)
	}
	for _, at := range []int64{-1, 0, 5, 1173596400} {
		k, err := At(z, at)
		if err != api.OK {
			t.Fatal(at, err)
		}
		for _, name := range names {
			if unsafe.StringData(k.Name) == unsafe.StringData(name) {
				t.Errorf("at %d the name %q is the zone's own", at, k.Name)
			}
		}
	}
}
