package local

import (
	"math"
	"math/rand"
	"testing"
	"unsafe"

	"longcase/api"
	"longcase/clock"
)

func shows(t *testing.T, z api.Zone, at int64, text string, want api.Kind) {
	t.Helper()
	if c, k, err := Local(z, at); clock.Text(c) != text || k != want || err != api.OK {
		t.Errorf("%s at %d: %q, %v, %v, not %q, %v", brief(z), at, clock.Text(c), k, err, text, want)
	}
}

func showsNothing(t *testing.T, why string, z api.Zone, at int64, want api.Errno) {
	t.Helper()
	if c, k, err := Local(z, at); c != (api.Civil{}) || k != (api.Kind{}) || err != want {
		t.Errorf("%s: at %d: %v, %v, %v, not %v: %s", why, at, c, k, err, want, brief(z))
	}
}

// TestOffsetsOfEachSort: with and without a sign, by hours, minutes and seconds, up to the greatest.
func TestOffsetsOfEachSort(t *testing.T) {
	for _, c := range []struct {
		off  int
		at   int64
		text string
	}{
		{0, 0, "1970-01-01 00:00:00"}, {0, -1, "1969-12-31 23:59:59"}, {0, 951782400, "2000-02-29 00:00:00"},
		{1, 0, "1970-01-01 00:00:01"}, {1, -1, "1970-01-01 00:00:00"}, {1, -2, "1969-12-31 23:59:59"},
		{-1, 0, "1969-12-31 23:59:59"}, {-1, 1, "1970-01-01 00:00:00"},
		{3600, 82799, "1970-01-01 23:59:59"}, {3600, 82800, "1970-01-02 00:00:00"},
		{-18000, 0, "1969-12-31 19:00:00"}, {-18000, 18000, "1970-01-01 00:00:00"},
		{20700, 0, "1970-01-01 05:45:00"}, {-12600, 0, "1969-12-31 20:30:00"},
		{3208, 0, "1970-01-01 00:53:28"}, {-17762, 0, "1969-12-31 19:03:58"}, {-17762, 17761, "1969-12-31 23:59:59"},
		{-26632, 1709251199, "2024-02-29 16:36:07"}, {53377, 1709164800, "2024-02-29 14:49:37"},
		{86400, 951696000, "2000-02-29 00:00:00"}, {-86400, -1, "1969-12-30 23:59:59"},
		{api.MaxOff, 0, "2038-01-19 03:14:07"}, {api.MaxOff, -api.MaxOff, "1970-01-01 00:00:00"},
		{-api.MaxOff, 0, "1901-12-13 20:45:53"}, {-api.MaxOff, api.MaxOff - 1, "1969-12-31 23:59:59"},
	} {
		z := api.Zone{Kinds: []api.Kind{{Off: c.off, Dst: c.off%2 == 0, Name: "LMT"}}}
		shows(t, z, c.at, c.text, z.Kinds[0])
	}
}

// TestJumps: a second ahead of, at and behind the jumps of a zone, forward and back.
func TestJumps(t *testing.T) {
	z := berlin()
	cet, cest := z.Kinds[0], z.Kinds[1]
	shows(t, z, 1174784398, "2007-03-25 01:59:58", cet)
	shows(t, z, 1174784399, "2007-03-25 01:59:59", cet)
	shows(t, z, 1174784400, "2007-03-25 03:00:00", cest)
	shows(t, z, 1174784401, "2007-03-25 03:00:01", cest)
	shows(t, z, 1193529599, "2007-10-28 01:59:59", cest)
	shows(t, z, 1193529600, "2007-10-28 02:00:00", cest)
	shows(t, z, 1193529601, "2007-10-28 02:00:01", cest)
	shows(t, z, 1193533199, "2007-10-28 02:59:59", cest)
	shows(t, z, 1193533200, "2007-10-28 02:00:00", cet)
	shows(t, z, 1193533201, "2007-10-28 02:00:01", cet)
	shows(t, z, 1193536799, "2007-10-28 02:59:59", cet)
	shows(t, z, 1193536800, "2007-10-28 03:00:00", cet)
	shows(t, z, 0, "1970-01-01 01:00:00", cet)
	shows(t, z, 1<<40, "36812-02-20 01:36:16", cet)
}

// TestOddJumps: by seconds, by a day and more, and two that follow each other at once.
func TestOddJumps(t *testing.T) {
	z := api.Zone{
		Kinds: []api.Kind{{Off: -17762, Name: "LMT"}, {Off: -18000, Name: "EST"}, {Off: 86400 - 18000, Name: "FAR"}, {Off: -18000, Dst: true, Name: "EST"}},
		Jumps: []api.Jump{{At: -2717650800, Kind: 1}, {At: 0, Kind: 2}, {At: 1, Kind: 1}, {At: 2, Kind: 3}, {At: 1000, Kind: 3}},
	}
	shows(t, z, -2717650801, "1883-11-18 12:03:57", z.Kinds[0])
	shows(t, z, -2717650800, "1883-11-18 12:00:00", z.Kinds[1])
	shows(t, z, -2717650799, "1883-11-18 12:00:01", z.Kinds[1])
	shows(t, z, -1, "1969-12-31 18:59:59", z.Kinds[1])
	shows(t, z, 0, "1970-01-01 19:00:00", z.Kinds[2])
	shows(t, z, 1, "1969-12-31 19:00:01", z.Kinds[1])
	shows(t, z, 2, "1969-12-31 19:00:02", z.Kinds[3])
	shows(t, z, 999, "1969-12-31 19:16:39", z.Kinds[3])
	shows(t, z, 1000, "1969-12-31 19:16:40", z.Kinds[3])
}

// TestRules: round the changes of rules to the north and to the south, by an hour and by half of one, forward first or back.
func TestRules(t *testing.T) {
	for _, c := range []struct {
		text string
		at   int64
		show string
		dst  bool
	}{
		{"EST5EDT,M3.2.0,M11.1.0", 1173596399, "2007-03-11 01:59:59", false},
		{"EST5EDT,M3.2.0,M11.1.0", 1173596400, "2007-03-11 03:00:00", true},
		{"EST5EDT,M3.2.0,M11.1.0", 1173596401, "2007-03-11 03:00:01", true},
		{"EST5EDT,M3.2.0,M11.1.0", 1194152400, "2007-11-04 01:00:00", true},
		{"EST5EDT,M3.2.0,M11.1.0", 1194155999, "2007-11-04 01:59:59", true},
		{"EST5EDT,M3.2.0,M11.1.0", 1194156000, "2007-11-04 01:00:00", false},
		{"EST5EDT,M3.2.0,M11.1.0", 1194156001, "2007-11-04 01:00:01", false},
		{"EST5EDT,M3.2.0,M11.1.0", 1194159599, "2007-11-04 01:59:59", false},
		{"AEST-10AEDT,M10.1.0,M4.1.0/3", 1712419199, "2024-04-07 02:59:59", true},
		{"AEST-10AEDT,M10.1.0,M4.1.0/3", 1712419200, "2024-04-07 02:00:00", false},
		{"AEST-10AEDT,M10.1.0,M4.1.0/3", 1712419201, "2024-04-07 02:00:01", false},
		{"AEST-10AEDT,M10.1.0,M4.1.0/3", 1728143999, "2024-10-06 01:59:59", false},
		{"AEST-10AEDT,M10.1.0,M4.1.0/3", 1728144000, "2024-10-06 03:00:00", true},
		{"<+1030>-10:30<+11>-11,M10.1.0,M4.1.0", 1712415599, "2024-04-07 01:59:59", true},
		{"<+1030>-10:30<+11>-11,M10.1.0,M4.1.0", 1712415600, "2024-04-07 01:30:00", false},
		{"<+1030>-10:30<+11>-11,M10.1.0,M4.1.0", 1728142199, "2024-10-06 01:59:59", false},
		{"<+1030>-10:30<+11>-11,M10.1.0,M4.1.0", 1728142200, "2024-10-06 02:30:00", true},
		{"IST-1GMT0,M10.5.0,M3.5.0/1", 1711846799, "2024-03-31 00:59:59", true},
		{"IST-1GMT0,M10.5.0,M3.5.0/1", 1711846800, "2024-03-31 02:00:00", false},
		{"IST-1GMT0,M10.5.0,M3.5.0/1", 1729990799, "2024-10-27 01:59:59", false},
		{"IST-1GMT0,M10.5.0,M3.5.0/1", 1729990800, "2024-10-27 01:00:00", true},
		{"AAA0:00:01BBB0:00:03,J60/0,J61/0", 1709251200, "2024-02-29 23:59:59", false},
		{"AAA0:00:01BBB0:00:03,J60/0,J61/0", 1709251201, "2024-02-29 23:59:58", true},
		{"AAA0:00:01BBB0:00:03,J60/0,J61/0", 1709337602, "2024-03-01 23:59:59", true},
		{"AAA0:00:01BBB0:00:03,J60/0,J61/0", 1709337603, "2024-03-02 00:00:02", false},
		{"UTC0", 0, "1970-01-01 00:00:00", false},
		{"<+0330>-3:30", 0, "1970-01-01 03:30:00", false},
		{"AAA24:59:59", 0, "1969-12-30 23:00:01", false},
	} {
		z := ruledBy(t, ahead(77), c.text)
		kind := z.Rule.Std
		if c.dst {
			kind = z.Rule.Dst
		}
		shows(t, z, c.at, c.show, kind)
		z.Jumps = []api.Jump{{At: c.at}}
		shows(t, z, c.at, c.show, kind)
		z.Jumps = []api.Jump{{At: c.at + 1}}
		first, _, _ := Local(ahead(77), c.at)
		shows(t, z, c.at, clock.Text(first), z.Kinds[0])
	}
}

// TestErrorsOfAt: they are handed on, of a zone that is not right ahead of what does not fit.
func TestErrorsOfAt(t *testing.T) {
	for why, z := range wrongs(t) {
		for _, at := range []int64{math.MinInt64, firstSecond - 1, firstSecond, -1, 0, 1, lastSecond, lastSecond + 1, math.MaxInt64} {
			showsNothing(t, why, z, at, api.ErrArg)
		}
	}
	// Where the offset would lead back among the seconds with a civil time, but the rule tells no kind.
	west, east := ruledBy(t, ahead(0), "AAA5BBB,M3.2.0,M11.1.0"), ruledBy(t, ahead(0), "AAA-5BBB,M3.2.0,M11.1.0")
	shows(t, west, lastSecond, "2147483647-12-31 18:59:59", west.Rule.Std)
	showsNothing(t, "the rule's range", west, lastSecond+1, api.ErrRange)
	shows(t, east, firstSecond, "-2147483648-01-01 05:00:00", east.Rule.Std)
	showsNothing(t, "the rule's range", east, firstSecond-1, api.ErrRange)
	for _, at := range []int64{math.MinInt64, math.MaxInt64} {
		showsNothing(t, "the rule's range", west, at, api.ErrRange)
		showsNothing(t, "the rule's range", east, at, api.ErrRange)
	}
}

// TestEnds: the first and the last second at which something is shown, by kinds, by jumps and by rules.
func TestEnds(t *testing.T) {
	for _, off := range []int{0, 1, -1, 5, -5, 3600, -18000, 86400, -86401, api.MaxOff, -api.MaxOff} {
		bare := ahead(off)
		jumped := api.Zone{Kinds: ahead(1<<20, off).Kinds, Jumps: []api.Jump{{At: math.MinInt64, Kind: 1}}}
		for _, z := range []api.Zone{bare, jumped} {
			shift := int64(off)
			showsNothing(t, "ahead of the first civil time", z, firstSecond-shift-1, api.ErrRange)
			shows(t, z, firstSecond-shift, "-2147483648-01-01 00:00:00", api.Kind{Off: off})
			shows(t, z, firstSecond-shift+1, "-2147483648-01-01 00:00:01", api.Kind{Off: off})
			shows(t, z, lastSecond-shift-1, "2147483647-12-31 23:59:58", api.Kind{Off: off})
			shows(t, z, lastSecond-shift, "2147483647-12-31 23:59:59", api.Kind{Off: off})
			showsNothing(t, "behind the last civil time", z, lastSecond-shift+1, api.ErrRange)
		}
	}
	for _, text := range []string{"AAA5", "AAA-5", "AAA24:59:59", "AAA-24:59:59", "AAA0"} {
		z := ruledBy(t, ahead(1<<20), text)
		shift := int64(z.Rule.Std.Off)
		showsNothing(t, text, z, firstSecond-shift-1, api.ErrRange)
		shows(t, z, firstSecond-shift, "-2147483648-01-01 00:00:00", z.Rule.Std)
		shows(t, z, lastSecond-shift, "2147483647-12-31 23:59:59", z.Rule.Std)
		showsNothing(t, text, z, lastSecond-shift+1, api.ErrRange)
	}
	west, east := ruledBy(t, ahead(0), "AAA5BBB,M3.2.0,M11.1.0"), ruledBy(t, ahead(0), "AAA-5BBB,M3.2.0,M11.1.0")
	showsNothing(t, "to the west", west, firstSecond+17999, api.ErrRange)
	shows(t, west, firstSecond+18000, "-2147483648-01-01 00:00:00", west.Rule.Std)
	shows(t, east, lastSecond-18000, "2147483647-12-31 23:59:59", east.Rule.Std)
	showsNothing(t, "to the east", east, lastSecond-17999, api.ErrRange)
}

// TestNoFit: where the sum itself is none, and a second inside of that, where it has no civil time.
func TestNoFit(t *testing.T) {
	for _, off := range []int64{1, 2, 3600, 1 << 31 / 2, api.MaxOff} {
		east, west := ahead(int(off)), ahead(int(-off))
		for d := int64(-2); d <= 0; d++ {
			showsNothing(t, "the greatest sum", east, math.MaxInt64-off-d, api.ErrRange)
			showsNothing(t, "the least sum", west, math.MinInt64+off+d, api.ErrRange)
		}
		showsNothing(t, "no sum", east, math.MaxInt64-off+1, api.ErrRange)
		showsNothing(t, "no sum", east, math.MaxInt64, api.ErrRange)
		showsNothing(t, "no sum", west, math.MinInt64+off-1, api.ErrRange)
		showsNothing(t, "no sum", west, math.MinInt64, api.ErrRange)
	}
	for _, at := range []int64{math.MinInt64, math.MinInt64 + 1, math.MaxInt64 - 1, math.MaxInt64} {
		showsNothing(t, "no offset", ahead(0), at, api.ErrRange)
	}
}

func TestLocalOfAnyZone(t *testing.T) {
	random := rand.New(rand.NewSource(11))
	for range 2000 {
		z := anyZone(t, random)
		was := cloneZone(z)
		for range 20 {
			at := anyMoment(random)
			wantCivil, wantKind, want := expect(z, at)
			if c, k, err := Local(z, at); c != wantCivil || k != wantKind || err != want {
				t.Fatalf("%s at %d: %v, %v, %v, not %v, %v, %v", brief(z), at, c, k, err, wantCivil, wantKind, want)
			}
		}
		if !same(z, was) {
			t.Fatalf("the zone was changed: %s", brief(z))
		}
	}
}

// anyMoment is near 0, near an end, in our days, or anywhere.
func anyMoment(random *rand.Rand) int64 {
	near := int64(random.Intn(120) - 60)
	switch random.Intn(6) {
	case 0:
		return firstSecond + near*60
	case 1:
		return lastSecond + near*60
	case 2:
		return random.Int63n(1 << 33)
	case 3:
		return int64(random.Uint64())
	case 4:
		return int64(random.Uint64()) >> 7
	}
	return near
}

// TestKindsAreSeparate: a name that is told shares no memory with the zone's.
func TestKindsAreSeparate(t *testing.T) {
	z := ruledBy(t, berlin(), "EST5EDT,M3.2.0,M11.1.0")
	names := []string{z.Kinds[0].Name, z.Kinds[1].Name, z.Rule.Std.Name, z.Rule.Dst.Name}
	for _, at := range []int64{0, 1174784400, 1193533200, 1205046000} {
		_, k, err := Local(z, at)
		_, other, otherErr := Float(z, float64(at)+0.5)
		if err != api.OK || otherErr != api.OK || k != other || k.Name == "" {
			t.Fatal(at, err, otherErr, k, other)
		}
		for _, name := range names {
			if unsafe.StringData(k.Name) == unsafe.StringData(name) || unsafe.StringData(other.Name) == unsafe.StringData(name) {
				t.Errorf("at %d the name %q is the zone's own", at, k.Name)
			}
		}
	}
}
