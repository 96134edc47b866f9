package rule

import (
	"math"
	"math/rand"
	"testing"
	"unsafe"

	"longcase/api"
	"longcase/civil"
)

// The first and the last second whose day has a date.
const (
	firstSecond = -784353015833 * 86400
	lastSecond  = 784351576777*86400 - 1
)

func inForce(t *testing.T, r api.Rule, at int64, want api.Kind) {
	t.Helper()
	if k, err := At(r, at); k != want || err != api.OK {
		t.Errorf("%v at %d: %v, %v, not %v", r, at, k, err, want)
	}
}

func noKind(t *testing.T, why string, r api.Rule, at int64, want api.Errno) {
	t.Helper()
	if k, err := At(r, at); k != (api.Kind{}) || err != want {
		t.Errorf("%s: %v at %d: %v, %v, not %v", why, r, at, k, err, want)
	}
}

// changes asks that one kind is in force a second ahead of a moment, and the other one just then and a second behind.
func changes(t *testing.T, r api.Rule, at int64, from, to api.Kind) {
	t.Helper()
	inForce(t, r, at-1, from)
	inForce(t, r, at, to)
	inForce(t, r, at+1, to)
}

// noon is a moment of a date.
func noon(t *testing.T, year, month, day int) int64 {
	t.Helper()
	return daysOf(t, year, month, day)*86400 + 43200
}

func TestOneKind(t *testing.T) {
	for _, s := range []string{"EST5", "<+0330>-3:30", "UTC0", "AAA24:59:59", "AAA-24:59:59"} {
		r := read(t, s)
		for _, at := range []int64{0, -1, 1, 1173596400, firstSecond, firstSecond - 1, lastSecond, lastSecond + 1, 1 << 62, -1 << 62, math.MinInt64, math.MaxInt64} {
			inForce(t, r, at, r.Std)
		}
	}
}

func TestAtTurns(t *testing.T) {
	est := read(t, "EST5EDT,M3.2.0,M11.1.0")
	changes(t, est, 1173596400, est.Std, est.Dst)
	changes(t, est, 1194156000, est.Dst, est.Std)
	cet := read(t, "CET-1CEST,M3.5.0,M10.5.0/3")
	for _, c := range []struct{ year, on, off int }{
		{2023, 26, 29}, {2024, 31, 27}, {1969, 30, 26}, {1970, 29, 25}, {2000, 26, 29}, {2100, 28, 31}, {1900, 25, 28}, {0, 26, 29}, {-1, 28, 31}, {400, 26, 29},
	} {
		changes(t, cet, daysOf(t, c.year, 3, c.on)*86400+3600, cet.Std, cet.Dst)
		changes(t, cet, daysOf(t, c.year, 10, c.off)*86400+3600, cet.Dst, cet.Std)
	}
	for _, year := range []int{2023, 2024, 0, -1, 1969, 1970, firstYear, firstYear + 1, lastYear - 1, lastYear} {
		for _, r := range []api.Rule{est, cet, read(t, "AAA3BBB,J60/0,J305/0"), read(t, "AAA-3BBB4,60/24,305/1:02:03")} {
			start, end, err := Turns(r, year)
			if err != api.OK {
				t.Fatal(r, year, err)
			}
			changes(t, r, start, r.Std, r.Dst)
			changes(t, r, end, r.Dst, r.Std)
			inForce(t, r, noon(t, year, 1, 1), r.Std)
			inForce(t, r, noon(t, year, 7, 1), r.Dst)
			inForce(t, r, noon(t, year, 12, 31), r.Std)
		}
	}
}

// TestOverNewYear: south of the line Dst goes over the new year.
func TestOverNewYear(t *testing.T) {
	r := read(t, "AAA-10BBB,M10.1.0,M4.1.0/3")
	changes(t, r, 1680364800, r.Dst, r.Std)
	changes(t, r, 1696089600, r.Std, r.Dst)
	for _, year := range []int{2022, 2023, 2024, 1970, 1969, 0, -1, firstYear, firstYear + 1, lastYear - 1, lastYear} {
		start, end, err := Turns(r, year)
		if err != api.OK {
			t.Fatal(year, err)
		}
		changes(t, r, end, r.Dst, r.Std)
		changes(t, r, start, r.Std, r.Dst)
		day := daysOf(t, year, 1, 1) * 86400
		inForce(t, r, day, r.Dst)
		inForce(t, r, noon(t, year, 7, 1), r.Std)
		inForce(t, r, daysOf(t, year, 12, 31)*86400+86399, r.Dst)
		if year != firstYear {
			inForce(t, r, day-1, r.Dst)
		}
	}
}

// TestAtOneMoment: of a start and an end at one moment the start counts.
func TestAtOneMoment(t *testing.T) {
	// Each year both come at one moment.
	r := two(0, 3600, timed(plain(100), 7200), timed(plain(100), 10800))
	for _, year := range []int{2023, 2024, firstYear + 1, lastYear} {
		start, end, err := Turns(r, year)
		if start != end || err != api.OK {
			t.Fatalf("not at one moment: %d, %d, %v", start, end, err)
		}
		changes(t, r, start, r.Dst, r.Dst)
		inForce(t, r, noon(t, year, 1, 1), r.Dst)
		inForce(t, r, noon(t, year, 12, 31), r.Dst)
	}
	// In ordinary years at one moment; in leap years the end is February 29, a day ahead of the start.
	r = two(0, 3600, timed(leapless(60), 0), timed(plain(59), 3600))
	changes(t, r, daysOf(t, 2023, 3, 1)*86400, r.Dst, r.Dst)
	changes(t, r, daysOf(t, 2024, 2, 29)*86400, r.Dst, r.Std)
	changes(t, r, daysOf(t, 2024, 3, 1)*86400, r.Std, r.Dst)
	// The end of a year and the start of the next one at one moment, and no end between.
	r = read(t, "AAA5BBB,0/0,J365/25")
	for _, year := range []int{2023, 2024, 0, lastYear} {
		changes(t, r, daysOf(t, year, 1, 1)*86400+18000, r.Dst, r.Dst)
		inForce(t, r, noon(t, year, 7, 1), r.Dst)
		inForce(t, r, noon(t, year, 12, 31), r.Dst)
	}
	// The start of a year and the end of the next one at one moment: ahead of it the start that came with the last end is of a year that is not asked any more.
	r = read(t, "AAA5BBB,J365/24,0/1")
	changes(t, r, daysOf(t, 2024, 1, 1)*86400+18000, r.Std, r.Dst)
	inForce(t, r, daysOf(t, 2023, 12, 31)*86400+86399, r.Dst)
	inForce(t, r, daysOf(t, 2024, 1, 1)*86400, r.Std)
	inForce(t, r, noon(t, 2023, 7, 1), r.Dst)
}

// TestTurnsOutsideTheYear: by their times and offsets turns lie in the year ahead or behind.
func TestTurnsOutsideTheYear(t *testing.T) {
	newYear := daysOf(t, 2024, 1, 1) * 86400
	for _, c := range []struct {
		why   string
		r     api.Rule
		at    int64
		toDst bool
	}{
		{"a start ahead by its time", two(0, 3600, timed(plain(0), -604799), leapless(182)), newYear - 604799, true},
		{"an end ahead by its time", two(0, 3600, leapless(182), timed(plain(0), -604799)), newYear - 604799 - 3600, false},
		{"a start behind by its time", two(0, 3600, timed(leapless(365), 604799), leapless(182)), newYear - 86400 + 604799, true},
		{"an end behind by its time", two(0, 3600, leapless(182), timed(leapless(365), 604799)), newYear - 86400 + 604799 - 3600, false},
		{"a start ahead by the offset", two(43200, 46800, timed(plain(0), 0), leapless(182)), newYear - 43200, true},
		{"an end ahead by the offset", two(43200, 46800, leapless(182), timed(plain(0), 0)), newYear - 46800, false},
		{"a start behind by the offset", two(-43200, -39600, timed(leapless(365), 86400), leapless(182)), newYear + 43200, true},
		{"an end behind by the offset", two(-43200, -39600, leapless(182), timed(leapless(365), 86400)), newYear + 39600, false},
		{"a start behind by its day", two(0, 3600, timed(plain(365), 0), leapless(182)), newYear, true},
		{"as far ahead as can be", two(89999, 89999, timed(plain(0), -604799), leapless(182)), newYear - 604799 - 89999, true},
		{"as far behind as can be", two(-89999, -89999, leapless(182), timed(plain(365), 604799)), newYear + 604799 + 89999, false},
	} {
		t.Run(c.why, func(t *testing.T) { changes(t, c.r, c.at, kindOf(c.r, !c.toDst), kindOf(c.r, c.toDst)) })
	}
}

// TestAheadOfAll: at the least year there is no turn ahead of its first one.
func TestAheadOfAll(t *testing.T) {
	for _, c := range []struct {
		why   string
		r     api.Rule
		inDst bool
	}{
		{"a start is the first", read(t, "EST5EDT,M3.2.0,M11.1.0"), false},
		{"an end is the first", read(t, "AAA-10BBB,M10.1.0,M4.1.0/3"), true},
		{"a start and an end are the first", two(0, 3600, timed(plain(100), 7200), timed(plain(100), 10800)), false},
		{"a start is the first by a second", two(0, 3600, timed(plain(100), 7199), timed(plain(100), 10800)), false},
		{"an end is the first by a second", two(0, 3600, timed(plain(100), 7201), timed(plain(100), 10800)), true},
		{"the year ahead would end in this one", two(0, 3600, leapless(182), timed(leapless(365), 604799)), false},
		{"the year ahead would start in this one", two(0, 3600, timed(leapless(365), 604799), leapless(182)), true},
	} {
		start, end, err := Turns(c.r, firstYear)
		if err != api.OK {
			t.Fatal(c.why, err)
		}
		t.Run(c.why, func(t *testing.T) {
			for _, at := range []int64{firstSecond, firstSecond + 1, firstSecond + 86400, min(start, end) - 1} {
				inForce(t, c.r, at, kindOf(c.r, c.inDst))
			}
		})
	}
	r := two(0, 3600, timed(plain(0), 0), leapless(182))
	inForce(t, r, firstSecond, r.Dst)
	r = two(0, 3600, timed(plain(0), 1), leapless(182))
	inForce(t, r, firstSecond, r.Std)
	inForce(t, r, firstSecond+1, r.Dst)
}

// TestAheadOfLateTurns: where both turns of the year ahead lie in this one, its beginning is ahead of all that are asked.
func TestAheadOfLateTurns(t *testing.T) {
	day := daysOf(t, 2024, 1, 1) * 86400
	late := timed(leapless(365), 600000)
	for _, c := range []struct {
		time          int
		ahead, behind bool
	}{{603599, true, true}, {603600, false, true}, {603601, false, false}} {
		r := two(0, 3600, late, timed(late, c.time))
		for _, at := range []int64{day, day + 1, day + 400000, day - 86400 + 599998} {
			inForce(t, r, at, kindOf(r, c.ahead))
		}
		inForce(t, r, day-86400+600001, kindOf(r, c.behind))
	}
}

// TestNoYearBehind: at MaxYear no turn of a year behind it counts.
func TestNoYearBehind(t *testing.T) {
	r := two(0, 3600, timed(plain(0), -604799), leapless(182))
	inForce(t, r, noon(t, lastYear-1, 12, 31), r.Dst)
	inForce(t, r, noon(t, lastYear, 1, 1), r.Dst)
	inForce(t, r, noon(t, lastYear, 12, 31), r.Std)
	inForce(t, r, lastSecond, r.Std)
	r = two(0, 3600, leapless(182), timed(plain(0), -604799))
	inForce(t, r, noon(t, lastYear-1, 12, 31), r.Std)
	inForce(t, r, noon(t, lastYear, 12, 31), r.Dst)
	inForce(t, r, lastSecond, r.Dst)
}

func TestRulesThatAreNotRight(t *testing.T) {
	for why, r := range wrongRules() {
		for _, at := range []int64{0, -1, 1173596400, firstSecond, lastSecond, firstSecond - 1, lastSecond + 1, math.MinInt64, math.MaxInt64} {
			noKind(t, why, r, at, api.ErrArg)
		}
	}
}

// TestWideRules: a rule that is right in the wide form alone is right.
func TestWideRules(t *testing.T) {
	r := read(t, "AAA2BBB,M3.5.0/-2,M10.5.0/-1")
	changes(t, r, daysOf(t, 2023, 3, 26)*86400, r.Std, r.Dst)
	changes(t, r, daysOf(t, 2023, 10, 29)*86400, r.Dst, r.Std)
}

func TestMomentsWithoutDate(t *testing.T) {
	for _, s := range []string{"EST5EDT,M3.2.0,M11.1.0", "AAA-10BBB,M10.1.0,M4.1.0/3", "AAA24:59:59BBB,0/-167,J365/167", "AAA-24:59:59BBB24,J365/167,0/-167"} {
		r := read(t, s)
		for _, at := range []int64{firstSecond - 1, firstSecond - 2, firstSecond - 86400, firstSecond - 604800, lastSecond + 1, lastSecond + 2, lastSecond + 86400, lastSecond + 604800, 1 << 62, -1 << 62, math.MaxInt64, math.MinInt64} {
			noKind(t, "no date", r, at, api.ErrRange)
		}
		for _, at := range []int64{firstSecond, lastSecond} {
			if k, err := At(r, at); k != r.Std && k != r.Dst || err != api.OK {
				t.Errorf("%s at %d: %v, %v", s, at, k, err)
			}
		}
	}
}

// TestAgainstTurns holds At against all turns of three years, for rules by chance, at moments round the turns and by chance.
func TestAgainstTurns(t *testing.T) {
	chance := rand.New(rand.NewSource(9))
	for range 1500 {
		r := anyRule(chance)
		year := []int{2023, 2024, 2000, 0, -1, 1970, firstYear, firstYear + 1, lastYear - 1, lastYear}[chance.Intn(10)]
		first, last := daysOf(t, year, 1, 1)*86400, daysOf(t, year, 12, 31)*86400+86399
		all := turnsAbout(t, r, year)
		moments := []int64{first, last, first + chance.Int63n(last-first), first + chance.Int63n(900000), last - chance.Int63n(900000)}
		for _, u := range all {
			moments = append(moments, u.at-1, u.at, u.at+1)
		}
		for _, at := range moments {
			if at >= first && at <= last {
				inForce(t, r, at, expectAt(r, all, at))
			}
		}
	}
}

// TestBehindEachStart: one is in the kind Dst.
func TestBehindEachStart(t *testing.T) {
	chance := rand.New(rand.NewSource(10))
	for range 3000 {
		r := anyRule(chance)
		year := 1900 + chance.Intn(300)
		start, _, err := Turns(r, year)
		if err != api.OK {
			t.Fatal(r, err)
		}
		inForce(t, r, start, r.Dst)
	}
}

// anyRule has often both changes on neighbouring days, and times and offsets that are great.
func anyRule(chance *rand.Rand) api.Rule {
	off := func() int { return []int{0, 3600, -3600, 89999, -89999, chance.Intn(179999) - 89999}[chance.Intn(6)] }
	return two(off(), off(), anyChange(chance), anyChange(chance))
}

func anyChange(chance *rand.Rand) api.Change {
	n := []int{chance.Intn(366), 364 + chance.Intn(2), chance.Intn(3), 58 + chance.Intn(3)}[chance.Intn(4)]
	c := []api.Change{plain(n), leapless(max(n, 1)), inMonth(1+chance.Intn(12), 1+chance.Intn(5), chance.Intn(7))}[chance.Intn(3)]
	return timed(c, []int{0, 7200, 86400, 604799, -604799, chance.Intn(1209599) - 604799}[chance.Intn(6)])
}

// TestNamesAreOwn: the kind that is told shares no memory with the rule.
func TestNamesAreOwn(t *testing.T) {
	both := read(t, "EST5EDT,M3.2.0,M11.1.0")
	for _, c := range []struct {
		r    api.Rule
		at   int64
		name string
	}{{read(t, "EST5"), 0, "EST"}, {both, 0, "EST"}, {both, 1173596400, "EDT"}} {
		k, _ := At(c.r, c.at)
		if k.Name != c.name {
			t.Errorf("%q, not %q", k.Name, c.name)
			continue
		}
		if own := unsafe.StringData(k.Name); own == unsafe.StringData(c.r.Std.Name) || own == unsafe.StringData(c.r.Dst.Name) {
			t.Errorf("%s: the name is the rule's", c.name)
		}
	}
}

// TestSecondsAtTheEnds: the constants of these tests are chapter 2's ends.
func TestSecondsAtTheEnds(t *testing.T) {
	for _, c := range []struct {
		day  int64
		year int
	}{{firstSecond / 86400, firstYear}, {(lastSecond+1)/86400 - 1, lastYear}} {
		if year, _, _, err := civil.Date(c.day); year != c.year || err != api.OK {
			t.Errorf("%d: %d, %v", c.day, year, err)
		}
	}
}
