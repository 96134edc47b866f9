package rule

import (
	"math"
	"testing"

	"longcase/api"
	"longcase/posix"
)

const (
	firstYear = -1 << 31
	lastYear  = 1<<31 - 1
)

// The three ways of a change, at two o'clock: by the day, February 29 not counted; by days behind the first; by month, week and weekday.

func leapless(n int) api.Change {
	return api.Change{How: api.DayJulian, N: n, Time: 7200}
}

func plain(n int) api.Change {
	return api.Change{How: api.DayPlain, N: n, Time: 7200}
}

func inMonth(month, week, weekday int) api.Change {
	return api.Change{How: api.DayWeek, N: month, Week: week, Weekday: weekday, Time: 7200}
}

func timed(c api.Change, time int) api.Change {
	c.Time = time
	return c
}

// two is a rule of two kinds, by the names STA and DAY.
func two(std, dst int, start, end api.Change) api.Rule {
	return api.Rule{
		Std: api.Kind{Off: std, Name: "STA"}, Dst: api.Kind{Off: dst, Dst: true, Name: "DAY"},
		Both: true, Start: start, End: end,
	}
}

// kindOf is the second kind of a rule, or the first one.
func kindOf(r api.Rule, dst bool) api.Kind {
	if dst {
		return r.Dst
	}
	return r.Std
}

// read is the rule of a text in the wide form.
func read(t *testing.T, s string) api.Rule {
	t.Helper()
	r, err := posix.Parse(s, true)
	if err != api.OK {
		t.Fatalf("no rule: %q", s)
	}
	return r
}

// falls asks that a change falls in this year on this date.
func falls(t *testing.T, year int, c api.Change, month, day int) {
	t.Helper()
	fallsOn(t, year, c, daysOf(t, year, month, day))
}

func fallsOn(t *testing.T, year int, c api.Change, want int64) {
	t.Helper()
	if n, err := Day(year, c); n != want || err != api.OK {
		t.Errorf("%v in %d: %d, %v, not %d", c, year, n, err, want)
	}
}

// refused asks for ErrArg and 0.
func refused(t *testing.T, year int, c api.Change) {
	t.Helper()
	if n, err := Day(year, c); n != 0 || err != api.ErrArg {
		t.Errorf("%v in %d: %d, %v", c, year, n, err)
	}
}

func turnAt(t *testing.T, r api.Rule, year int, start, end int64) {
	t.Helper()
	if a, b, err := Turns(r, year); a != start || b != end || err != api.OK {
		t.Errorf("%v in %d: %d, %d, %v, not %d, %d", r, year, a, b, err, start, end)
	}
}

func noTurns(t *testing.T, why string, r api.Rule, year int) {
	t.Helper()
	if a, b, err := Turns(r, year); a != 0 || b != 0 || err != api.ErrArg {
		t.Errorf("%s: %v in %d: %d, %d, %v", why, r, year, a, b, err)
	}
}

// Years that are leap years, and that are none, with each cause of it.
var (
	leapYears   = []int{2024, 1972, 4, 0, -4, 2000, 1600, -400, firstYear, lastYear - 3}
	commonYears = []int{2023, 2025, 1970, 1, -1, 1900, 2100, -100, firstYear + 1, lastYear}
)

func TestOrdinaryDays(t *testing.T) {
	for _, c := range []struct {
		year       int
		c          api.Change
		month, day int
	}{
		{2023, leapless(1), 1, 1}, {2024, leapless(1), 1, 1}, {2023, leapless(32), 2, 1}, {2024, leapless(32), 2, 1},
		{2023, leapless(100), 4, 10}, {2024, leapless(100), 4, 10}, {2023, leapless(304), 10, 31}, {2024, leapless(304), 10, 31},
		{2023, plain(31), 2, 1}, {2024, plain(31), 2, 1}, {2023, plain(100), 4, 11}, {2024, plain(100), 4, 10},
		{2023, plain(303), 10, 31}, {2024, plain(303), 10, 30},
		{2023, inMonth(3, 2, 0), 3, 12}, {2024, inMonth(3, 2, 0), 3, 10}, {2023, inMonth(11, 1, 0), 11, 5}, {2024, inMonth(11, 1, 0), 11, 3},
		{2023, inMonth(3, 5, 0), 3, 26}, {2024, inMonth(3, 5, 0), 3, 31}, {2023, inMonth(10, 4, 4), 10, 26}, {2024, inMonth(10, 4, 4), 10, 24},
		{1969, inMonth(7, 3, 2), 7, 15}, {1968, inMonth(7, 3, 2), 7, 16}, {0, inMonth(1, 1, 6), 1, 1}, {-1, inMonth(12, 5, 5), 12, 31},
	} {
		falls(t, c.year, c.c, c.month, c.day)
	}
	// As numbers, by the calendar of anybody.
	fallsOn(t, 1970, leapless(1), 0)
	fallsOn(t, 1969, plain(364), -1)
	fallsOn(t, 2000, leapless(60), 11017)
	fallsOn(t, 2007, inMonth(3, 2, 0), 13583)
}

// TestDayKeepsToDate: the time of a change is not part of its day.
func TestDayKeepsToDate(t *testing.T) {
	for _, time := range []int{0, 1, 7200, 86399, 86400, 604799, -1, -86400, -604799} {
		falls(t, 2023, timed(leapless(100), time), 4, 10)
		falls(t, 2023, timed(plain(100), time), 4, 11)
		falls(t, 2023, timed(inMonth(3, 2, 0), time), 3, 12)
	}
}

func TestYearEdges(t *testing.T) {
	for _, year := range []int{firstYear, firstYear + 1, lastYear - 1, lastYear} {
		falls(t, year, leapless(1), 1, 1)
		falls(t, year, leapless(365), 12, 31)
		falls(t, year, plain(0), 1, 1)
		falls(t, year, inMonth(1, 1, weekdayOf(t, year, 1, 1)), 1, 1)
		falls(t, year, inMonth(12, 5, weekdayOf(t, year, 12, 31)), 12, 31)
	}
	fallsOn(t, firstYear, plain(0), -784353015833)
	fallsOn(t, lastYear, plain(364), 784351576776)
	// The day behind the last one has no date, and yet a number.
	fallsOn(t, lastYear, plain(365), 784351576777)
	for _, year := range []int{firstYear - 1, lastYear + 1, math.MinInt64, math.MaxInt64} {
		for _, c := range []api.Change{leapless(1), plain(0), inMonth(3, 2, 0), {}} {
			refused(t, year, c)
		}
	}
}

func weekdayOf(t *testing.T, year, month, day int) int {
	t.Helper()
	left := int((daysOf(t, year, month, day) + 4) % 7)
	return (left + 7) % 7
}

func TestJulianEdges(t *testing.T) {
	for _, years := range [][]int{leapYears, commonYears} {
		for _, year := range years {
			falls(t, year, leapless(1), 1, 1)
			falls(t, year, leapless(2), 1, 2)
			falls(t, year, leapless(58), 2, 27)
			falls(t, year, leapless(59), 2, 28)
			falls(t, year, leapless(60), 3, 1)
			falls(t, year, leapless(61), 3, 2)
			falls(t, year, leapless(364), 12, 30)
			falls(t, year, leapless(365), 12, 31)
			refused(t, year, leapless(0))
			refused(t, year, leapless(366))
		}
	}
}

func TestPlainEdges(t *testing.T) {
	for _, year := range leapYears {
		falls(t, year, plain(58), 2, 28)
		falls(t, year, plain(59), 2, 29)
		falls(t, year, plain(60), 3, 1)
		falls(t, year, plain(364), 12, 30)
		falls(t, year, plain(365), 12, 31)
	}
	for _, year := range commonYears {
		falls(t, year, plain(58), 2, 28)
		falls(t, year, plain(59), 3, 1)
		falls(t, year, plain(60), 3, 2)
		falls(t, year, plain(364), 12, 31)
		fallsOn(t, year, plain(365), daysOf(t, year, 12, 31)+1)
		if year < lastYear {
			falls(t, year+1, plain(0), 1, 1)
			fallsOn(t, year, plain(365), daysOf(t, year+1, 1, 1))
		}
	}
	for _, years := range [][]int{leapYears, commonYears} {
		for _, year := range years {
			falls(t, year, plain(0), 1, 1)
			falls(t, year, plain(1), 1, 2)
			refused(t, year, plain(-1))
			refused(t, year, plain(366))
		}
	}
}

func TestWeekEdges(t *testing.T) {
	for _, c := range []struct {
		year       int
		c          api.Change
		month, day int
	}{
		// The first and the last month, week and weekday (January 1, 2023 is a Sunday, December 31 too).
		{2023, inMonth(1, 1, 0), 1, 1}, {2023, inMonth(1, 1, 6), 1, 7}, {2023, inMonth(1, 5, 0), 1, 29}, {2023, inMonth(1, 5, 6), 1, 28},
		{2023, inMonth(12, 1, 0), 12, 3}, {2023, inMonth(12, 1, 6), 12, 2}, {2023, inMonth(12, 5, 0), 12, 31}, {2023, inMonth(12, 5, 6), 12, 30},
		{2023, inMonth(2, 1, 0), 2, 5}, {2023, inMonth(11, 5, 6), 11, 25}, {2023, inMonth(1, 4, 6), 1, 28}, {2023, inMonth(1, 2, 6), 1, 14},
		// A month that begins with the weekday, one behind it, one ahead of it (October 1, 2023 is a Sunday).
		{2023, inMonth(10, 1, 0), 10, 1}, {2023, inMonth(10, 1, 1), 10, 2}, {2023, inMonth(10, 1, 6), 10, 7},
		{2023, inMonth(10, 2, 0), 10, 8}, {2023, inMonth(10, 4, 0), 10, 22}, {2023, inMonth(10, 5, 0), 10, 29},
		// The fifth: the last weekdays of which there is one, and those of which there is none, in months of each length.
		{2023, inMonth(10, 5, 1), 10, 30}, {2023, inMonth(10, 5, 2), 10, 31}, {2023, inMonth(10, 5, 3), 10, 25}, {2023, inMonth(10, 4, 3), 10, 25},
		{2023, inMonth(4, 5, 6), 4, 29}, {2023, inMonth(4, 5, 0), 4, 30}, {2023, inMonth(4, 5, 1), 4, 24}, {2023, inMonth(4, 4, 1), 4, 24},
		{2024, inMonth(2, 5, 4), 2, 29}, {2024, inMonth(2, 5, 3), 2, 28}, {2024, inMonth(2, 4, 3), 2, 28}, {2024, inMonth(2, 5, 5), 2, 23},
		{2023, inMonth(2, 5, 2), 2, 28}, {2023, inMonth(2, 5, 3), 2, 22}, {2015, inMonth(2, 5, 0), 2, 22}, {2015, inMonth(2, 5, 6), 2, 28},
		{1900, inMonth(2, 5, 4), 2, 22}, {2000, inMonth(2, 5, 2), 2, 29},
	} {
		falls(t, c.year, c.c, c.month, c.day)
	}
	for _, c := range []api.Change{
		inMonth(0, 2, 0), inMonth(13, 2, 0), inMonth(-1, 2, 0),
		inMonth(3, 0, 0), inMonth(3, 6, 0), inMonth(3, -1, 0),
		inMonth(3, 2, -1), inMonth(3, 2, 7),
		inMonth(math.MaxInt64, 2, 0), inMonth(3, math.MinInt64, 0), inMonth(3, 2, math.MaxInt64),
	} {
		refused(t, 2023, c)
	}
}

// TestAllDays asks for every change there is in years of all fourteen calendars, and round the ends.
func TestAllDays(t *testing.T) {
	years := append([]int{-5, -4, -1, 0, 1, 1899, 1900, 2100}, append(leapYears, commonYears...)...)
	for year := 1999; year < 2028; year++ {
		years = append(years, year)
	}
	for _, year := range years {
		dates := datesOf(t, year)
		for _, c := range allChanges() {
			if n, err := Day(year, c); n != expectDay(dates, c) || err != api.OK {
				t.Fatalf("%v in %d: %d, %v, not %d", c, year, n, err, expectDay(dates, c))
			}
		}
	}
}

func allChanges() []api.Change {
	l := []api.Change{plain(0)}
	for n := 1; n <= 365; n++ {
		l = append(l, leapless(n), plain(n))
	}
	for i := range 12 * 5 * 7 {
		l = append(l, inMonth(i/35+1, i/7%5+1, i%7))
	}
	return l
}

func TestChangesThatMayNotBe(t *testing.T) {
	for _, year := range []int{2023, 2024, firstYear, lastYear} {
		for _, c := range []api.Change{
			{}, {How: 0, N: 1}, {How: 4, N: 1}, {How: -1, N: 1}, {How: 0, N: 3, Week: 2}, {How: 4, N: 3, Week: 2}, {How: math.MaxInt64, N: 1},
			{How: api.DayJulian, N: 60, Week: 1}, {How: api.DayJulian, N: 60, Weekday: 1}, {How: api.DayPlain, N: 60, Week: 1}, {How: api.DayPlain, N: 60, Weekday: -1},
			leapless(-1), leapless(math.MinInt64), plain(math.MaxInt64), plain(math.MinInt64),
		} {
			refused(t, year, c)
		}
		for _, time := range []int{604800, -604800, math.MaxInt64, math.MinInt64} {
			for _, c := range []api.Change{leapless(60), plain(60), inMonth(3, 2, 0)} {
				refused(t, year, timed(c, time))
			}
		}
	}
}

// TestWideAlone: a change that is right in the wide form alone may be.
func TestWideAlone(t *testing.T) {
	for _, time := range []int{-1, 90000, -604799, 604799} {
		for _, c := range []api.Change{timed(leapless(60), time), timed(plain(59), time), timed(inMonth(3, 1, 3), time)} {
			r := two(0, 3600, c, c)
			if posix.Right(r, false) || !posix.Right(r, true) {
				t.Fatalf("not in the wide form alone: %v", c)
			}
			falls(t, 2023, c, 3, 1)
			if _, _, err := Turns(r, 2023); err != api.OK {
				t.Errorf("%v: %v", r, err)
			}
		}
	}
}

func TestTurns(t *testing.T) {
	turnAt(t, read(t, "EST5EDT,M3.2.0,M11.1.0"), 2007, 1173596400, 1194156000)
	turnAt(t, read(t, "CET-1CEST,M3.5.0,M10.5.0/3"), 2024, 1711846800, 1729990800)
	turnAt(t, read(t, "AAA-10BBB,M10.1.0,M4.1.0/3"), 2023, 1696089600, 1680364800)

	first := daysOf(t, 2023, 3, 1) * 86400
	second := daysOf(t, 2023, 11, 1) * 86400
	start, end := leapless(60), leapless(305)
	for _, c := range []struct{ std, dst, from, to int }{
		{0, 0, 0, 0}, {0, 3600, 0, 0}, {3600, 7200, 7200, 7200}, {-18000, -14400, 7200, 7200}, {12600, 0, 3600, 0}, {-1, 1, 1, -1},
		{89999, -89999, 0, 0}, {-89999, 89999, 0, 0}, {7200, 3600, 86399, 86400}, {0, 3600, 90000, 89999},
		{0, 3600, -1, -86400}, {0, 3600, -604799, 604799}, {3600, 0, 604799, -604799}, {-89999, -89999, 604799, 604799}, {89999, 89999, -604799, -604799},
	} {
		r := two(c.std, c.dst, timed(start, c.from), timed(end, c.to))
		turnAt(t, r, 2023, first+int64(c.from-c.std), second+int64(c.to-c.dst))
	}
}

func TestTurnsAtYearEdges(t *testing.T) {
	r := two(-3600, 3600, timed(plain(0), -604799), timed(plain(365), 604799))
	for _, year := range []int{firstYear, firstYear + 1, lastYear - 1, lastYear, 0, -1, 1970} {
		start := daysOf(t, year, 1, 1) * 86400
		last := daysOf(t, year, 12, 31)
		if year != firstYear && year != 0 { // the others have no day 365
			last++
		}
		turnAt(t, r, year, start-604799+3600, last*86400+604799-3600)
	}
	turnAt(t, r, firstYear, -784353015833*86400-601199, (-784353015833+365)*86400+601199)
	turnAt(t, r, lastYear, 784351576412*86400-601199, 784351576777*86400+601199)
	for _, year := range []int{firstYear - 1, lastYear + 1, math.MinInt64, math.MaxInt64} {
		noTurns(t, "a year that may not be", r, year)
		noTurns(t, "a rule and a year that may not be", api.Rule{}, year)
	}
}

// wrongRules are not right in the wide form, each by one cause, which stands beside it.
func wrongRules() map[string]api.Rule {
	good := two(0, 3600, inMonth(3, 2, 0), inMonth(11, 1, 0))
	single := api.Rule{Std: good.Std}
	l := map[string]api.Rule{"zero": {}}
	put := func(why string, r api.Rule, spoil func(r *api.Rule)) {
		spoil(&r)
		l[why] = r
	}
	put("Std is dst", good, func(r *api.Rule) { r.Std.Dst = true })
	put("Dst is none", good, func(r *api.Rule) { r.Dst.Dst = false })
	put("a short name of Std", good, func(r *api.Rule) { r.Std.Name = "AA" })
	put("a strange name of Dst", good, func(r *api.Rule) { r.Dst.Name = "A_A" })
	put("Std far behind", good, func(r *api.Rule) { r.Std.Off = -90000 })
	put("Dst far ahead", good, func(r *api.Rule) { r.Dst.Off = 90000 })
	put("no Start", good, func(r *api.Rule) { r.Start = api.Change{} })
	put("no End", good, func(r *api.Rule) { r.End = api.Change{} })
	put("a late Start", good, func(r *api.Rule) { r.Start.Time = 604800 })
	put("an early End", good, func(r *api.Rule) { r.End.Time = -604800 })
	put("Both is not set", good, func(r *api.Rule) { r.Both = false })
	put("no second kind", single, func(r *api.Rule) { r.Both = true })
	put("one kind, and a Start", single, func(r *api.Rule) { r.Start = good.Start })
	put("one kind, which is dst", single, func(r *api.Rule) { r.Std.Dst = true })
	put("one kind far ahead", single, func(r *api.Rule) { r.Std.Off = 90000 })
	return l
}

func TestNoTurns(t *testing.T) {
	for _, year := range []int{2007, 0, firstYear, lastYear} {
		noTurns(t, "one kind", read(t, "EST5"), year)
		for why, r := range wrongRules() {
			noTurns(t, why, r, year)
		}
	}
}
