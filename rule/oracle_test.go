package rule

import (
	"testing"

	"longcase/api"
	"longcase/civil"
)

// What the calls must tell, by the document's words, worked out from lists: of all days of a year, and of all turns of three years.

type date struct {
	month, day int
	behind     int64
}

// datesOf lists the dates of a year one by one.
func datesOf(t *testing.T, year int) []date {
	t.Helper()
	var l []date
	for month := 1; month <= 12; month++ {
		for day := 1; civil.Right(year, month, day); day++ {
			l = append(l, date{month, day, daysOf(t, year, month, day)})
		}
	}
	return l
}

// daysOf is chapter 2's, of a date that there must be.
func daysOf(t *testing.T, year, month, day int) int64 {
	t.Helper()
	n, err := civil.Days(year, month, day)
	if err != api.OK {
		t.Fatalf("no date: %d-%d-%d", year, month, day)
	}
	return n
}

// expectDay looks the change up among the dates of a year.
func expectDay(dates []date, c api.Change) int64 {
	switch c.How {
	case api.DayJulian:
		return pick(dates, c.N, func(d date) bool { return d.month != 2 || d.day != 29 })
	case api.DayWeek:
		return pick(dates, c.Week, func(d date) bool { return d.month == c.N && civil.Weekday(d.behind) == c.Weekday })
	}
	if c.N == len(dates) {
		return dates[len(dates)-1].behind + 1
	}
	return dates[c.N].behind
}

// pick tells the n-th of the dates that are asked for, or the last one.
func pick(dates []date, n int, is func(date) bool) int64 {
	var found []int64
	for _, d := range dates {
		if is(d) {
			found = append(found, d.behind)
		}
	}
	return found[min(n, len(found))-1]
}

type turn struct {
	at  int64
	dst bool
}

func turnsOf(t *testing.T, r api.Rule, year int) []turn {
	t.Helper()
	dates := datesOf(t, year)
	return []turn{
		{expectDay(dates, r.Start)*86400 + int64(r.Start.Time) - int64(r.Std.Off), true},
		{expectDay(dates, r.End)*86400 + int64(r.End.Time) - int64(r.Dst.Off), false},
	}
}

// turnsAbout lists the turns of a year, of the one ahead and of the one behind, as far as there are such years.
func turnsAbout(t *testing.T, r api.Rule, year int) []turn {
	t.Helper()
	var all []turn
	for y := max(year-1, firstYear); y <= min(year+1, lastYear); y++ {
		all = append(all, turnsOf(t, r, y)...)
	}
	return all
}

// expectAt tells what At must tell at a moment of the year that all are the turns about.
func expectAt(r api.Rule, all []turn, at int64) api.Kind {
	first, last := all[0], turn{}
	found := false
	for _, u := range all {
		if u.at < first.at || u.at == first.at && u.dst {
			first = u
		}
		if u.at <= at && (!found || u.at > last.at || u.at == last.at && u.dst) {
			last, found = u, true
		}
	}
	if !found {
		return kindOf(r, !first.dst)
	}
	return kindOf(r, last.dst)
}
