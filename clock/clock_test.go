package clock

import (
	"math"
	"slices"
	"testing"
	"time"

	"longcase/api"
)

const (
	lastYear    = 1<<31 - 1
	firstYear   = -1 << 31
	lastSecond  = 67767976233532799
	firstSecond = -67768100567971200
)

func at(year, month, day, hour, min, sec int) api.Civil {
	return api.Civil{Year: year, Month: month, Day: day, Hour: hour, Min: min, Sec: sec}
}

// rising are civil times with their seconds and texts, each behind the one ahead of it.
func rising() []struct {
	c    api.Civil
	t    int64
	text string
} {
	return []struct {
		c    api.Civil
		t    int64
		text string
	}{
		{at(firstYear, 1, 1, 0, 0, 0), firstSecond, "-2147483648-01-01 00:00:00"},
		{at(firstYear, 1, 1, 0, 0, 1), firstSecond + 1, "-2147483648-01-01 00:00:01"},
		{at(firstYear, 1, 1, 23, 59, 59), firstSecond + 86399, "-2147483648-01-01 23:59:59"},
		{at(firstYear, 1, 2, 0, 0, 0), firstSecond + 86400, "-2147483648-01-02 00:00:00"},
		{at(firstYear, 12, 31, 23, 59, 59), firstSecond + 366*86400 - 1, "-2147483648-12-31 23:59:59"},
		{at(-10000, 1, 1, 0, 0, 0), -377736739200, "-10000-01-01 00:00:00"},
		{at(-9999, 1, 1, 0, 0, 0), -377705116800, "-9999-01-01 00:00:00"},
		{at(-400, 3, 1, 0, 0, 0), -62167219200 - 146097*86400 + 60*86400, "-0400-03-01 00:00:00"},
		{at(-1, 1, 1, 0, 0, 0), -62198755200, "-0001-01-01 00:00:00"},
		{at(-1, 12, 31, 23, 59, 59), -62167219201, "-0001-12-31 23:59:59"},
		{at(0, 1, 1, 0, 0, 0), -62167219200, "0000-01-01 00:00:00"},
		{at(0, 12, 31, 23, 59, 59), -62135596801, "0000-12-31 23:59:59"},
		{at(1, 1, 1, 0, 0, 0), -62135596800, "0001-01-01 00:00:00"},
		{at(987, 6, 5, 4, 3, 2), -31007044618, "0987-06-05 04:03:02"},
		{at(1969, 12, 30, 23, 59, 59), -86401, "1969-12-30 23:59:59"},
		{at(1969, 12, 31, 0, 0, 0), -86400, "1969-12-31 00:00:00"},
		{at(1969, 12, 31, 22, 59, 59), -3601, "1969-12-31 22:59:59"},
		{at(1969, 12, 31, 23, 0, 0), -3600, "1969-12-31 23:00:00"},
		{at(1969, 12, 31, 23, 58, 59), -61, "1969-12-31 23:58:59"},
		{at(1969, 12, 31, 23, 59, 0), -60, "1969-12-31 23:59:00"},
		{at(1969, 12, 31, 23, 59, 59), -1, "1969-12-31 23:59:59"},
		{at(1970, 1, 1, 0, 0, 0), 0, "1970-01-01 00:00:00"},
		{at(1970, 1, 1, 0, 0, 1), 1, "1970-01-01 00:00:01"},
		{at(1970, 1, 1, 0, 0, 59), 59, "1970-01-01 00:00:59"},
		{at(1970, 1, 1, 0, 1, 0), 60, "1970-01-01 00:01:00"},
		{at(1970, 1, 1, 0, 59, 59), 3599, "1970-01-01 00:59:59"},
		{at(1970, 1, 1, 1, 0, 0), 3600, "1970-01-01 01:00:00"},
		{at(1970, 1, 1, 23, 59, 59), 86399, "1970-01-01 23:59:59"},
		{at(1970, 1, 2, 0, 0, 0), 86400, "1970-01-02 00:00:00"},
		{at(1970, 12, 31, 23, 59, 59), 31535999, "1970-12-31 23:59:59"},
		{at(1971, 1, 1, 0, 0, 0), 31536000, "1971-01-01 00:00:00"},
		{at(2000, 2, 28, 23, 59, 59), 951782399, "2000-02-28 23:59:59"},
		{at(2000, 2, 29, 0, 0, 0), 951782400, "2000-02-29 00:00:00"},
		{at(2000, 2, 29, 23, 59, 59), 951868799, "2000-02-29 23:59:59"},
		{at(2000, 3, 1, 0, 0, 0), 951868800, "2000-03-01 00:00:00"},
		{at(2038, 1, 19, 3, 14, 7), 1<<31 - 1, "2038-01-19 03:14:07"},
		{at(9999, 12, 31, 23, 59, 59), 253402300799, "9999-12-31 23:59:59"},
		{at(10000, 1, 1, 0, 0, 0), 253402300800, "10000-01-01 00:00:00"},
		{at(lastYear, 1, 1, 0, 0, 0), lastSecond + 1 - 365*86400, "2147483647-01-01 00:00:00"},
		{at(lastYear, 12, 31, 0, 0, 0), lastSecond - 86399, "2147483647-12-31 00:00:00"},
		{at(lastYear, 12, 31, 23, 59, 58), lastSecond - 1, "2147483647-12-31 23:59:58"},
		{at(lastYear, 12, 31, 23, 59, 59), lastSecond, "2147483647-12-31 23:59:59"},
	}
}

func TestSecondsOfAndText(t *testing.T) {
	for _, row := range rising() {
		if !Right(row.c) {
			t.Errorf("%v is not right", row.c)
		}
		if n, err := Seconds(row.c); n != row.t || err != api.OK {
			t.Errorf("Seconds(%v) = %d, %v, want %d", row.c, n, err, row.t)
		}
		if c, err := Of(row.t); c != row.c || err != api.OK {
			t.Errorf("Of(%d) = %v, %v, want %v", row.t, c, err, row.c)
		}
		if text := Text(row.c); text != row.text {
			t.Errorf("Text(%v) = %q", row.c, text)
		}
	}
}

func TestOfOutOfRange(t *testing.T) {
	for _, n := range []int64{
		lastSecond + 1, lastSecond + 2, lastSecond + 86400, lastSecond + 146097*86400,
		firstSecond - 1, firstSecond - 2, firstSecond - 86400, firstSecond - 146097*86400,
		1 << 62, -1 << 62, math.MaxInt64 - 1, math.MaxInt64, math.MinInt64 + 1, math.MinInt64,
	} {
		if c, err := Of(n); c != (api.Civil{}) || err != api.ErrRange {
			t.Errorf("Of(%d) = %v, %v", n, c, err)
		}
	}
}

// wrong are civil times with one field, at least, that may not be.
func wrong() []api.Civil {
	l := []api.Civil{
		{}, at(2024, 0, 1, 0, 0, 0), at(2024, 13, 1, 0, 0, 0), at(2024, -1, 1, 0, 0, 0),
		at(2024, 1, 0, 0, 0, 0), at(2024, 1, -1, 0, 0, 0), at(2024, 1, 32, 0, 0, 0), at(2024, 4, 31, 0, 0, 0),
		at(2024, 2, 30, 12, 0, 0), at(2023, 2, 29, 12, 0, 0), at(1900, 2, 29, 0, 0, 0),
		at(lastYear+1, 1, 1, 0, 0, 0), at(firstYear-1, 12, 31, 23, 59, 59),
		at(2024, 2, 29, 24, 0, 0), at(2024, 12, 31, 23, 59, 60), at(2016, 12, 31, 23, 59, 60), // no leap seconds
		at(2023, 2, 29, 24, 60, 60),
	}
	fine := at(2024, 2, 29, 23, 59, 59)
	for _, n := range []int{-1, -24, -60, 60, 61, 100, 1 << 32, math.MinInt64, math.MinInt32, math.MaxInt64} {
		h, m, s := fine, fine, fine
		h.Hour, m.Min, s.Sec = n, n, n
		l = append(l, h, m, s)
	}
	for _, n := range []int{24, 25, 59} {
		h := fine
		h.Hour = n
		l = append(l, h)
	}
	for _, n := range []int{math.MinInt64, math.MaxInt64} {
		y, m, d := fine, fine, fine
		y.Year, m.Month, d.Day = n, n, n
		l = append(l, y, m, d, at(n, n, n, n, n, n))
	}
	return l
}

func TestWrongTimes(t *testing.T) {
	for _, c := range wrong() {
		if Right(c) {
			t.Errorf("%v is right", c)
		}
		if n, err := Seconds(c); n != 0 || err != api.ErrArg {
			t.Errorf("Seconds(%v) = %d, %v", c, n, err)
		}
		if text := Text(c); text != "" {
			t.Errorf("Text(%v) = %q", c, text)
		}
	}
}

// hold asks Compare both ways round.
func hold(t *testing.T, a, b api.Civil, want int) {
	t.Helper()
	if got := Compare(a, b); got != want {
		t.Errorf("Compare(%v, %v) = %d, want %d", a, b, got, want)
	}
	if got := Compare(b, a); got != -want {
		t.Errorf("Compare(%v, %v) = %d, want %d", b, a, got, -want)
	}
}

func TestCompareAsSeconds(t *testing.T) {
	l := rising()
	for i, a := range l {
		hold(t, a.c, a.c, 0)
		for _, b := range l[i+1:] {
			hold(t, a.c, b.c, -1)
		}
	}
}

// TestCompareByField sets each field against all those behind it: the first that differs tells.
func TestCompareByField(t *testing.T) {
	fields := func(l [6]int) api.Civil { return at(l[0], l[1], l[2], l[3], l[4], l[5]) }
	for i := range 6 {
		ahead := [6]int{2024, 6, 15, 12, 30, 30}
		behind := ahead
		behind[i]++
		hold(t, fields(ahead), fields(behind), -1)
		for j := i + 1; j < 6; j++ {
			ahead[j]++
		}
		hold(t, fields(ahead), fields(behind), -1)
		ahead[i], behind[i] = math.MinInt64, math.MaxInt64
		hold(t, fields(ahead), fields(behind), -1)
		ahead[i] = -1
		hold(t, fields(ahead), fields(behind), -1)
	}
}

// TestCompareWrongTimes: times that are not right are held against others by their fields as well.
func TestCompareWrongTimes(t *testing.T) {
	hold(t, api.Civil{}, api.Civil{}, 0)
	hold(t, at(2024, 1, 1, 24, 0, 0), at(2024, 1, 2, 0, 0, 0), -1)
	hold(t, at(2024, 1, 1, 0, 0, 60), at(2024, 1, 1, 0, 1, 0), -1)
	hold(t, at(2024, 13, 1, 0, 0, 0), at(2025, 1, 1, 0, 0, 0), -1)
	hold(t, at(2023, 2, 29, 0, 0, 0), at(2023, 3, 1, 0, 0, 0), -1)
	hold(t, at(2023, 2, 29, 0, 0, 0), at(2023, 2, 28, 0, 0, 0), 1)
	hold(t, at(2024, 1, 1, 0, 0, -1), at(2024, 1, 1, 0, 0, 0), -1)
	for _, a := range wrong() {
		hold(t, a, a, 0)
		for _, b := range wrong() {
			l := []int{a.Year, a.Month, a.Day, a.Hour, a.Min, a.Sec}
			m := []int{b.Year, b.Month, b.Day, b.Hour, b.Min, b.Sec}
			hold(t, a, b, slices.Compare(l, m))
		}
	}
}

// TestEachSecondHasOneCivilTime walks through days that end a month, a year and an age.
func TestEachSecondHasOneCivilTime(t *testing.T) {
	for _, from := range []int64{-86400, -62167219200 - 86400, 951782400, lastSecond - 2*86400 + 1, firstSecond} {
		before, err := Of(from)
		if err != api.OK {
			t.Fatal(from, err)
		}
		for n := from + 1; n < from+2*86400; n++ {
			c, err := Of(n)
			back, also := Seconds(c)
			if err != api.OK || also != api.OK || back != n || Compare(before, c) != -1 {
				t.Fatalf("Of(%d) = %v, %v, and back %d, %v", n, c, err, back, also)
			}
			before = c
		}
	}
}

// TestAgainstLibrary asks the library's calendar, which is made apart from this one, about seconds all over the range.
func TestAgainstLibrary(t *testing.T) {
	for n := int64(firstSecond); n < lastSecond; n += 33333333333341 {
		lib := time.Unix(n, 0).UTC()
		want := at(lib.Year(), int(lib.Month()), lib.Day(), lib.Hour(), lib.Minute(), lib.Second())
		c, err := Of(n)
		back, also := Seconds(want)
		if c != want || err != api.OK || back != n || also != api.OK {
			t.Fatalf("Of(%d) = %v, %v, want %v, and back %d, %v", n, c, err, want, back, also)
		}
		if text := Text(c); lib.Year() >= 0 && lib.Year() < 10000 && text != lib.Format(time.DateTime) {
			t.Fatalf("Text(%v) = %q", c, text)
		}
	}
}
