package civil

import (
	"math"
	"testing"
	"time"

	"longcase/api"
)

const (
	lastYear  = 1<<31 - 1
	firstYear = -1 << 31
	lastDay   = 784351576776
	firstDay  = -784353015833
)

func TestLeap(t *testing.T) {
	for _, year := range []int{2024, 4, 0, -4, 1600, 2000, 2400, 400, -400, -2000, 1996, -104, firstYear, math.MinInt64, math.MaxInt64 - 3} {
		if !Leap(year) {
			t.Errorf("Leap(%d) is false", year)
		}
	}
	for _, year := range []int{2023, 2025, 2026, 1, -1, -2, -3, 100, 200, 300, 1700, 1900, 2100, -100, -200, -300, -1900, lastYear, math.MaxInt64, math.MinInt64 + 8} {
		if Leap(year) {
			t.Errorf("Leap(%d) is true", year)
		}
	}
}

func TestLength(t *testing.T) {
	common := []int{31, 28, 31, 30, 31, 30, 31, 31, 30, 31, 30, 31}
	for _, year := range []int{2023, 1900, 2100, -1, -100, firstYear - 1, lastYear, math.MaxInt64} {
		for i, want := range common {
			if got := Length(year, i+1); got != want {
				t.Errorf("Length(%d, %d) = %d", year, i+1, got)
			}
		}
	}
	for _, year := range []int{2024, 2000, 0, -4, -400, firstYear, lastYear + 1, math.MinInt64} {
		for i, want := range common {
			if i == 1 {
				want = 29
			}
			if got := Length(year, i+1); got != want {
				t.Errorf("Length(%d, %d) = %d", year, i+1, got)
			}
		}
	}
	for _, year := range []int{2023, 2024, 0} {
		for _, month := range []int{0, -1, 13, 14, -2, -11, 24, 26, math.MinInt64, math.MaxInt64} {
			if got := Length(year, month); got != 0 {
				t.Errorf("Length(%d, %d) = %d", year, month, got)
			}
		}
	}
}

// wrong are the dates that there are not, or that lie behind the bounds.
func wrong() [][3]int {
	l := [][3]int{
		{2023, 2, 29}, {1900, 2, 29}, {2100, 2, 29}, {-1, 2, 29}, {-100, 2, 29}, {lastYear, 2, 29},
		{2024, 2, 30}, {2000, 2, 30}, {0, 2, 30}, {2024, 4, 31}, {2024, 6, 31}, {2024, 9, 31}, {2024, 11, 31},
		{2024, 0, 1}, {2024, -1, 1}, {2024, 13, 1}, {2024, math.MaxInt64, 1}, {2024, math.MinInt64, 1},
		{2024, 0, 0}, {2024, 13, 0}, {0, 0, 0},
		{lastYear + 1, 1, 1}, {lastYear + 1, 12, 31}, {firstYear - 1, 12, 31}, {firstYear - 1, 1, 1},
		{math.MaxInt64, 1, 1}, {math.MinInt64, 1, 1}, {math.MinInt64, math.MinInt64, math.MinInt64}, {math.MaxInt64, math.MaxInt64, math.MaxInt64},
	}
	for month := 1; month <= 12; month++ {
		for _, day := range []int{0, -1, 32, math.MaxInt64, math.MinInt64} {
			l = append(l, [3]int{2024, month, day})
		}
	}
	return l
}

func TestWrongDates(t *testing.T) {
	for _, c := range wrong() {
		if Right(c[0], c[1], c[2]) {
			t.Errorf("Right(%v) is true", c)
		}
		if n, err := Days(c[0], c[1], c[2]); n != 0 || err != api.ErrArg {
			t.Errorf("Days(%v) = %d, %v", c, n, err)
		}
		if n, err := Yearday(c[0], c[1], c[2]); n != 0 || err != api.ErrArg {
			t.Errorf("Yearday(%v) = %d, %v", c, n, err)
		}
	}
}

func TestDaysAndDate(t *testing.T) {
	for _, c := range []struct {
		year, month, day int
		days             int64
		yearday, weekday int
	}{
		{1970, 1, 1, 0, 0, 4}, {1970, 1, 2, 1, 1, 5}, {1969, 12, 31, -1, 364, 3}, {1968, 12, 31, -366, 365, 2},
		{1970, 12, 31, 364, 364, 4}, {1971, 1, 1, 365, 0, 5},
		{2000, 2, 28, 11015, 58, 1}, {2000, 2, 29, 11016, 59, 2}, {2000, 3, 1, 11017, 60, 3}, {2000, 12, 31, 11322, 365, 0},
		{2024, 2, 29, 19782, 59, 4}, {2024, 3, 1, 19783, 60, 5}, {2023, 3, 1, 19417, 59, 3},
		{1900, 2, 28, -25509, 58, 3}, {1900, 3, 1, -25508, 59, 4},
		{1582, 10, 5, -141437, 277, 2}, // no days are left out
		{1, 1, 1, -719162, 0, 1}, {0, 12, 31, -719163, 365, 0}, {0, 3, 1, -719468, 60, 3}, {0, 2, 29, -719469, 59, 2}, {0, 1, 1, -719528, 0, 6},
		{-1, 12, 31, -719529, 364, 5}, {-1, 3, 1, -719834, 59, 1}, {-4, 2, 29, -720930, 59, 4},
		{lastYear, 12, 31, lastDay, 364, 2}, {lastYear, 1, 1, lastDay - 364, 0, 2}, // as in 2047
		{firstYear, 1, 1, firstDay, 0, 2}, {firstYear, 12, 31, firstDay + 365, 365, 3}, // as in 1952
	} {
		if !Right(c.year, c.month, c.day) {
			t.Errorf("%v is not right", c)
		}
		if n, err := Days(c.year, c.month, c.day); n != c.days || err != api.OK {
			t.Errorf("Days of %v: %d, %v", c, n, err)
		}
		if year, month, day, err := Date(c.days); year != c.year || month != c.month || day != c.day || err != api.OK {
			t.Errorf("Date of %v: %d, %d, %d, %v", c, year, month, day, err)
		}
		if n, err := Yearday(c.year, c.month, c.day); n != c.yearday || err != api.OK {
			t.Errorf("Yearday of %v: %d, %v", c, n, err)
		}
		if n := Weekday(c.days); n != c.weekday {
			t.Errorf("Weekday of %v: %d", c, n)
		}
	}
}

func TestDateOutOfRange(t *testing.T) {
	for _, days := range []int64{lastDay + 1, lastDay + 2, lastDay + 146097, firstDay - 1, firstDay - 2, firstDay - 146097, 1 << 62, -1 << 62, math.MaxInt64 - 719528, math.MaxInt64 - 719527, math.MaxInt64 - 1, math.MaxInt64, math.MinInt64, math.MinInt64 + 1} {
		if year, month, day, err := Date(days); year != 0 || month != 0 || day != 0 || err != api.ErrRange {
			t.Errorf("Date(%d) = %d, %d, %d, %v", days, year, month, day, err)
		}
	}
}

func TestWeekdayFarAway(t *testing.T) {
	for _, c := range []struct {
		days    int64
		weekday int
	}{
		{math.MaxInt64, 4}, {math.MaxInt64 - 1, 3}, {math.MaxInt64 - 6, 5}, // 2^63 - 1 is a multiple of 7
		{-math.MaxInt64, 4}, {math.MinInt64, 3},
		{3, 0}, {-4, 0}, {-5, 6}, {-7, 4}, {7, 4},
	} {
		if n := Weekday(c.days); n != c.weekday {
			t.Errorf("Weekday(%d) = %d", c.days, n)
		}
	}
}

// walk goes from day to day by the rules of the calendar alone, and asks every call about each day.
func walk(t *testing.T, year, years int) {
	t.Helper()
	days, err := Days(year, 1, 1)
	if err != api.OK {
		t.Fatal(year, err)
	}
	months := []int{31, 28, 31, 30, 31, 30, 31, 31, 30, 31, 30, 31}
	for ; years > 0; years-- {
		yearday := 0
		for i, length := range months {
			if i == 1 && year%4 == 0 && (year%100 != 0 || year%400 == 0) {
				length++
			}
			for day := 1; day <= length; day++ {
				ask(t, year, i+1, day, days, yearday)
				days++
				yearday++
			}
		}
		year++
	}
}

func ask(t *testing.T, year, month, day int, days int64, yearday int) {
	t.Helper()
	if n, err := Days(year, month, day); n != days || err != api.OK || !Right(year, month, day) {
		t.Fatalf("Days(%d, %d, %d) = %d, %v, want %d", year, month, day, n, err, days)
	}
	if y, m, d, err := Date(days); y != year || m != month || d != day || err != api.OK {
		t.Fatalf("Date(%d) = %d, %d, %d, %v, want %d, %d, %d", days, y, m, d, err, year, month, day)
	}
	if n, err := Yearday(year, month, day); n != yearday || err != api.OK {
		t.Fatalf("Yearday(%d, %d, %d) = %d, %v, want %d", year, month, day, n, err, yearday)
	}
	if a, b := Weekday(days), Weekday(days-1); a != (b+1)%7 {
		t.Fatalf("Weekday(%d) = %d behind %d", days, a, b)
	}
}

// TestEachDay walks whole cycles of 400 years round the year 0 and up to our days, and at both ends of the years.
func TestEachDay(t *testing.T) {
	walk(t, -401, 402)
	walk(t, 1599, 802)
	walk(t, firstYear, 401)
	walk(t, lastYear-400, 401)
}

// TestAgainstLibrary asks the library's calendar, which is made apart from this one, about years all over the range.
func TestAgainstLibrary(t *testing.T) {
	for year := int64(firstYear); year <= lastYear; year += 9999991 {
		for _, c := range [][2]int{{1, 1}, {2, 28}, {3, 1}, {7, 4}, {12, 31}} {
			at := time.Date(int(year), time.Month(c[0]), c[1], 0, 0, 0, 0, time.UTC)
			days := at.Unix() / 86400
			ask(t, int(year), c[0], c[1], days, at.YearDay()-1)
			if n := Weekday(days); n != int(at.Weekday()) {
				t.Errorf("Weekday(%d) = %d", days, n)
			}
		}
	}
}
