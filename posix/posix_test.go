package posix

import (
	"math"
	"math/rand"
	"slices"
	"strings"
	"testing"
	"unsafe"

	"longcase/api"
)

var forms = []bool{false, true}

func one(off int, name string) api.Rule {
	return api.Rule{Std: api.Kind{Off: off, Name: name}}
}

// two is a rule of two kinds, by the names AAA and BBB.
func two(std, dst int, start, end api.Change) api.Rule {
	return api.Rule{
		Std: api.Kind{Off: std, Name: "AAA"}, Dst: api.Kind{Off: dst, Dst: true, Name: "BBB"},
		Both: true, Start: start, End: end,
	}
}

// The three ways of a change, at the time that is left out.

func julian(n int) api.Change {
	return api.Change{How: api.DayJulian, N: n, Time: 7200}
}

func plain(n int) api.Change {
	return api.Change{How: api.DayPlain, N: n, Time: 7200}
}

func weekly(month, week, weekday int) api.Change {
	return api.Change{How: api.DayWeek, N: month, Week: week, Weekday: weekday, Time: 7200}
}

func timed(c api.Change, time int) api.Change {
	c.Time = time
	return c
}

// changing is a rule of two kinds with this change, once as Start and once as End.
func changing(c api.Change) []api.Rule {
	return []api.Rule{two(0, 3600, c, plain(9)), two(0, 3600, plain(9), c)}
}

// fine asks that a rule is right, that its text is this one, and that it is read as it was.
func fine(t *testing.T, r api.Rule, wide bool, text string) {
	t.Helper()
	if !Right(r, wide) {
		t.Errorf("not right: %v, wide %v", r, wide)
	}
	if s, err := Print(r, wide); s != text || err != api.OK {
		t.Errorf("%q, %v, not %q: %v, wide %v", s, err, text, r, wide)
	}
	reads(t, text, wide, r)
	if s := tell(r); s != text {
		t.Errorf("the tests themselves tell %q, not %q", s, text)
	}
}

// finely asks so in both forms.
func finely(t *testing.T, r api.Rule, text string) {
	t.Helper()
	for _, wide := range forms {
		fine(t, r, wide, text)
	}
}

// wrong asks that a rule is not right, and not told.
func wrong(t *testing.T, why string, r api.Rule, wide bool) {
	t.Helper()
	if Right(r, wide) {
		t.Errorf("%s: right: %v, wide %v", why, r, wide)
	}
	if s, err := Print(r, wide); s != "" || err != api.ErrArg {
		t.Errorf("%s: %q, %v: %v, wide %v", why, s, err, r, wide)
	}
}

// wrongly asks so in both forms.
func wrongly(t *testing.T, why string, r api.Rule) {
	t.Helper()
	for _, wide := range forms {
		wrong(t, why, r, wide)
	}
}

// reads asks that a text is read as this rule, which is right.
func reads(t *testing.T, s string, wide bool, want api.Rule) {
	t.Helper()
	if r, err := Parse(s, wide); r != want || err != api.OK {
		t.Errorf("%q, wide %v: %v, %v, not %v", s, wide, r, err, want)
	}
	if !Right(want, wide) {
		t.Errorf("%q, wide %v: not right: %v", s, wide, want)
	}
	if r, err := expect(s, wide); r != want || err != api.OK {
		t.Errorf("%q, wide %v: the tests themselves expect %v, %v, not %v", s, wide, r, err, want)
	}
}

func readsBoth(t *testing.T, s string, want api.Rule) {
	t.Helper()
	for _, wide := range forms {
		reads(t, s, wide, want)
	}
}

// fails asks for ErrForm, and for a zero rule beside it.
func fails(t *testing.T, s string, wide bool) {
	t.Helper()
	if r, err := Parse(s, wide); r != (api.Rule{}) || err != api.ErrForm {
		t.Errorf("%.200q, wide %v: %v, %v", s, wide, r, err)
	}
	if r, err := expect(s, wide); err != api.ErrForm {
		t.Errorf("%.200q, wide %v: the tests themselves expect %v, %v", s, wide, r, err)
	}
}

func failsBoth(t *testing.T, texts ...string) {
	t.Helper()
	for _, s := range texts {
		for _, wide := range forms {
			fails(t, s, wide)
		}
	}
}

// agrees asks that a text is read as the patterns say; so many are asked that the first one that is not ends the test.
func agrees(t *testing.T, s string, wide bool) {
	t.Helper()
	want, wantErr := expect(s, wide)
	if r, err := Parse(s, wide); r != want || err != wantErr {
		t.Fatalf("%q, wide %v: %v, %v, not %v, %v", s, wide, r, err, want, wantErr)
	}
}

// stopFailed ends a long test of which something failed, ahead of flooding the page.
func stopFailed(t *testing.T) {
	t.Helper()
	if t.Failed() {
		t.FailNow()
	}
}

func TestExamples(t *testing.T) {
	eastern := api.Rule{
		Std:  api.Kind{Off: -18000, Name: "EST"},
		Dst:  api.Kind{Off: -14400, Dst: true, Name: "EDT"},
		Both: true,
		Start: api.Change{
			How: api.DayWeek, N: 3, Week: 2, Weekday: 0, Time: 7200,
		},
		End: api.Change{
			How: api.DayWeek, N: 11, Week: 1, Weekday: 0, Time: 7200,
		},
	}
	finely(t, eastern, "EST5EDT,M3.2.0,M11.1.0")
	finely(t, one(12600, "+0330"), "<+0330>-3:30")
}

func TestOrdinaryRules(t *testing.T) {
	named := func(std, dst string, r api.Rule) api.Rule {
		r.Std.Name, r.Dst.Name = std, dst
		return r
	}
	for _, c := range []struct {
		r api.Rule
		s string
	}{
		{one(0, "UTC"), "UTC0"},
		{one(3600, "CET"), "CET-1"},
		{one(-36000, "HST"), "HST10"},
		{one(20700, "+0545"), "<+0545>-5:45"},
		{one(-12600, "-0330"), "<-0330>3:30"},
		{one(-86400, "-24"), "<-24>24"},
		{named("CET", "CEST", two(3600, 7200, weekly(3, 5, 0), timed(weekly(10, 5, 0), 10800))), "CET-1CEST,M3.5.0,M10.5.0/3"},
		{named("NZST", "NZDT", two(43200, 46800, weekly(9, 5, 0), timed(weekly(4, 1, 0), 10800))), "NZST-12NZDT,M9.5.0,M4.1.0/3"},
		{named("IST", "GMT", two(3600, 0, weekly(10, 5, 0), timed(weekly(3, 5, 0), 3600))), "IST-1GMT0,M10.5.0,M3.5.0/1"},
		{named("+1030", "+11", two(37800, 39600, weekly(10, 1, 0), weekly(4, 1, 0))), "<+1030>-10:30<+11>-11,M10.1.0,M4.1.0"},
		{named("IRST", "IRDT", two(12600, 16200, timed(julian(80), 0), timed(julian(264), 0))), "IRST-3:30IRDT,J80/0,J264/0"},
		{named("XXX", "YYY", two(-3661, -5, timed(plain(0), 1), timed(julian(365), 86399))), "XXX1:01:01YYY0:00:05,0/0:00:01,J365/23:59:59"},
	} {
		finely(t, c.r, c.s)
	}
	for _, c := range []struct {
		r api.Rule
		s string
	}{
		{named("-03", "-02", two(-10800, -7200, timed(weekly(3, 5, 0), -7200), timed(weekly(10, 5, 0), -3600))), "<-03>3<-02>,M3.5.0/-2,M10.5.0/-1"},
		{named("EET", "EEST", two(7200, 10800, timed(weekly(3, 4, 4), 180000), timed(weekly(10, 4, 4), 180000))), "EET-2EEST,M3.4.4/50,M10.4.4/50"},
		{named("XXX", "YYY", two(0, 1, timed(plain(365), -604799), timed(julian(1), 604799))), "XXX0YYY-0:00:01,365/-167:59:59,J1/167:59:59"},
	} {
		fine(t, c.r, true, c.s)
		wrong(t, "wide alone", c.r, false)
		fails(t, c.s, false)
	}
}

// texts are the two ways in which a name may be written.
func texts(name string) []string {
	return []string{name, "<" + name + ">"}
}

func TestLengthsOfNames(t *testing.T) {
	all := "ABCDEFGHIJKLMnopqrstuvwxyz"
	for n := range 23 {
		name := all[:n]
		mixed := strings.Repeat("+", n)
		alone, both := one(0, name), two(0, 3600, julian(7), plain(8))
		both.Dst.Name = name
		alone2, both2 := one(0, mixed), both
		both2.Dst.Name = mixed
		if n >= 3 && n <= 20 {
			finely(t, alone, name+"0")
			finely(t, both, "AAA0"+name+",J7,8")
			finely(t, alone2, "<"+mixed+">0")
			finely(t, both2, "AAA0<"+mixed+">,J7,8")
			continue
		}
		for _, r := range []api.Rule{alone, both, alone2, both2} {
			wrongly(t, "a name's length", r)
		}
		for _, text := range append(texts(name), texts(mixed)...) {
			failsBoth(t, text+"0", "AAA0"+text+",J7,8", text+"0BBB,J7,8", "AAA0"+text+"1,J7,8")
		}
	}
	failsBoth(t, strings.Repeat("A", 1<<20)+"0", "<"+strings.Repeat("A", 1<<20)+">0", strings.Repeat("A", 1<<20), "<"+strings.Repeat("A", 1<<20))
	wrongly(t, "a long name", one(0, strings.Repeat("A", 1<<20)))
}

func TestBytesOfNames(t *testing.T) {
	const other = "0123456789+-"
	isLetter := func(octet int) bool {
		return octet >= 'a' && octet <= 'z' || octet >= 'A' && octet <= 'Z'
	}
	for octet := range 256 {
		stopFailed(t)
		for place := range 5 {
			b := []byte("QrStU")
			b[place] = byte(octet)
			name := string(b)
			alone, both := one(0, name), two(0, 3600, julian(7), plain(8))
			both.Dst.Name = name
			switch {
			case isLetter(octet):
				finely(t, alone, name+"0")
				finely(t, both, "AAA0"+name+",J7,8")
				readsBoth(t, "<"+name+">0", alone)
				readsBoth(t, "AAA0<"+name+">,J7,8", both)
			case strings.IndexByte(other, byte(octet)) >= 0:
				finely(t, alone, "<"+name+">0")
				finely(t, both, "AAA0<"+name+">,J7,8")
				for _, wide := range forms {
					agrees(t, name+"0", wide)
					agrees(t, "AAA0"+name+",J7,8", wide)
				}
			default:
				wrongly(t, "a byte of a name", alone)
				wrongly(t, "a byte of a name", both)
				for _, text := range texts(name) {
					failsBoth(t, text+"0", "AAA0"+text+",J7,8")
				}
			}
		}
	}
	wrongly(t, "letters beyond ASCII", one(0, "Zürich"))
	wrongly(t, "digits beyond ASCII", one(0, "+٠٣٣"))
	failsBoth(t, "Zürich0", "<Zürich>0", "<+٠٣٣>0", "AAA٠", "AAA-١")
}

func TestOffsets(t *testing.T) {
	for _, c := range []struct {
		off int
		s   string
	}{
		{0, "0"}, {1, "-0:00:01"}, {-1, "0:00:01"}, {59, "-0:00:59"}, {-59, "0:00:59"}, {60, "-0:01"}, {-60, "0:01"}, {61, "-0:01:01"}, {-61, "0:01:01"},
		{599, "-0:09:59"}, {-600, "0:10"}, {-609, "0:10:09"}, {610, "-0:10:10"}, {3540, "-0:59"}, {3599, "-0:59:59"}, {-3599, "0:59:59"},
		{3601, "-1:00:01"}, {-3600, "1"}, {3660, "-1:01"}, {-35999, "9:59:59"}, {35999, "-9:59:59"}, {36000, "-10"}, {-36000, "10"}, {-36001, "10:00:01"},
		{86399, "-23:59:59"}, {-86399, "23:59:59"}, {86400, "-24"}, {-86400, "24"}, {86401, "-24:00:01"}, {89940, "-24:59"},
		{89998, "-24:59:58"}, {-89998, "24:59:58"}, {89999, "-24:59:59"}, {-89999, "24:59:59"},
	} {
		finely(t, one(c.off, "ABC"), "ABC"+c.s)
		finely(t, two(12345, c.off, julian(7), plain(8)), "AAA-3:25:45BBB"+c.s+",J7,8")
		finely(t, two(c.off, -2800, julian(7), plain(8)), "AAA"+c.s+"BBB0:46:40,J7,8")
	}
	for _, off := range []int{90000, 90001, -90000, -90001, 604799, math.MaxInt32, math.MinInt32, math.MaxInt, math.MaxInt - 3599, math.MinInt, math.MinInt + 1} {
		wrongly(t, "an offset", one(off, "ABC"))
		wrongly(t, "an offset of Std", two(off, 0, julian(7), plain(8)))
		wrongly(t, "an offset of Dst", two(0, off, julian(7), plain(8)))
		wrongly(t, "an offset of Std, Dst left out", two(off, off+3600, julian(7), plain(8)))
	}
	for _, s := range []string{"25", "-25", "+25", "25:00", "24:60", "-24:60", "24:59:60", "30", "99", "-99:59:59"} {
		failsBoth(t, "ABC"+s, "AAA"+s+"BBB0,J7,8", "AAA0BBB"+s+",J7,8")
	}
}

func TestOffsetOfDstLeftOut(t *testing.T) {
	day, end := julian(7), plain(8)
	for _, c := range []struct {
		std, dst int
		s        string
	}{
		{0, 3600, "AAA0BBB"}, {0, 3599, "AAA0BBB-0:59:59"}, {0, 3601, "AAA0BBB-1:00:01"}, {0, 0, "AAA0BBB0"}, {0, -3600, "AAA0BBB1"}, {0, 7200, "AAA0BBB-2"},
		{-3600, 0, "AAA1BBB"}, {-3600, 3600, "AAA1BBB-1"}, {-3600, -3600, "AAA1BBB1"}, {3600, 7200, "AAA-1BBB"}, {3600, 0, "AAA-1BBB0"}, {3600, 3600, "AAA-1BBB-1"},
		{-1800, 1800, "AAA0:30BBB"}, {-89999, -86399, "AAA24:59:59BBB"}, {-89999, -86398, "AAA24:59:59BBB23:59:58"}, {-89999, -89999, "AAA24:59:59BBB24:59:59"},
		{86399, 89999, "AAA-23:59:59BBB"}, {86400, 89999, "AAA-24BBB-24:59:59"}, {89999, 89999, "AAA-24:59:59BBB-24:59:59"}, {89999, 86399, "AAA-24:59:59BBB-23:59:59"},
	} {
		finely(t, two(c.std, c.dst, day, end), c.s+",J7,8")
	}
	// What is left out must be right, too.
	failsBoth(t, "AAA-24BBB,J7,8", "AAA-24:00:01BBB,J7,8", "AAA-24:59:59BBB,J7,8")
	wrongly(t, "Dst too far ahead", two(86400, 90000, day, end))
	// What might be left out may stand.
	readsBoth(t, "AAA0BBB-1,J7,8", two(0, 3600, day, end))
	readsBoth(t, "AAA5BBB4,J7,8", two(-18000, -14400, day, end))
	readsBoth(t, "AAA5:30BBB+04:30:00,J7,8", two(-19800, -16200, day, end))
	readsBoth(t, "AAA-23:59:59BBB-24:59:59,J7,8", two(86399, 89999, day, end))
}

func TestMarksOfKinds(t *testing.T) {
	r := one(0, "AAA")
	r.Std.Dst = true
	wrongly(t, "Std's Dst", r)
	r = two(0, 3600, julian(7), plain(8))
	r.Std.Dst = true
	wrongly(t, "Std's Dst, of two", r)
	r = two(0, 3600, julian(7), plain(8))
	r.Dst.Dst = false
	wrongly(t, "Dst's Dst", r)
	r.Std.Dst = true
	wrongly(t, "both, turned round", r)
	r = two(0, 3600, julian(7), plain(8))
	r.Both = false
	wrongly(t, "Both", r)
	r = one(0, "AAA")
	r.Both = true
	wrongly(t, "Both, of one", r)
	wrongly(t, "the zero rule", api.Rule{})
	wrongly(t, "nothing but Both", api.Rule{Both: true})
	r = two(0, 3600, julian(7), plain(8))
	r.Std = api.Kind{}
	wrongly(t, "no Std", r)
	r = two(0, 3600, julian(7), plain(8))
	r.Dst = api.Kind{Dst: true}
	wrongly(t, "no Dst", r)
	for _, r := range changing(api.Change{}) {
		wrongly(t, "no change", r)
	}
}

func TestOneKindAlone(t *testing.T) {
	for i, put := range []func(r *api.Rule){
		func(r *api.Rule) { r.Dst.Off = 1 },
		func(r *api.Rule) { r.Dst.Off = -1 },
		func(r *api.Rule) { r.Dst.Dst = true },
		func(r *api.Rule) { r.Dst.Name = "BBB" },
		func(r *api.Rule) { r.Dst.Name = "\x00" },
		func(r *api.Rule) { r.Start.How = api.DayPlain },
		func(r *api.Rule) { r.Start.N = 1 },
		func(r *api.Rule) { r.Start.Week = 1 },
		func(r *api.Rule) { r.Start.Weekday = -1 },
		func(r *api.Rule) { r.Start.Time = 7200 },
		func(r *api.Rule) { r.End.How = api.DayPlain },
		func(r *api.Rule) { r.End.N = -1 },
		func(r *api.Rule) { r.End.Week = 1 },
		func(r *api.Rule) { r.End.Weekday = 1 },
		func(r *api.Rule) { r.End.Time = 1 },
		func(r *api.Rule) { r.Start = julian(7) },
		func(r *api.Rule) { r.End = plain(8) },
	} {
		r := one(3600, "AAA")
		finely(t, r, "AAA-1")
		put(&r)
		wrongly(t, "beside one kind, "+string(rune('a'+i)), r)
	}
}

func TestDays(t *testing.T) {
	for _, c := range []struct {
		c api.Change
		s string
	}{
		{julian(1), "J1"}, {julian(2), "J2"}, {julian(59), "J59"}, {julian(60), "J60"}, {julian(100), "J100"}, {julian(364), "J364"}, {julian(365), "J365"},
		{plain(0), "0"}, {plain(1), "1"}, {plain(10), "10"}, {plain(99), "99"}, {plain(364), "364"}, {plain(365), "365"},
		{weekly(1, 1, 0), "M1.1.0"}, {weekly(12, 5, 6), "M12.5.6"}, {weekly(1, 5, 6), "M1.5.6"}, {weekly(12, 1, 0), "M12.1.0"}, {weekly(9, 2, 1), "M9.2.1"}, {weekly(10, 4, 5), "M10.4.5"},
	} {
		for i, r := range changing(c.c) {
			finely(t, r, "AAA0BBB,"+[]string{c.s + ",9", "9," + c.s}[i])
		}
	}
	for month := 1; month <= 12; month++ {
		for week := 1; week <= 5; week++ {
			for weekday := 0; weekday <= 6; weekday++ {
				for _, r := range changing(weekly(month, week, weekday)) {
					finely(t, r, tell(r))
				}
			}
		}
	}
}

func TestWrongDays(t *testing.T) {
	var all []api.Change
	for _, n := range []int{0, -1, 366, 367, 999, 1000, math.MaxInt, math.MinInt} {
		all = append(all, julian(n))
	}
	for _, n := range []int{-1, 366, 367, 999, 1000, math.MaxInt, math.MinInt} {
		all = append(all, plain(n))
	}
	for _, n := range []int{0, -1, 13, 14, 365, math.MaxInt, math.MinInt} {
		all = append(all, weekly(n, 1, 0), weekly(n, 5, 6))
	}
	for _, n := range []int{0, -1, 6, 7, math.MaxInt, math.MinInt} {
		all = append(all, weekly(1, n, 0), weekly(12, n, 6))
	}
	for _, n := range []int{-1, 7, 8, math.MaxInt, math.MinInt} {
		all = append(all, weekly(1, 1, n), weekly(12, 5, n))
	}
	for _, n := range []int{1, -1, 5, 6, math.MaxInt, math.MinInt} {
		for _, how := range []int{api.DayJulian, api.DayPlain} {
			all = append(all, api.Change{How: how, N: 1, Week: n, Time: 7200}, api.Change{How: how, N: 1, Weekday: n, Time: 7200}, api.Change{How: how, N: 1, Week: n, Weekday: n, Time: 7200})
		}
	}
	for _, how := range []int{0, -1, 4, 5, math.MaxInt, math.MinInt} {
		all = append(all, api.Change{How: how, N: 1, Time: 7200}, api.Change{How: how, N: 1, Week: 1, Weekday: 1, Time: 7200}, api.Change{How: how})
	}
	for _, c := range all {
		for _, r := range changing(c) {
			wrongly(t, "a day", r)
		}
	}
}

func TestWrongDaysInTexts(t *testing.T) {
	for _, s := range []string{
		"J0", "J00", "J000", "J366", "J367", "J999", "J1000", "J0001", "J", "J-1", "J+1", "J1.1", "J1.1.0", "JJ1", "j1", "J 1", "JM1.1.0", "J18446744073709551617",
		"366", "367", "999", "1000", "0000", "0001", "-1", "+1", "-0", "1.1", "1.1.0", "18446744073709551617", "x", "",
		"M0.1.0", "M00.1.0", "M000.1.0", "M13.1.0", "M013.1.0", "M100.1.0", "M0001.1.0", "M1.0.0", "M1.00.0", "M1.6.0", "M1.006.0", "M1.0001.0", "M1.1.7", "M1.1.007", "M1.1.10", "M1.1.0000",
		"M", "M1", "M1.", "M1.1", "M1.1.", "M.1.0", "M1..0", "M..", "M1.1.0.", "M1.1.0.0", "M-1.1.0", "M+1.1.0", "M1.-1.0", "M1.+1.0", "M1.1.-0", "M1.1.+0", "M1,1,0", "M1:1:0", "m1.1.0", "MM1.1.0", "MJ1.1.0", "M1.1.J0", "M 1.1.0", "M1. 1.0",
		"7J", "7M", "7x", "7 ",
	} {
		failsBoth(t, "AAA0BBB,"+s+",9", "AAA0BBB,9,"+s, "AAA0BBB,"+s+"/3,9/3", "AAA0BBB,9/3,"+s+"/3")
	}
}

func TestTimes(t *testing.T) {
	days := []struct {
		c api.Change
		s string
	}{{julian(7), "J7"}, {plain(8), "8"}, {weekly(3, 2, 0), "M3.2.0"}}
	check := func(time int, s string, rightNarrow, rightWide bool) {
		t.Helper()
		for _, day := range days {
			for i, r := range changing(timed(day.c, time)) {
				text := "AAA0BBB," + []string{day.s + s + ",9", "9," + day.s + s}[i]
				for j, right := range []bool{rightNarrow, rightWide} {
					if right {
						fine(t, r, forms[j], text)
						continue
					}
					wrong(t, "a time", r, forms[j])
					if s != "" {
						fails(t, text, forms[j])
					}
				}
			}
		}
	}
	for _, c := range []struct {
		time int
		s    string
	}{
		{0, "/0"}, {1, "/0:00:01"}, {59, "/0:00:59"}, {60, "/0:01"}, {61, "/0:01:01"}, {600, "/0:10"}, {3599, "/0:59:59"}, {3600, "/1"}, {3601, "/1:00:01"}, {7140, "/1:59"}, {7199, "/1:59:59"},
		{7200, ""}, {7201, "/2:00:01"}, {7260, "/2:01"}, {10800, "/3"}, {35999, "/9:59:59"}, {36000, "/10"}, {72000, "/20"}, {86399, "/23:59:59"}, {86400, "/24"}, {86401, "/24:00:01"}, {89998, "/24:59:58"}, {89999, "/24:59:59"},
	} {
		check(c.time, c.s, true, true)
	}
	for _, c := range []struct {
		time int
		s    string
	}{
		{-1, "/-0:00:01"}, {-60, "/-0:01"}, {-3600, "/-1"}, {-3601, "/-1:00:01"}, {-7200, "/-2"}, {-7199, "/-1:59:59"}, {-7201, "/-2:00:01"}, {-89999, "/-24:59:59"}, {-90000, "/-25"}, {-359999, "/-99:59:59"}, {-360000, "/-100"}, {-604798, "/-167:59:58"}, {-604799, "/-167:59:59"},
		{90000, "/25"}, {90001, "/25:00:01"}, {359999, "/99:59:59"}, {360000, "/100"}, {601200, "/167"}, {604798, "/167:59:58"}, {604799, "/167:59:59"},
	} {
		check(c.time, c.s, false, true)
	}
	for _, c := range []struct {
		time int
		s    string
	}{
		{604800, "/168"}, {604801, "/168:00:01"}, {-604800, "/-168"}, {-604801, "/-168:00:01"}, {3600000, "/1000"}, {3596400, "/999"},
		{math.MaxInt32, ""}, {math.MinInt32, ""}, {math.MaxInt, ""}, {math.MinInt, ""}, {math.MinInt + 1, ""},
	} {
		check(c.time, c.s, false, false)
	}
}

// TestHoursMinutesSeconds asks for what is left out of each number of seconds, in a time and in an offset.
func TestHoursMinutesSeconds(t *testing.T) {
	for seconds := -89999; seconds <= 89999; seconds += 7 {
		stopFailed(t)
		r := two(0, 3600, timed(plain(8), seconds), plain(9))
		fine(t, r, true, tell(r))
		r = one(seconds, "AAA")
		fine(t, r, false, tell(r))
	}
}

func TestOtherOffsets(t *testing.T) {
	for _, c := range []struct {
		s   string
		off int
	}{
		{"+5", -18000}, {"+0", 0}, {"+24:59:59", -89999}, {"+0:00:01", -1}, {"+05", -18000}, {"+00", 0}, {"+5:00:00", -18000},
		{"-0", 0}, {"-00", 0}, {"-0:00", 0}, {"-0:00:00", 0}, {"-00:00:00", 0},
		{"00", 0}, {"05", -18000}, {"-05", 18000}, {"09:59", -35940}, {"-01:02:03", 3723}, {"00:00:01", -1},
		{"5:00", -18000}, {"-5:00", 18000}, {"24:00", -86400}, {"0:00", 0},
		{"5:00:00", -18000}, {"-5:00:00", 18000}, {"24:00:00", -86400}, {"0:00:00", 0},
		{"5:30:00", -19800}, {"-5:30:00", 19800}, {"24:59:00", -89940}, {"0:01:00", -60},
		{"5:00:30", -18030}, {"-5:00:30", 18030},
	} {
		readsBoth(t, "ABC"+c.s, one(c.off, "ABC"))
		readsBoth(t, "<A1C>"+c.s, one(c.off, "A1C"))
		readsBoth(t, "AAA12BBB"+c.s+",J7,8", two(-43200, c.off, julian(7), plain(8)))
		readsBoth(t, "AAA"+c.s+"BBB12,J7,8", two(c.off, -43200, julian(7), plain(8)))
		readsBoth(t, "AAA12<BBB>"+c.s+",J7,8", two(-43200, c.off, julian(7), plain(8)))
	}
	for _, s := range []string{
		"", "+", "-", "++5", "--5", "+-5", "-+5", "5+", "5-", "- 5", " 5", "5 ", "x", ":30", "+:30", "/5", "5/0", "5.5",
		"000", "005", "012", "+005", "-005", "024", "100", "167", "0005", "18446744073709551621",
		"5:", "5::", "5::30", "5:3", "5:030", "5:300", "5:60", "5:99", "5:+30", "5:-30", "5: 30", "5:x0", "5:3x", "5.30",
		"5:30:", "5:30:3", "5:30:030", "5:30:60", "5:30:99", "5:30:+1", "5:30:-01", "5:30:x1", "5:00:", "5:00:0", "5:0", "5:0:00", "5:00:00:", "5:00:00:00", "5:00:00:0", "5:00 :00",
	} {
		failsBoth(t, "ABC"+s, "<A1C>"+s, "AAA"+s+"BBB12,J7,8")
		if s != "" {
			failsBoth(t, "AAA12<BBB>"+s+",J7,8")
		}
	}
}

func TestOtherNames(t *testing.T) {
	readsBoth(t, "<UTC>0", one(0, "UTC"))
	readsBoth(t, "<abcdefghijklmnopqrst>0", one(0, "abcdefghijklmnopqrst"))
	readsBoth(t, "<AAA>0BBB,J7,8", two(0, 3600, julian(7), plain(8)))
	readsBoth(t, "AAA0<BBB>,J7,8", two(0, 3600, julian(7), plain(8)))
	readsBoth(t, "<AAA>0<BBB>-2,J7,8", two(0, 7200, julian(7), plain(8)))
	readsBoth(t, "<123>4", one(-14400, "123"))
	readsBoth(t, "<+-+>-4", one(14400, "+-+"))
	readsBoth(t, "<--->+4", one(-14400, "---"))
	for _, s := range []string{
		"", "<>", "<", ">", "<<", "<AB", "<ABC", "ABC>", "<<ABC>", "<ABC>>", "<<ABC>>", "A<BC>", "<AB>C", "<AB>C>", "<A<B>", "<ABC>DEF", "ABC<DEF>", "<ABC><DEF>", "<ABC >", "< ABC>", "<A C>", "<A:C>", "<A/C>", "<A,C>", "<A.C>", "<A_C>", "<ABC\x00>",
		"A1C", "AB1C", "1BC", "+03", "-03", "A-C", "A+C", "A_C", "A C", " ABC", "ABC ", ":ABC", "\"ABC\"", "(ABC)", "[ABC]", "{ABC}",
	} {
		failsBoth(t, s+"0", "AAA12"+s+",J7,8")
		if s != "" {
			failsBoth(t, s+"0BBB,J7,8", "AAA12"+s+"3,J7,8")
		}
	}
}

func TestOtherTimes(t *testing.T) {
	day, end := julian(7), plain(8)
	check := func(s string, time int, wides ...bool) {
		t.Helper()
		for _, wide := range forms {
			start := "AAA0BBB,J7/" + s + ",8"
			behind := "AAA0BBB,J7,8/" + s
			if !slices.Contains(wides, wide) {
				fails(t, start, wide)
				fails(t, behind, wide)
				continue
			}
			reads(t, start, wide, two(0, 3600, timed(day, time), end))
			reads(t, behind, wide, two(0, 3600, day, timed(end, time)))
		}
	}
	for _, c := range []struct {
		s    string
		time int
	}{
		{"2", 7200}, {"02", 7200}, {"2:00", 7200}, {"2:00:00", 7200}, {"02:00:00", 7200},
		{"0", 0}, {"00", 0}, {"0:00", 0}, {"00:00:00", 0}, {"03", 10800}, {"3:00", 10800}, {"3:00:00", 10800}, {"3:30:00", 12600}, {"03:04:05", 11045}, {"24:00", 86400}, {"24:00:00", 86400}, {"24:59:00", 89940},
	} {
		check(c.s, c.time, false, true)
	}
	for _, c := range []struct {
		s    string
		time int
	}{
		{"+2", 7200}, {"+02", 7200}, {"+002", 7200}, {"+0", 0}, {"+24", 86400}, {"+100", 360000}, {"+167:59:59", 604799}, {"+2:00:00", 7200}, {"+0:00:01", 1},
		{"-0", 0}, {"-00", 0}, {"-000", 0}, {"-0:00", 0}, {"-0:00:00", 0}, {"-000:00:00", 0}, {"-2:00", -7200}, {"-02", -7200}, {"-002", -7200}, {"-2:30:00", -9000}, {"-167:59:59", -604799},
		{"000", 0}, {"002", 7200}, {"003", 10800}, {"024", 86400}, {"002:00", 7200}, {"002:00:00", 7200}, {"099:59:59", 359999}, {"025", 90000}, {"25", 90000}, {"30", 108000}, {"99", 356400}, {"100", 360000}, {"160", 576000}, {"167", 601200}, {"167:00", 601200}, {"167:59:00", 604740},
	} {
		check(c.s, c.time, true)
	}
	for _, s := range []string{
		"", "+", "-", "++2", "--2", "+-2", "-+2", "2+", "2-", " 2", "2 ", "- 2", "x", "J2", ":30", "-:30", ",",
		"168", "-168", "+168", "168:00:00", "170", "200", "999", "0000", "0002", "-0002", "+0002", "0167", "1000", "18446744073709551618", "36028797018963970",
		"2:", "2::", "2::30", "2:3", "2:030", "2:60", "2:99", "2:+30", "2:-30", "2: 30", "2:x0", "2.30", "24:60", "24:59:60",
		"2:30:", "2:30:3", "2:30:030", "2:30:60", "2:30:99", "2:30:+1", "2:30:-01", "2:0", "2:00:0", "2:0:00", "2:00:00:", "2:00:00:00", "2/3", "/2", "167:60", "167:59:60", "-167:59:60",
	} {
		check(s, 0)
	}
}

func TestNoughtsAhead(t *testing.T) {
	for _, c := range []struct {
		s string
		c api.Change
	}{
		{"J01", julian(1)}, {"J001", julian(1)}, {"J60", julian(60)}, {"J060", julian(60)}, {"J365", julian(365)},
		{"00", plain(0)}, {"000", plain(0)}, {"01", plain(1)}, {"001", plain(1)}, {"060", plain(60)},
		{"M03.2.0", weekly(3, 2, 0)}, {"M003.2.0", weekly(3, 2, 0)}, {"M012.2.0", weekly(12, 2, 0)}, {"M3.02.0", weekly(3, 2, 0)}, {"M3.002.0", weekly(3, 2, 0)}, {"M3.2.00", weekly(3, 2, 0)}, {"M3.2.000", weekly(3, 2, 0)}, {"M3.2.06", weekly(3, 2, 6)}, {"M3.2.006", weekly(3, 2, 6)}, {"M003.002.006", weekly(3, 2, 6)},
	} {
		for i, r := range changing(c.c) {
			readsBoth(t, "AAA0BBB,"+[]string{c.s + ",9", "9," + c.s}[i], r)
			readsBoth(t, "AAA0BBB,"+[]string{c.s + "/2,9", "9," + c.s + "/02:00"}[i], r)
		}
	}
	for _, s := range []string{"J0001", "J0000", "J0365", "0000", "0001", "0365", "M0003.2.0", "M0012.2.0", "M3.0002.0", "M3.2.0000", "M3.2.0006"} {
		failsBoth(t, "AAA0BBB,"+s+",9", "AAA0BBB,9,"+s)
	}
}

func TestPartsOfTexts(t *testing.T) {
	failsBoth(t,
		"", " ", "\x00", "\n", ",", "0", "ABC", "<ABC>", "AB0", "5ABC", "ABC5\n", "ABC5 ", " ABC5", ":ABC5", "ABC5\x00", "ABC5,", "ABC5/2", "ABC5,0", "ABC5,0,0", "ABC5,M3.2.0,M11.1.0", "ABC55", "ABC5 BBB,0,0",
		"AAA0BBB", "AAA0BBB5", "AAA0BBB,", "AAA0BBB,,", "AAA0BBB,0", "AAA0BBB,0,", "AAA0BBB,,0", "AAA0BBB,0,0,", "AAA0BBB,0,0,0", "AAA0BBB,0,,0", "AAA0BBB,,0,0", "AAA0BBB0,0", "AAA0BBB.0.0", "AAA0BBB;0;0", "AAA0BBB, 0,0", "AAA0BBB,0, 0", "AAA0BBB,0 ,0", "AAA0BBB ,0,0", "AAA0BBB,0,0 ", "AAA0BBB,0,0\n", "AAA0BBB,0,0\x00", "AAA0BBB,0,0/", "AAA0BBB,0/,0", "AAA0BBB,/2,0", "AAA0BBB,0,/2", "AAA0BBB,0/2/2,0", "AAA0BBB/2,0,0",
		"AAABBB,0,0", "AAA0,0,0BBB", "AAA0BBB0CCC,0,0", "AAA0BBBCCC0DDD,0,0", "AAA0BBB,0,0BBB", "BBB,0,0", ",0,0", "AAA0BBB,0,0,AAA0", "AAA0BBB,M3.2.0", "AAA0BBB,M3.2.0,", "AAA0BBB,M3.2.0.M11.1.0",
		"UTC0\xff", "\xffUTC0", "UT\xff0", "UTC\xff0", "\xef\xbb\xbfUTC0",
		strings.Repeat("AAA0", 1000), strings.Repeat("<", 1000), "AAA"+strings.Repeat("0", 1<<20), "AAA0BBB,"+strings.Repeat("1", 1<<20)+",0", "AAA0BBB,0/"+strings.Repeat("0", 1<<20)+",0", "AAA0"+strings.Repeat(":00", 1<<20),
	)
}

// ordinary texts, of which each thing that may stand in a text is in one at least.
func ordinary() []string {
	return []string{
		"UTC0",
		"<+0330>-3:30",
		"EST5EDT,M3.2.0,M11.1.0",
		"<-03>+03:00:07<-02>-1:59,J60/0,365/24:59:59",
		"<A1>5<+B+>4:00,M12.5.6/+167:59,00/-1",
		"AbC-24:59:59dEf24,M010.004.03/-023:00:01,J365/2",
	}
}

// alphabet is each byte that may stand in a text, and some that may not.
const alphabet = "0123456789+-:,./<>AJMZajmz \x00_"

func TestTextsCut(t *testing.T) {
	for _, s := range ordinary() {
		for _, wide := range forms {
			for i := range len(s) + 1 {
				agrees(t, s[:i], wide)
				agrees(t, s[i:], wide)
				for j := i; j <= len(s); j++ {
					agrees(t, s[:i]+s[j:], wide)
				}
			}
		}
	}
	// A text of two kinds has two beginnings that are texts of one kind: the offset by one digit, and by two.
	s := "EST05EDT,M3.2.0,M11.1.0"
	for i := range s {
		for _, wide := range forms {
			switch i {
			case 4:
				reads(t, s[:i], wide, one(0, "EST"))
			case 5:
				reads(t, s[:i], wide, one(-18000, "EST"))
			default:
				fails(t, s[:i], wide)
			}
		}
	}
}

func TestTextsChanged(t *testing.T) {
	for _, s := range ordinary() {
		for _, wide := range forms {
			for i := range len(s) {
				for octet := range 256 {
					agrees(t, s[:i]+string([]byte{byte(octet)})+s[i+1:], wide)
				}
			}
		}
	}
}

func TestTextsWithMore(t *testing.T) {
	for _, s := range ordinary() {
		for _, wide := range forms {
			for octet := range 256 {
				agrees(t, s+string([]byte{byte(octet)}), wide)
				agrees(t, string([]byte{byte(octet)})+s, wide)
			}
			for i := range len(s) {
				for j := range len(alphabet) {
					agrees(t, s[:i]+alphabet[j:j+1]+s[i:], wide)
				}
			}
			for j := range len(alphabet) {
				for k := range len(alphabet) {
					agrees(t, s+alphabet[j:j+1]+alphabet[k:k+1], wide)
				}
			}
			agrees(t, s+s, wide)
		}
	}
	for octet := range 256 {
		stopFailed(t)
		behind := string([]byte{byte(octet)})
		if octet < '0' || octet > '9' {
			failsBoth(t, "EST5"+behind, "EST5EDT,M3.2.0,M11.1.0"+behind)
		}
		failsBoth(t, "EST24:59:59"+behind, "EST5EDT,M3.2.0,M11.1.000"+behind, "EST5EDT,M3.2.0,M11.1.0/2:00:00"+behind)
	}
}

// TestPieces puts texts together from pieces, right ones and wrong ones, always by the same numbers.
func TestPieces(t *testing.T) {
	random := rand.New(rand.NewSource(8))
	names := []string{"AAA", "<AAA>", "<+01>", "abcdefghijklmnopqrst", "AA", "<A>", "abcdefghijklmnopqrstu", "A1A"}
	hours := []string{"0", "00", "000", "5", "05", "24", "24:59:59", "25", "-0", "-5", "+5", "-24:59:59", "+24:00", "-25", "1:00", "1:00:00", "1:30:00", "1:60", "1:0", "100", "-100", "167:59:59", "168"}
	days := []string{"J1", "J365", "J0", "J366", "0", "365", "366", "000", "M1.1.0", "M12.5.6", "M001.001.000", "M0.1.0", "M13.1.0", "M1.0.0", "M1.6.0", "M1.1.7", "M1.1", "J01"}
	one := func(all []string) string {
		// The first ones, which are right in most places, come more often.
		return all[min(random.Intn(len(all)), random.Intn(len(all)))]
	}
	maybe := func(s string) string {
		if random.Intn(2) == 0 {
			return ""
		}
		return s
	}
	right := [2]int{}
	for range 40000 {
		s := one(names) + one(hours)
		if random.Intn(8) > 0 {
			s += one(names) + maybe(one(hours)) + "," + one(days) + maybe("/"+one(hours)) + "," + one(days) + maybe("/"+one(hours))
		}
		for i, wide := range forms {
			agrees(t, s, wide)
			if _, err := Parse(s, wide); err == api.OK {
				right[i]++
			}
		}
	}
	if right[0] < 2000 || right[1] <= right[0] {
		t.Error("too few of the texts are right:", right)
	}
}

// TestRulesAsTheyWere tells rules of all kinds, always by the same numbers, and reads them.
func TestRulesAsTheyWere(t *testing.T) {
	random := rand.New(rand.NewSource(26))
	const signs = "ABCXYZabcxyz0189+-"
	upTo := func(most int) int {
		// Round numbers are those of which something is left out.
		unit := []int{1, 1, 60, 3600}[random.Intn(4)]
		return (random.Intn(2*most+1) - most) / unit * unit
	}
	name := func() string {
		b := make([]byte, 3+random.Intn(18))
		some := []int{12, 18}[random.Intn(2)]
		for i := range b {
			b[i] = signs[random.Intn(some)]
		}
		return string(b)
	}
	change := func(wide bool) api.Change {
		c := []api.Change{julian(1 + random.Intn(365)), plain(random.Intn(366)), weekly(1+random.Intn(12), 1+random.Intn(5), random.Intn(7))}[random.Intn(3)]
		switch {
		case random.Intn(4) == 0:
		case wide:
			c.Time = upTo(604799)
		default:
			c.Time = max(0, upTo(89999))
		}
		return c
	}
	for range 20000 {
		stopFailed(t)
		for _, wide := range forms {
			r := one(upTo(89999), name())
			if random.Intn(4) > 0 {
				r.Both, r.Start, r.End = true, change(wide), change(wide)
				r.Dst = api.Kind{Off: upTo(89999), Dst: true, Name: name()}
			}
			if r.Both && random.Intn(3) == 0 && r.Std.Off <= 86399 {
				r.Dst.Off = r.Std.Off + 3600
			}
			fine(t, r, wide, tell(r))
			if !wide {
				fine(t, r, true, tell(r))
			}
		}
	}
}

// TestNothingIsKept writes over the text's memory, and over the rule's, behind the call.
func TestNothingIsKept(t *testing.T) {
	for _, s := range []string{"EST5EDT,M3.2.0,M11.1.0", "<EST>5<EDT>,M3.2.0,M11.1.0", "<-05>5<-04>,M3.2.0,M11.1.0"} {
		for _, wide := range forms {
			want, err := Parse(s, wide)
			if err != api.OK {
				t.Fatal(s, err)
			}
			b := []byte(s)
			r, _ := Parse(unsafe.String(&b[0], len(b)), wide)
			if string(b) != s {
				t.Errorf("the text %q is now %q", s, b)
			}
			clear(b)
			if r != want {
				t.Errorf("%q: %v, not %v", s, r, want)
			}
			name := []byte(want.Std.Name)
			r = one(3600, unsafe.String(&name[0], len(name)))
			text, _ := Print(r, wide)
			was := strings.Clone(text)
			clear(name)
			if text != was {
				t.Errorf("%q, not %q", text, was)
			}
		}
	}
}

func TestSameCallsSameAnswers(t *testing.T) {
	for range 3 {
		for _, s := range ordinary() {
			fails(t, s+"x", true)
			agrees(t, s, true)
			agrees(t, s, false)
			fails(t, "", false)
		}
		wrongly(t, "the zero rule", api.Rule{})
		finely(t, one(0, "UTC"), "UTC0")
	}
}
