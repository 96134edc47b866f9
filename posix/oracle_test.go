package posix

import (
	"fmt"
	"regexp"
	"strconv"

	"longcase/api"
)

// What a text may be, written out as patterns, without a call of the package: numbers by their digits, not by their size.
const (
	namePattern   = `(?:([A-Za-z]{3,20})|<([A-Za-z0-9+-]{3,20})>)`
	sixtyPattern  = `(?::([0-5][0-9])(?::([0-5][0-9]))?)?`
	hoursPattern  = `([0-9]|[01][0-9]|2[0-4])` + sixtyPattern
	signPattern   = `([+-]?)`
	widePattern   = signPattern + `([0-9]{1,2}|0[0-9]{2}|1[0-5][0-9]|16[0-7])` + sixtyPattern
	narrowPattern = `()` + hoursPattern
	yearPattern   = `0{0,2}[1-9]|0?[1-9][0-9]|[12][0-9][0-9]|3[0-5][0-9]|36[0-5]`
	dayPattern    = `(?:J(` + yearPattern + `)|(0{1,3}|` + yearPattern + `)|M(0{0,2}[1-9]|0?1[0-2])\.(0{0,2}[1-5])\.(0{0,2}[0-6]))`
)

var (
	narrowTexts = textsOf(narrowPattern)
	wideTexts   = textsOf(widePattern)
)

func textsOf(timePattern string) *regexp.Regexp {
	offset := signPattern + hoursPattern
	change := `,` + dayPattern + `(/` + timePattern + `)?`
	return regexp.MustCompile(`\A` + namePattern + offset + `(` + namePattern + `(` + offset + `)?` + change + change + `)?\z`)
}

// expect tells what Parse must tell of a text.
func expect(s string, wide bool) (api.Rule, api.Errno) {
	texts := narrowTexts
	if wide {
		texts = wideTexts
	}
	m := texts.FindStringSubmatch(s)
	if m == nil {
		return api.Rule{}, api.ErrForm
	}
	r := api.Rule{Std: api.Kind{Name: m[1] + m[2], Off: -span(m[3:7])}}
	if m[7] == "" {
		return r, api.OK
	}
	r.Both = true
	r.Dst = api.Kind{Dst: true, Name: m[8] + m[9], Off: r.Std.Off + 3600}
	if m[10] != "" {
		r.Dst.Off = -span(m[11:15])
	}
	if r.Dst.Off > 89999 {
		return api.Rule{}, api.ErrForm
	}
	r.Start, r.End = dayOf(m[15:25]), dayOf(m[25:35])
	return r, api.OK
}

func span(m []string) int {
	seconds := numeral(m[1])*3600 + numeral(m[2])*60 + numeral(m[3])
	if m[0] == "-" {
		return -seconds
	}
	return seconds
}

func dayOf(m []string) api.Change {
	c := api.Change{Time: 7200}
	switch {
	case m[0] != "":
		c.How, c.N = 1, numeral(m[0])
	case m[1] != "":
		c.How, c.N = 2, numeral(m[1])
	default:
		c.How, c.N, c.Week, c.Weekday = 3, numeral(m[2]), numeral(m[3]), numeral(m[4])
	}
	if m[5] != "" {
		c.Time = span(m[6:10])
	}
	return c
}

// numeral is 0 where nothing stands.
func numeral(s string) int {
	n, _ := strconv.Atoi(s)
	return n
}

var letters = regexp.MustCompile(`\A[A-Za-z]*\z`)

// tell tells what Print must tell of a right rule.
func tell(r api.Rule) string {
	s := tellName(r.Std.Name) + tellClock(-r.Std.Off)
	if !r.Both {
		return s
	}
	s += tellName(r.Dst.Name)
	if r.Dst.Off-r.Std.Off != 3600 {
		s += tellClock(-r.Dst.Off)
	}
	return s + tellChange(r.Start) + tellChange(r.End)
}

func tellName(name string) string {
	if letters.MatchString(name) {
		return name
	}
	return "<" + name + ">"
}

func tellClock(n int) string {
	sign := ""
	if n < 0 {
		sign, n = "-", -n
	}
	s := fmt.Sprintf("%s%d:%02d:%02d", sign, n/3600, n/60%60, n%60)
	for range 2 {
		if s[len(s)-3:] != ":00" {
			break
		}
		s = s[:len(s)-3]
	}
	return s
}

func tellChange(c api.Change) string {
	s := map[int]string{
		1: fmt.Sprintf(",J%d", c.N),
		2: fmt.Sprintf(",%d", c.N),
		3: fmt.Sprintf(",M%d.%d.%d", c.N, c.Week, c.Weekday),
	}[c.How]
	if c.Time != 7200 {
		s += "/" + tellClock(c.Time)
	}
	return s
}
