package zone

import (
	"bytes"
	"math"
	"math/rand"
	"slices"
	"strings"
	"testing"
	"unsafe"

	"longcase/api"
	"longcase/tzif"
)

// writes asks that a zone is written as it must be, with this footer, and read as it was.
func writes(t *testing.T, z api.Zone, version int, footer string) {
	t.Helper()
	was := cloneZone(z)
	want := fileOf(version, was, footer, nil, nil)
	b, err := Write(z, version)
	if !bytes.Equal(b, want) || err != api.OK {
		t.Errorf("version %d: %.300q, %v, not %.300q: %s", version, b, err, want, brief(z))
	}
	if !same(z, was) {
		t.Fatalf("the zone was changed: %s", brief(z))
	}
	reads(t, want, was)
}

// refused asks that a zone is not written.
func refused(t *testing.T, why string, z api.Zone, version int) {
	t.Helper()
	was := cloneZone(z)
	if b, err := Write(z, version); len(b) != 0 || err != api.ErrArg {
		t.Errorf("%s: version %d: %d bytes, %v: %s", why, version, len(b), err, brief(z))
	}
	if !same(z, was) {
		t.Fatalf("%s: the zone was changed", why)
	}
}

// reads asks that bytes are read as a zone, which is right, and left as they were.
func reads(t *testing.T, b []byte, want api.Zone) {
	t.Helper()
	was := slices.Clone(b)
	z, err := Read(b)
	if !same(z, want) || err != api.OK {
		t.Errorf("read as %s, %v, not %s", brief(z), err, brief(want))
	}
	if err == api.OK && !Right(z) {
		t.Errorf("what is read is not right: %s", brief(z))
	}
	if !bytes.Equal(b, was) {
		t.Fatal("Read wrote over its bytes")
	}
}

// fails asks for an error, and for a zero zone beside it.
func fails(t *testing.T, why string, b []byte, want api.Errno) {
	t.Helper()
	was := slices.Clone(b)
	if z, err := Read(b); !empty(z) || err != want {
		t.Errorf("%s: %s, %v, not %v", why, brief(z), err, want)
	}
	if !bytes.Equal(b, was) {
		t.Fatalf("%s: Read wrote over its bytes", why)
	}
}

func TestOrdinaryZonesAreWrittenAndRead(t *testing.T) {
	for _, text := range narrowTexts() {
		for _, z := range ordinary(t, text) {
			for version := 2; version <= 4; version++ {
				writes(t, z, version, text)
			}
		}
	}
}

// TestZonesAtTheEdges: in version 4 all zones are written that are right, and not too long.
func TestZonesAtTheEdges(t *testing.T) {
	for why, z := range rights(t) {
		b, err := Write(z, 4)
		if err != api.OK {
			t.Errorf("%s: %v", why, err)
		}
		if back, err := Read(b); !same(back, z) || err != api.OK {
			t.Errorf("%s: read as %s, %v, not %s", why, brief(back), err, brief(z))
		}
	}
}

func TestVersionsThatAreNotWritten(t *testing.T) {
	for _, version := range []int{math.MinInt, -4, -3, -2, -1, 0, 1, 5, 6, '2', '3', '4', 1<<8 + 2, 1<<32 + 2, 2 - 1<<32, math.MaxInt} {
		for _, text := range narrowTexts() {
			for _, z := range ordinary(t, text) {
				refused(t, "a version", z, version)
			}
		}
		refused(t, "a version, and a wide rule", ruledBy(t, least(), wideTexts()[0]), version)
		refused(t, "a version, and leap seconds of the last one", leaping(idle()...), version)
		refused(t, "a version, and no zone", api.Zone{}, version)
	}
}

func TestRulesThatAreRightInTheWideFormAlone(t *testing.T) {
	for _, text := range wideTexts() {
		for _, bare := range []api.Zone{least(), jumping(-5, 1<<40)} {
			z := ruledBy(t, bare, text)
			refused(t, text, z, 2)
			writes(t, z, 3, text)
			writes(t, z, 4, text)
		}
	}
	// At the edges of the narrow form.
	for _, text := range []string{"AAA0BBB,0/0,J365/24:59:59", "AAA0BBB,0/24:59:59,J365/0"} {
		for version := 2; version <= 4; version++ {
			writes(t, ruledBy(t, least(), text), version, text)
		}
	}
}

func TestLeapSecondsThatAreRightInTheLastVersionAlone(t *testing.T) {
	for _, leaps := range [][]api.Leap{idle(), {{At: 5, Corr: 1}, {At: 6, Corr: 1}}, {{At: 0, Corr: -1}, {At: math.MaxInt64, Corr: -1}}} {
		for _, text := range []string{"", "UTC0"} {
			z := leaping(leaps...)
			if text != "" {
				z = ruledBy(t, z, text)
			}
			refused(t, "the last Corr is the same", z, 2)
			refused(t, "the last Corr is the same", z, 3)
			writes(t, z, 4, text)
			// Such bytes are not read either, but of version 4.
			fails(t, "the last Corr is the same", fileOf(2, z, text, nil, nil), api.ErrForm)
			fails(t, "the last Corr is the same", fileOf(3, z, text, nil, nil), api.ErrForm)
		}
	}
}

// longest is a zone whose file has 100000 bytes: two headers, 7 bytes of a short block, 9 of each jump, 12 of each leap, 7 of the kind, 2 line ends, and the footer's 8.
func longest(t *testing.T) api.Zone {
	t.Helper()
	return ruledBy(t, api.Zone{Kinds: []api.Kind{{}}, Jumps: following(5000), Leaps: rising(4574)}, "ABCDE-12")
}

func TestZonesThatAreTooLong(t *testing.T) {
	for version := 2; version <= 4; version++ {
		z := longest(t)
		if b, err := Write(z, version); len(b) != 100000 || err != api.OK {
			t.Errorf("version %d: %d bytes, %v", version, len(b), err)
		}
		writes(t, z, version, "ABCDE-12")
		// A zone is right by itself, however long its file would be.
		for why, longer := range map[string]api.Zone{
			"a byte more":     ruledBy(t, z, "ABCDE-12:01"),
			"a name's byte":   ruledBy(t, z, "ABCDEF-12"),
			"a kind's name":   {Kinds: []api.Kind{{Name: "A"}}, Jumps: z.Jumps, Leaps: z.Leaps, Rule: z.Rule, Ruled: true},
			"a leap more":     {Kinds: z.Kinds, Jumps: z.Jumps, Leaps: rising(4575), Rule: z.Rule, Ruled: true},
			"all there is":    {Kinds: make([]api.Kind, 256), Jumps: z.Jumps, Leaps: rising(5000)},
			"without a rule":  {Kinds: z.Kinds, Jumps: z.Jumps, Leaps: rising(4575)},
			"a kind that may": {Kinds: make([]api.Kind, 2), Jumps: z.Jumps, Leaps: z.Leaps, Rule: z.Rule, Ruled: true},
		} {
			if !Right(longer) {
				t.Errorf("%s: not right", why)
			}
			refused(t, why, longer, version)
		}
	}
	fails(t, "a file of 100001 bytes", fileOf(3, longest(t), "ABCDEF-12", nil, nil), api.ErrForm)
}

// TestTheLongestRule: no rule's text is too long for a footer.
func TestTheLongestRule(t *testing.T) {
	name := strings.Repeat("+", 20)
	text := "<" + name + ">-24:59:59<" + name + ">-24:59:59,M12.5.6/-167:59:59,M11.5.6/-167:59:59"
	if len(text) != 100 {
		t.Fatal(len(text))
	}
	z := ruledBy(t, jumping(5), text)
	writes(t, z, 3, text)
	writes(t, z, 4, text)
	refused(t, "wide", z, 2)
}

func TestAnyZoneIsWrittenAndRead(t *testing.T) {
	random := rand.New(rand.NewSource(2))
	for range 1000 {
		z := anyZone(t, random)
		b, err := Write(z, 3+random.Intn(2))
		if back, readErr := Read(b); err != api.OK || readErr != api.OK || !same(back, z) {
			t.Fatalf("%s, %v, %v, not %s", brief(back), err, readErr, brief(z))
		}
	}
}

// TestFooters: a footer is read in the form of the file's version.
func TestFooters(t *testing.T) {
	for version := 2; version <= 4; version++ {
		for _, z := range []api.Zone{least(), jumping(-5, 7), leaping(rising(2)...)} {
			reads(t, fileOf(version, z, "", nil, nil), z)
			for _, text := range []string{"UTC0", "<UTC>+0:00", "EST05EDT,M3.2.0/02:00:00,M011.01.0/2"} {
				reads(t, fileOf(version, z, text, nil, nil), ruledBy(t, z, text))
			}
			for _, text := range wideTexts() {
				if version == 2 {
					fails(t, text, fileOf(version, z, text, nil, nil), api.ErrForm)
				} else {
					reads(t, fileOf(version, z, text, nil, nil), ruledBy(t, z, text))
				}
			}
			for _, text := range []string{"nonsense", " ", "\x00", "UTC", "UT0", "UTC0 ", " UTC0", "UTC25", "EST5EDT", "EST5EDT,M3.2.0", "AAA0BBB,0/168,0", "AAA0BBB,0,0/-168", "EST5EDT,M13.2.0,M11.1.0", "EST5EDT,M3.2.0,M11.1.0,", strings.Repeat("A", 100)} {
				fails(t, text, fileOf(version, z, text, nil, nil), api.ErrForm)
			}
		}
	}
}

// TestTheFirstVersion: it has moments of 4 bytes, and no rule.
func TestTheFirstVersion(t *testing.T) {
	for _, z := range []api.Zone{least(), {Kinds: threeKinds()}, jumping(math.MinInt32, -1, 0, math.MaxInt32), leaping(rising(3)...)} {
		reads(t, fileOf(1, z, "", nil, nil), z)
		reads(t, fileOf(1, z, "", make([]bool, len(z.Kinds)), nil), z)
		fails(t, "a footer", append(fileOf(1, z, "", nil, nil), "\nUTC0\n"...), api.ErrForm)
	}
	fails(t, "the last Corr is the same", fileOf(1, leaping(idle()...), "", nil, nil), api.ErrForm)
}

// TestMarks: a zone has none, whatever marks its file has; Write's files have none.
func TestMarks(t *testing.T) {
	yes, no := []bool{true, true, true}, make([]bool, 3)
	for version := 1; version <= 4; version++ {
		for _, c := range []struct{ std, ut []bool }{{yes, nil}, {nil, no}, {no, no}, {yes, yes}, {yes, no}, {[]bool{true, false, true}, []bool{false, false, true}}} {
			z, footer := jumping(-5, 7), ""
			if version > 1 {
				z, footer = ruledBy(t, z, "EST5EDT,M3.2.0,M11.1.0"), "EST5EDT,M3.2.0,M11.1.0"
			}
			marked := fileOf(version, z, footer, c.std, c.ut)
			if f, err := tzif.Decode(marked); len(f.Block.Std) != len(c.std) || len(f.Block.Ut) != len(c.ut) || err != api.OK {
				t.Fatal(f, err)
			}
			reads(t, marked, z)
			back, _ := Read(marked)
			b, err := Write(back, max(version, 2))
			f, decodeErr := tzif.Decode(b)
			if err != api.OK || decodeErr != api.OK || len(f.Block.Std) != 0 || len(f.Block.Ut) != 0 {
				t.Errorf("version %d: %v, %v: %v", version, err, decodeErr, f)
			}
			// Marks that are not right are not read, though a zone has none.
			fails(t, "Ut marks, Std does not", fileOf(version, z, footer, no, yes), api.ErrForm)
		}
	}
}

// TestErrorsOfDecode: each is handed on, whatever causes it, and told ahead of a footer that is no rule.
func TestErrorsOfDecode(t *testing.T) {
	z := jumping(-5, 7)
	first, whole, strange := fileOf(1, z, "", nil, nil), fileOf(3, z, "UTC0", nil, nil), fileOf(3, z, "nonsense", nil, nil)
	with := func(b []byte, at int, other byte) []byte {
		c := slices.Clone(b)
		c[at] = other
		return c
	}
	second := 51
	for _, c := range []struct {
		why  string
		b    []byte
		want api.Errno
	}{
		{"no bytes", nil, api.ErrShort},
		{"too many bytes", make([]byte, 100001), api.ErrForm},
		{"a header cut off", whole[:43], api.ErrShort},
		{"no header", bytes.Repeat([]byte("x"), 44), api.ErrForm},
		{"a version 5", with(whole, 4, '5'), api.ErrForm},
		{"a block cut off", first[:len(first)-1], api.ErrShort},
		{"a wrong block", with(first, 44+8, 9), api.ErrForm},
		{"something behind a file of version 1", append(slices.Clone(first), 0), api.ErrForm},
		{"no second header", whole[:second], api.ErrShort},
		{"a second header cut off", whole[:second+43], api.ErrShort},
		{"a wrong second header", with(whole, second, 'x'), api.ErrForm},
		{"a second header of another version", with(whole, second+4, '4'), api.ErrForm},
		{"a second block cut off", whole[:len(whole)-7], api.ErrShort},
		{"a wrong second block", with(whole, second+44+16, 9), api.ErrForm},
		{"no footer", whole[:len(whole)-6], api.ErrShort},
		{"no first line end", with(whole, len(whole)-6, 'x'), api.ErrForm},
		{"no second line end", whole[:len(whole)-1], api.ErrShort},
		{"something behind the footer", append(slices.Clone(whole), '\n'), api.ErrForm},
		{"a long footer", fileOf(3, z, strings.Repeat("f", 101), nil, nil), api.ErrForm},
		{"a strange footer cut off", strange[:len(strange)-1], api.ErrShort},
		{"a strange footer", strange, api.ErrForm},
	} {
		fails(t, c.why, c.b, c.want)
		if _, err := tzif.Decode(c.b); err != c.want && c.why != "a strange footer" {
			t.Errorf("%s: Decode tells %v", c.why, err)
		}
	}
}

// TestEachByteChanged: what Decode refuses is refused with its error; all else is read as a zone that is right, or its footer is no rule.
func TestEachByteChanged(t *testing.T) {
	for version := 1; version <= 4; version++ {
		z, footer := jumping(-5, 7), ""
		z.Leaps = rising(2)
		if version > 1 {
			footer = "EST5EDT,M3.2.0,M11.1.0"
		}
		whole := fileOf(version, z, footer, []bool{true, false, true}, nil)
		for n := range whole {
			asDecode(t, whole[:n])
			for _, octet := range []byte{0, 1, 2, '\n', '0', '9', ',', '-', 'A', 127, 255} {
				b := slices.Clone(whole)
				b[n] = octet
				asDecode(t, b)
			}
		}
	}
}

func asDecode(t *testing.T, b []byte) {
	t.Helper()
	f, want := tzif.Decode(b)
	z, err := Read(b)
	switch {
	case err != api.OK && !empty(z):
		t.Errorf("%q: %s beside %v", b, brief(z), err)
	case want != api.OK && err != want:
		t.Errorf("%q: %v, not %v", b, err, want)
	case want == api.OK && err == api.OK && (!Right(z) || z.Ruled != (f.Footer != "")):
		t.Errorf("%q: %s", b, brief(z))
	case want == api.OK && err != api.OK && (err != api.ErrForm || f.Footer == ""):
		t.Errorf("%q: %v", b, err)
	}
}

// TestAnswersAreSeparate: what is handed in may be written over, and what is answered, too.
func TestAnswersAreSeparate(t *testing.T) {
	z := ruledBy(t, jumping(-5, 7), "EST5EDT,M3.2.0,M11.1.0")
	z.Leaps = rising(2)
	was := cloneZone(z)
	b, _ := Write(z, 3)
	told := slices.Clone(b)
	clear(z.Kinds)
	clear(z.Jumps)
	clear(z.Leaps)
	if !bytes.Equal(b, told) {
		t.Error("what was written shares memory with the zone")
	}
	one, err := Read(b)
	two, alsoErr := Read(b)
	if err != api.OK || alsoErr != api.OK {
		t.Fatal(err, alsoErr)
	}
	clear(b)
	if !same(one, was) {
		t.Errorf("what was read shares memory with the bytes: %s", brief(one))
	}
	clear(one.Kinds)
	clear(one.Jumps)
	clear(one.Leaps)
	if !same(two, was) {
		t.Errorf("two readings share memory: %s", brief(two))
	}
	again, _ := Write(two, 3)
	clear(again)
	if next, _ := Write(two, 3); !bytes.Equal(next, told) {
		t.Errorf("two writings share memory: %q", next)
	}
	for _, kind := range two.Kinds {
		for _, name := range []string{two.Rule.Std.Name, two.Rule.Dst.Name} {
			if unsafe.StringData(kind.Name) == unsafe.StringData(name) {
				t.Errorf("the names %q and %q are in one place", kind.Name, name)
			}
		}
	}
}
