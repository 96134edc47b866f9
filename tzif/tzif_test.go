package tzif

import (
	"bytes"
	"fmt"
	"math"
	"slices"
	"strings"
	"testing"

	"longcase/api"
	"longcase/block"
	"longcase/header"
)

// least is the smallest block that is right: one kind without a name.
func least() block.Block {
	return block.Block{Kinds: []api.Kind{{}}}
}

// ordinary is a block with something of each thing, right in each version.
func ordinary() block.Block {
	return block.Block{
		Kinds: []api.Kind{{Off: 3208, Name: "LMT"}, {Off: 3600, Name: "CET"}, {Off: 7200, Dst: true, Name: "CEST"}},
		Jumps: []api.Jump{{At: -2147483648, Kind: 1}, {At: -5, Kind: 2}, {At: 0x01020304, Kind: 1}},
		Leaps: []api.Leap{{At: 78796800, Corr: 1}, {At: 94694401, Corr: 2}},
		Std:   []bool{true, true, false},
		Ut:    []bool{false, true, false},
	}
}

// far is a block whose moments need 8 bytes.
func far() block.Block {
	x := ordinary()
	x.Jumps = []api.Jump{{At: math.MinInt64, Kind: 1}, {At: math.MinInt32 - 1, Kind: 2}, {At: math.MaxInt64, Kind: 1}}
	x.Leaps = []api.Leap{{At: 0, Corr: 1}, {At: math.MaxInt32 + 1, Corr: 0}}
	return x
}

func jumping(at int64) block.Block {
	return block.Block{Kinds: []api.Kind{{}}, Jumps: []api.Jump{{At: at}}}
}

func leaping(all ...api.Leap) block.Block {
	return block.Block{Kinds: []api.Kind{{}}, Leaps: all}
}

// idle ends in two leap seconds of the same Corr, which is right in version 4 alone.
func idle() block.Block {
	return leaping(api.Leap{At: 5, Corr: 1}, api.Leap{At: 6, Corr: 2}, api.Leap{At: 7, Corr: 2})
}

// great is a block of as many moments as there may be, and of all else.
func great() block.Block {
	x := moments(5000, 5000)
	for i := range 255 {
		x.Kinds = append(x.Kinds, api.Kind{Off: i})
	}
	x.Kinds[7].Name = strings.Repeat("n", 254)
	x.Std, x.Ut = make([]bool, 256), make([]bool, 256)
	return x
}

// moments is a block of one kind, with so many jumps and leaps.
func moments(jumps, leaps int) block.Block {
	x := least()
	for i := range jumps {
		x.Jumps = append(x.Jumps, api.Jump{At: int64(i)})
	}
	for i := range leaps {
		x.Leaps = append(x.Leaps, api.Leap{At: int64(i), Corr: i + 1})
	}
	return x
}

// longest is a right file of 100000 bytes: two headers, 7 bytes of a short block, 9 of each jump, 12 of each leap, 7 of the kind, 2 line ends, and the footer's 8.
func longest(version int) File {
	return File{Version: version, Block: moments(5000, 4574), Footer: "ABCDE-12"}
}

// footed has a footer where its version may.
func footed(version int, x block.Block) File {
	if version == 1 {
		return File{Version: 1, Block: x}
	}
	return File{Version: version, Block: x, Footer: "CET-1CEST,M3.5.0,M10.5.0/3"}
}

func cloneFile(f File) File {
	x := f.Block
	f.Block = block.Block{Kinds: slices.Clone(x.Kinds), Jumps: slices.Clone(x.Jumps), Leaps: slices.Clone(x.Leaps), Std: slices.Clone(x.Std), Ut: slices.Clone(x.Ut)}
	return f
}

func same(f, g File) bool {
	x, y := f.Block, g.Block
	return f.Version == g.Version && f.Footer == g.Footer &&
		slices.Equal(x.Kinds, y.Kinds) && slices.Equal(x.Jumps, y.Jumps) && slices.Equal(x.Leaps, y.Leaps) && slices.Equal(x.Std, y.Std) && slices.Equal(x.Ut, y.Ut)
}

// brief tells a file without flooding the page.
func brief(f File) string {
	return fmt.Sprintf("%.300q", fmt.Sprint(f))
}

// part is a header and its block's bytes; the packages below have their own tests.
func part(t *testing.T, x block.Block, size, version int) []byte {
	t.Helper()
	body, h, err := block.Encode(x, size, version)
	head, headErr := header.Encode(h)
	if err != api.OK || headErr != api.OK {
		t.Fatal(size, version, err, headErr)
	}
	return append(head, body...)
}

// front is what stands ahead of the second header where no file's block is looked for.
func front(version int) []byte {
	return []byte("TZif" + string(rune('0'+version)) + strings.Repeat("\x00", 15) +
		"\x00\x00\x00\x00" + "\x00\x00\x00\x00" + "\x00\x00\x00\x00" + "\x00\x00\x00\x00" + "\x00\x00\x00\x01" + "\x00\x00\x00\x01" +
		"\x00\x00\x00\x00\x00\x00" + "\x00")
}

// told is how a file's bytes must be, however many they are.
func told(t *testing.T, f File) []byte {
	t.Helper()
	if f.Version == 1 {
		return part(t, f.Block, 4, 1)
	}
	return slices.Concat(front(f.Version), part(t, f.Block, 8, f.Version), []byte("\n"+f.Footer+"\n"))
}

// fine asks that a file is right, that its bytes are as they must be, and that they are read as they were told.
func fine(t *testing.T, f File) {
	t.Helper()
	was := cloneFile(f)
	if !Right(f) {
		t.Errorf("not right: %s", brief(f))
	}
	want := told(t, was)
	if b, err := Encode(f); !bytes.Equal(b, want) || err != api.OK {
		t.Errorf("%d bytes, not %d, %v: %s", len(b), len(want), err, brief(f))
	}
	if !same(f, was) {
		t.Fatalf("the file was changed: %s, not %s", brief(f), brief(was))
	}
	reads(t, want, was)
}

// reads asks that bytes are read as a file, and left as they were.
func reads(t *testing.T, b []byte, want File) {
	t.Helper()
	was := slices.Clone(b)
	if f, err := Decode(b); !same(f, want) || err != api.OK {
		t.Errorf("read as %s, %v, not %s", brief(f), err, brief(want))
	}
	if !bytes.Equal(b, was) {
		t.Fatal("Decode wrote over its bytes")
	}
}

// wrong asks that a file is not right, and not told.
func wrong(t *testing.T, why string, f File) {
	t.Helper()
	if Right(f) {
		t.Errorf("%s: right: %s", why, brief(f))
	}
	refused(t, why, f)
}

// refused asks that a file is not told.
func refused(t *testing.T, why string, f File) {
	t.Helper()
	was := cloneFile(f)
	if b, err := Encode(f); len(b) != 0 || err != api.ErrArg {
		t.Errorf("%s: %d bytes, %v: %s", why, len(b), err, brief(f))
	}
	if !same(f, was) {
		t.Fatalf("%s: the file was changed: %s", why, brief(f))
	}
}

// fails asks for an error, and for a zero file beside it.
func fails(t *testing.T, why string, b []byte, want api.Errno) {
	t.Helper()
	was := slices.Clone(b)
	if f, err := Decode(b); !same(f, File{}) || err != want {
		t.Errorf("%s: %s, %v, not %v", why, brief(f), err, want)
	}
	if !bytes.Equal(b, was) {
		t.Fatalf("%s: Decode wrote over its bytes", why)
	}
}

// with is a copy of b in which other bytes stand from a place on.
func with(b []byte, at int, other string) []byte {
	c := slices.Clone(b)
	copy(c[at:], other)
	return c
}

func join(b []byte, behind string) []byte {
	return append(slices.Clone(b), behind...)
}

func TestTheShortestFile(t *testing.T) {
	want := "TZif\x00" + strings.Repeat("\x00", 15) +
		"\x00\x00\x00\x00" + "\x00\x00\x00\x00" + "\x00\x00\x00\x00" + "\x00\x00\x00\x00" + "\x00\x00\x00\x01" + "\x00\x00\x00\x01" +
		"\x00\x00\x00\x00\x00\x00\x00"
	f := File{Version: 1, Block: least()}
	if b, err := Encode(f); len(b) != 51 || string(b) != want || err != api.OK {
		t.Errorf("%q, %v", b, err)
	}
	reads(t, []byte(want), f)
	// Version 2 has that, once more, and two line ends.
	f.Version = 2
	head := "TZif2" + want[5:]
	if b, err := Encode(f); len(b) != 104 || string(b) != head+head+"\n\n" || err != api.OK {
		t.Errorf("%q, %v", b, err)
	}
	reads(t, []byte(head+head+"\n\n"), f)
}

// TestEachByteOfAFile has all bytes written out, without the program's own calls.
func TestEachByteOfAFile(t *testing.T) {
	x := block.Block{
		Kinds: []api.Kind{{Off: -2, Name: "LMT"}, {Off: 0x01020304, Dst: true, Name: "A"}},
		Jumps: []api.Jump{{At: -256, Kind: 1}, {At: 0x05060708, Kind: 0}, {At: 0x15161718, Kind: 1}},
		Leaps: []api.Leap{{At: 0x090a0b0c, Corr: -1}},
		Std:   []bool{true, true},
		Ut:    []bool{false, true},
	}
	free := strings.Repeat("\x00", 15)
	counts := "\x00\x00\x00\x02" + "\x00\x00\x00\x02" + "\x00\x00\x00\x01" + "\x00\x00\x00\x03" + "\x00\x00\x00\x02" + "\x00\x00\x00\x06"
	kinds := "\x01\x00\x01" + "\xff\xff\xff\xfe\x00\x00" + "\x01\x02\x03\x04\x01\x04" + "LMT\x00A\x00"
	marks := "\x01\x01" + "\x00\x01"
	four := "\xff\xff\xff\x00" + "\x05\x06\x07\x08" + "\x15\x16\x17\x18" + kinds + "\x09\x0a\x0b\x0c\xff\xff\xff\xff" + marks
	eight := "\xff\xff\xff\xff\xff\xff\xff\x00" + "\x00\x00\x00\x00\x05\x06\x07\x08" + "\x00\x00\x00\x00\x15\x16\x17\x18" +
		kinds + "\x00\x00\x00\x00\x09\x0a\x0b\x0c\xff\xff\xff\xff" + marks
	shortCounts := strings.Repeat("\x00", 16) + "\x00\x00\x00\x01" + "\x00\x00\x00\x01"
	check := func(f File, want string) {
		t.Helper()
		if b, err := Encode(f); string(b) != want || err != api.OK {
			t.Errorf("version %d: %q, %v, not %q", f.Version, b, err, want)
		}
		reads(t, []byte(want), f)
	}
	check(File{Version: 1, Block: x}, "TZif\x00"+free+counts+four)
	for version, mark := range map[int]string{2: "2", 3: "3", 4: "4"} {
		for _, footer := range []string{"", "LMT0A", "<-02>2"} {
			check(File{Version: version, Block: x, Footer: footer},
				"TZif"+mark+free+shortCounts+"\x00\x00\x00\x00\x00\x00"+"\x00"+"TZif"+mark+free+counts+eight+"\n"+footer+"\n")
		}
	}
}

func TestOrdinaryFilesAreToldAndRead(t *testing.T) {
	for version := 1; version <= 4; version++ {
		for _, x := range []block.Block{least(), ordinary(), jumping(0), moments(300, 27), moments(5000, 0), moments(0, 5000)} {
			fine(t, footed(version, x))
			fine(t, File{Version: version, Block: x})
		}
	}
	// In version 1 the greatest block is short enough.
	fine(t, File{Version: 1, Block: great()})
}

func TestVersionsThatThereAreNot(t *testing.T) {
	for _, version := range []int{0, 5, 6, -1, -2, -4, '0', '2', '3', '4', 1 << 8, 1<<8 + 2, 1<<32 + 2, 2 - 1<<32, math.MinInt, math.MinInt + 2, math.MaxInt} {
		for _, x := range []block.Block{least(), ordinary()} {
			wrong(t, "a version", File{Version: version, Block: x})
			wrong(t, "a version, and a footer", File{Version: version, Block: x, Footer: "UTC0"})
		}
	}
	wrong(t, "a zero file", File{})
}

func TestMomentsOfTheVersion(t *testing.T) {
	for version := 1; version <= 4; version++ {
		for _, at := range []int64{math.MinInt32, math.MinInt32 + 1, -1, math.MaxInt32 - 1, math.MaxInt32} {
			fine(t, footed(version, jumping(at)))
			if at >= 0 {
				fine(t, footed(version, leaping(api.Leap{At: at, Corr: 1})))
			}
		}
	}
	blocks := []block.Block{far()}
	for _, at := range []int64{math.MinInt64, math.MinInt32 - 1, math.MaxInt32 + 1, 1 << 32, math.MaxInt64} {
		blocks = append(blocks, jumping(at))
		if at >= 0 {
			blocks = append(blocks, leaping(api.Leap{At: at, Corr: -1}))
		}
	}
	for _, x := range blocks {
		wrong(t, "a moment of more than 4 bytes", File{Version: 1, Block: x})
		for version := 2; version <= 4; version++ {
			fine(t, footed(version, x))
		}
	}
}

func TestLeapSecondsThatEndInTheSame(t *testing.T) {
	x := leaping(api.Leap{At: 5, Corr: 1}, api.Leap{At: 6, Corr: 1})
	for version := 1; version <= 3; version++ {
		wrong(t, "the last Corr is the same", footed(version, x))
		wrong(t, "the last Corr is the same", footed(version, idle()))
	}
	fine(t, footed(4, x))
	fine(t, footed(4, idle()))
}

func TestBlocksThatAreNotRight(t *testing.T) {
	for why, x := range map[string]block.Block{
		"no kind":                 {},
		"257 kinds":               {Kinds: make([]api.Kind, 257)},
		"an Off of -2^31":         {Kinds: []api.Kind{{Off: -1 << 31}}},
		"a name with a byte 0":    {Kinds: []api.Kind{{Name: "a\x00"}}},
		"a name of 256 bytes":     {Kinds: []api.Kind{{Name: strings.Repeat("n", 256)}}},
		"5001 jumps":              moments(5001, 0),
		"5001 leaps":              moments(0, 5001),
		"a jump to no kind":       {Kinds: []api.Kind{{}}, Jumps: []api.Jump{{Kind: 1}}},
		"a jump below 0":          {Kinds: []api.Kind{{}}, Jumps: []api.Jump{{Kind: -1}}},
		"two jumps at one moment": {Kinds: []api.Kind{{}}, Jumps: []api.Jump{{At: 1}, {At: 1}}},
		"a leap below 0":          leaping(api.Leap{At: -1, Corr: 1}),
		"the first Corr 0":        leaping(api.Leap{At: 1}),
		"a mark of Std more":      {Kinds: []api.Kind{{}}, Std: make([]bool, 2)},
		"a mark of Ut, not Std":   {Kinds: []api.Kind{{}}, Ut: []bool{true}},
	} {
		for version := 1; version <= 4; version++ {
			wrong(t, why, footed(version, x))
			wrong(t, why, File{Version: version, Block: x})
		}
	}
}

func TestFootersOfTheFirstVersion(t *testing.T) {
	for _, footer := range []string{"U", "UTC0", "\n", " ", "\x00", strings.Repeat("f", 100), strings.Repeat("f", 101)} {
		wrong(t, "a footer in version 1", File{Version: 1, Block: least(), Footer: footer})
		wrong(t, "a footer in version 1", File{Version: 1, Block: ordinary(), Footer: footer})
	}
}

func TestFooters(t *testing.T) {
	for version := 2; version <= 4; version++ {
		file := func(footer string) File { return File{Version: version, Block: ordinary(), Footer: footer} }
		// Whether a footer is a rule's text is asked elsewhere.
		for _, footer := range []string{"", "U", "UTC0", "<+0330>-3:30", "no rule", "\x00", "\x00\x01\x7f\x80\xfe\xff", "\r", "\v", "\t", "\\n", "\u2028\u0085", "TZif2", strings.Repeat("f", 99), strings.Repeat("f", 100), strings.Repeat("\x00", 100), strings.Repeat("\u00e4", 50)} {
			fine(t, file(footer))
		}
		for _, footer := range []string{strings.Repeat("f", 101), strings.Repeat("f", 102), strings.Repeat("\u00e4", 51), strings.Repeat("\x00", 101), strings.Repeat("f", 200), strings.Repeat("f", 256), strings.Repeat("f", 100000)} {
			wrong(t, "a footer that is too long", file(footer))
			fails(t, "a footer that is too long", told(t, file(footer)), api.ErrForm)
		}
		for _, footer := range []string{"\n", "\n\n", "\nUTC0", "UT\nC0", "UTC0\n", "\nUTC0\n", strings.Repeat("f", 99) + "\n", "\n" + strings.Repeat("f", 99), strings.Repeat("f", 100) + "\n", "\n" + strings.Repeat("f", 100)} {
			wrong(t, "a footer with a line end", file(footer))
			fails(t, "a footer with a line end", told(t, file(footer)), api.ErrForm)
		}
	}
}

func TestFilesOfAsManyBytesAsThereMayBe(t *testing.T) {
	for version := 2; version <= 4; version++ {
		f := longest(version)
		whole := told(t, f)
		if len(whole) != 100000 {
			t.Fatal(len(whole))
		}
		fine(t, f)
		shorter := f
		shorter.Footer = f.Footer[1:]
		fine(t, shorter)
		// Such a file is right by itself, and only too long.
		longer := f
		longer.Footer += "3"
		if !Right(longer) {
			t.Error("a file of 100001 bytes is not right")
		}
		refused(t, "100001 bytes", longer)
		fails(t, "100001 bytes", told(t, longer), api.ErrForm)
		most := File{Version: version, Block: great()}
		if !Right(most) {
			t.Error("the greatest block is not right")
		}
		refused(t, "the greatest block", most)
		fails(t, "the greatest block", told(t, most), api.ErrForm)
		// Up to MaxFile bytes a block that is cut off is too short; beyond, no byte is looked at.
		fails(t, "the greatest block, cut", told(t, most)[:100000], api.ErrShort)
		fails(t, "the greatest block, cut behind", told(t, most)[:100001], api.ErrForm)
	}
}

func TestBytesThatAreTooMany(t *testing.T) {
	fails(t, "100001 bytes 0", make([]byte, 100001), api.ErrForm)
	fails(t, "a million bytes", bytes.Repeat([]byte("TZif2"), 200000), api.ErrForm)
	// Here the greatest block stands in the place of the short one.
	x := moments(0, 2716)
	head := slices.Concat(part(t, great(), 4, 3), part(t, x, 8, 3))
	if len(head) != 99991 {
		t.Fatal(len(head))
	}
	reads(t, join(head, "\nABCDE-1\n"), File{Version: 3, Block: x, Footer: "ABCDE-1"})
	fails(t, "a byte too many", join(head, "\nABCDE-12\n"), api.ErrForm)
	fails(t, "no second line end", join(head, "\nABCDE-12"), api.ErrShort)
	fails(t, "no second line end, and a byte too many", join(head, "\nABCDE-123"), api.ErrForm)
	// A file of version 1 with a byte behind is ErrForm, however long it is.
	fails(t, "bytes behind", join(part(t, great(), 4, 1), strings.Repeat("\x00", 100000-67348)), api.ErrForm)
}

func TestTheFirstHeader(t *testing.T) {
	for version := 1; version <= 4; version++ {
		whole := told(t, footed(version, ordinary()))
		for n := range 44 {
			fails(t, "a header cut off", whole[:n], api.ErrShort)
			fails(t, "bytes 0", make([]byte, n), api.ErrShort)
			fails(t, "no header at all", bytes.Repeat([]byte{0xff}, n), api.ErrShort)
		}
		for _, at := range []int{0, 1, 2, 3} {
			fails(t, "another beginning", with(whole, at, "x"), api.ErrForm)
			// What is wrong in the header is told ahead of what is missing behind it.
			fails(t, "another beginning, alone", with(whole, at, "x")[:44], api.ErrForm)
		}
		for octet := range 256 {
			b := with(whole, 4, string([]byte{byte(octet)}))
			if bytes.Equal(b, whole) {
				continue
			}
			if octet != 0 && octet != '2' && octet != '3' && octet != '4' {
				fails(t, fmt.Sprint("version byte ", octet), b, api.ErrForm)
				fails(t, fmt.Sprint("version byte ", octet, ", alone"), b[:44], api.ErrForm)
			} else if version == 1 {
				fails(t, fmt.Sprint("version byte ", octet, ", no second header"), b, api.ErrShort)
			} else {
				fails(t, fmt.Sprint("version byte ", octet, ", another second header"), b, api.ErrForm)
			}
		}
		for at := 20; at < 44; at += 4 {
			fails(t, "a number that is too great", with(whole, at, "\x00\x00\x13\x89"), api.ErrForm)
			fails(t, "a number that is too great, alone", with(whole, at, "\xff\xff\xff\xff")[:44], api.ErrForm)
		}
		fails(t, "no kind", with(whole, 36, "\x00\x00\x00\x00"), api.ErrForm)
		fails(t, "no name", with(whole, 40, "\x00\x00\x00\x00"), api.ErrForm)
	}
	fails(t, "no byte", nil, api.ErrShort)
	fails(t, "no byte, and a row", []byte{}, api.ErrShort)
}

func TestTheFirstBlock(t *testing.T) {
	for version := 1; version <= 4; version++ {
		head := part(t, ordinary(), 4, version)
		whole := head
		if version > 1 {
			whole = slices.Concat(head, part(t, ordinary(), 8, version), []byte("\nUTC0\n"))
		}
		for n := 44; n < len(head); n++ {
			fails(t, "a block cut off", head[:n], api.ErrShort)
			// Too few bytes are told ahead of a wrong form.
			fails(t, "a block cut off, wrong ahead", join(head[:44], strings.Repeat("\xff", n-44)), api.ErrShort)
		}
		kinds := 44 + 3*5
		for why, b := range map[string][]byte{
			"jumps that fall":       with(whole, 44, "\x7f"),
			"a jump to no kind":     with(whole, 44+3*4, "\x03"),
			"a Dst of 2":            with(whole, kinds+4, "\x02"),
			"a name's place":        with(whole, kinds+5, "\xff"),
			"a name without an end": with(whole, kinds+18+12, "x"),
			"a leap below 0":        with(whole, kinds+18+13, "\xff"),
			"a mark of 2":           with(whole, len(head)-1, "\x02"),
			"a mark of Ut, not Std": with(whole, len(head)-1, "\x01"),
		} {
			fails(t, why, b, api.ErrForm)
			// It is told ahead of whatever is missing behind it, or too much.
			fails(t, why+", alone", b[:len(head)], api.ErrForm)
			fails(t, why+", and a byte", join(b[:len(head)], "\n"), api.ErrForm)
		}
	}
	// The version of the header is the version of the block.
	for version := 2; version <= 4; version++ {
		head := with(part(t, idle(), 4, 4), 4, string(rune('0'+version)))
		b := slices.Concat(head, part(t, least(), 8, version), []byte("\n\n"))
		if version == 4 {
			reads(t, b, File{Version: 4, Block: least()})
			continue
		}
		fails(t, "a short block that is right in version 4 alone", b, api.ErrForm)
		fails(t, "such a block alone", head, api.ErrForm)
	}
	fails(t, "a block that is right in version 4 alone", with(part(t, idle(), 4, 4), 4, "\x00"), api.ErrForm)
}

func TestSomethingBehindAFileOfTheFirstVersion(t *testing.T) {
	for _, x := range []block.Block{least(), ordinary()} {
		b := told(t, File{Version: 1, Block: x})
		for octet := range 256 {
			fails(t, fmt.Sprint("byte ", octet, " behind"), join(b, string([]byte{byte(octet)})), api.ErrForm)
		}
		for why, behind := range map[string]string{
			"line ends": "\n\n", "a footer": "\nUTC0\n", "the file once more": string(b), "a header cut off": string(b[:43]),
			"another version": string(part(t, x, 8, 2)) + "\n\n", "long moments": string(with(part(t, x, 8, 2), 4, "\x00")) + "\n\n",
		} {
			fails(t, why+" behind", join(b, behind), api.ErrForm)
		}
	}
}

func TestTheSecondHeader(t *testing.T) {
	for version := 2; version <= 4; version++ {
		for _, first := range [][]byte{front(version), part(t, ordinary(), 4, version)} {
			second := part(t, ordinary(), 8, version)
			whole := slices.Concat(first, second, []byte("\nUTC0\n"))
			at := len(first)
			reads(t, whole, File{Version: version, Block: ordinary(), Footer: "UTC0"})
			for n := range 44 {
				fails(t, "a header cut off", whole[:at+n], api.ErrShort)
				fails(t, "no header at all", join(first, strings.Repeat("\xff", n)), api.ErrShort)
				fails(t, "another version, cut off", with(whole, at+4, "\x00")[:at+n], api.ErrShort)
			}
			for _, place := range []int{0, 1, 2, 3, 4} {
				fails(t, "another beginning", with(whole, at+place, "x"), api.ErrForm)
				fails(t, "another beginning, alone", with(whole, at+place, "x")[:at+44], api.ErrForm)
			}
			for place := 20; place < 44; place += 4 {
				fails(t, "a number that is too great", with(whole, at+place, "\x00\x00\x13\x89"), api.ErrForm)
				fails(t, "a number that is too great, alone", with(whole, at+place, "\xff\xff\xff\xff")[:at+44], api.ErrForm)
			}
			fails(t, "line ends instead", join(first, "\n\n"), api.ErrShort)
			fails(t, "44 bytes of line ends instead", join(first, strings.Repeat("\n", 44)), api.ErrForm)
		}
	}
}

func TestASecondHeaderOfAnotherVersion(t *testing.T) {
	for version := 2; version <= 4; version++ {
		for other := 1; other <= 4; other++ {
			if other == version {
				continue
			}
			second := part(t, ordinary(), 8, other)
			whole := slices.Concat(front(version), second, []byte("\nUTC0\n"))
			why := fmt.Sprintf("version %d behind %d", other, version)
			fails(t, why, whole, api.ErrForm)
			// It is told ahead of whatever is missing, or wrong, in its block.
			for n := 51 + 44; n < len(whole); n++ {
				fails(t, why+", cut off", whole[:n], api.ErrForm)
			}
			fails(t, why+", and short moments", slices.Concat(front(version), part(t, ordinary(), 4, other)), api.ErrForm)
		}
	}
}

func TestTheSecondBlock(t *testing.T) {
	for version := 2; version <= 4; version++ {
		whole := told(t, File{Version: version, Block: ordinary()})
		head := whole[:len(whole)-2]
		for n := 51 + 44; n < len(head); n++ {
			fails(t, "a block cut off", head[:n], api.ErrShort)
			fails(t, "a block cut off, wrong ahead", join(head[:51+44], strings.Repeat("\xff", n-51-44)), api.ErrShort)
		}
		start := 51 + 44
		kinds := start + 3*9
		for why, b := range map[string][]byte{
			"jumps that fall":       with(whole, start, "\x7f"),
			"a jump to no kind":     with(whole, start+3*8, "\x03"),
			"a Dst of 2":            with(whole, kinds+4, "\x02"),
			"a name's place":        with(whole, kinds+5, "\xff"),
			"a name without an end": with(whole, kinds+18+12, "x"),
			"a leap below 0":        with(whole, kinds+18+13, "\xff"),
			"a mark of 2":           with(whole, len(head)-1, "\x02"),
			"a mark of Ut, not Std": with(whole, len(head)-1, "\x01"),
		} {
			fails(t, why, b, api.ErrForm)
			// It is told ahead of a footer that is missing.
			fails(t, why+", alone", b[:len(head)], api.ErrForm)
			fails(t, why+", and a line end", b[:len(head)+1], api.ErrForm)
		}
		// Its moments have 8 bytes: what is told by 4 is too short for them.
		fails(t, "short moments", slices.Concat(front(version), part(t, moments(50, 0), 4, version), []byte("\n\n")), api.ErrShort)
	}
	for version := 2; version <= 3; version++ {
		b := slices.Concat(front(version), with(part(t, idle(), 8, 4), 4, string(rune('0'+version))), []byte("\n\n"))
		fails(t, "a block that is right in version 4 alone", b, api.ErrForm)
	}
}

func TestWhatStandsBehindTheSecondBlock(t *testing.T) {
	full, over := strings.Repeat("f", 100), strings.Repeat("f", 101)
	for version := 2; version <= 4; version++ {
		for _, x := range []block.Block{least(), ordinary(), far()} {
			head := slices.Concat(front(version), part(t, x, 8, version))
			fails(t, "no byte", head, api.ErrShort)
			for octet := range 256 {
				if octet == '\n' {
					continue
				}
				other := string([]byte{byte(octet)})
				for _, behind := range []string{"", "\n", "\n\n", "UTC0\n", "\nUTC0\n", over} {
					fails(t, fmt.Sprintf("%q ahead of %q", other, behind), join(head, other+behind), api.ErrForm)
				}
			}
			for _, footer := range []string{"", "U", "UTC0", "\r", "\x00", full, over, over + over, strings.Repeat("f", 50000)} {
				fails(t, fmt.Sprintf("no line end behind %.99q", footer), join(head, "\n"+footer), api.ErrShort)
			}
			for _, footer := range []string{"", "UTC0", full, over} {
				for _, behind := range []string{"\n", "\n\n", "\x00", "\xff", "x", "UTC0\n", "\nUTC0\n", string(head), full, over} {
					fails(t, fmt.Sprintf("%.99q behind %.99q", behind, footer), join(head, "\n"+footer+"\n"+behind), api.ErrForm)
				}
			}
			fails(t, "a footer of 101 bytes", join(head, "\n"+over+"\n"), api.ErrForm)
			fails(t, "a footer of 102 bytes", join(head, "\nf"+over+"\n"), api.ErrForm)
			fails(t, "a footer of 50000 bytes", join(head, "\n"+strings.Repeat("f", 50000)+"\n"), api.ErrForm)
			reads(t, join(head, "\n"+full+"\n"), File{Version: version, Block: x, Footer: full})
			reads(t, join(head, "\n\n"), File{Version: version, Block: x})
		}
	}
}

func TestAnyRightBlockInThePlaceOfTheShortOne(t *testing.T) {
	for version := 2; version <= 4; version++ {
		blocks := []block.Block{least(), ordinary(), moments(300, 27), moments(5000, 0), great(), jumping(math.MinInt32), {Kinds: []api.Kind{{Off: 5, Name: "other"}}}}
		if version == 4 {
			blocks = append(blocks, idle())
		}
		for _, first := range blocks {
			for _, x := range []block.Block{least(), ordinary(), far()} {
				f := footed(version, x)
				reads(t, slices.Concat(part(t, first, 4, version), part(t, x, 8, version), []byte("\n"+f.Footer+"\n")), f)
			}
		}
	}
}

func TestFreeBytesOfBothHeaders(t *testing.T) {
	for version := 1; version <= 4; version++ {
		f := footed(version, ordinary())
		b := told(t, f)
		for at := 5; at < 20; at++ {
			reads(t, with(b, at, "\xff"), f)
			if version > 1 {
				reads(t, with(b, 51+at, "\n"), f)
			}
		}
	}
}

func TestFilesThatAreCutOff(t *testing.T) {
	for version := 1; version <= 4; version++ {
		for _, x := range []block.Block{least(), ordinary(), moments(30, 20)} {
			for _, f := range []File{{Version: version, Block: x}, footed(version, x)} {
				b, err := Encode(f)
				if err != api.OK {
					t.Fatal(err)
				}
				for n := range b {
					// Room behind the end is no part of them; nor is there any in a copy.
					fails(t, fmt.Sprint(n, " bytes"), b[:n], api.ErrShort)
					fails(t, fmt.Sprint(n, " bytes"), slices.Clip(slices.Clone(b[:n])), api.ErrShort)
				}
				reads(t, b, f)
			}
		}
	}
}

// TestEachByteChanged: whatever one byte becomes, what is read is right, and is read again as it was; or nothing is.
func TestEachByteChanged(t *testing.T) {
	for version := 1; version <= 4; version++ {
		whole := told(t, footed(version, ordinary()))
		for at := range whole {
			for octet := range 256 {
				b := with(whole, at, string([]byte{byte(octet)}))
				f, err := Decode(b)
				switch {
				case err == api.OK && (f.Version != version || !Right(f)):
					t.Fatalf("version %d, byte %d as %d: %s", version, at, octet, brief(f))
				case err == api.OK:
					fine(t, f)
				case err != api.ErrForm && err != api.ErrShort:
					t.Fatalf("version %d, byte %d as %d: %v", version, at, octet, err)
				default:
					fails(t, fmt.Sprint(at, octet), b, err)
				}
			}
		}
	}
}

func TestEachByteOfTheFooterChanged(t *testing.T) {
	for version := 2; version <= 4; version++ {
		f := footed(version, ordinary())
		whole := told(t, f)
		last := len(whole) - 1
		first := last - len(f.Footer) - 1
		for octet := range 256 {
			other := string([]byte{byte(octet)})
			if other == "\n" {
				for at := first + 1; at < last; at++ {
					fails(t, "a line end in the footer", with(whole, at, other), api.ErrForm)
				}
				continue
			}
			fails(t, "another byte than the first line end", with(whole, first, other), api.ErrForm)
			fails(t, "another byte than the second line end", with(whole, last, other), api.ErrShort)
			for at := first + 1; at < last; at++ {
				b := with(whole, at, other)
				reads(t, b, File{Version: version, Block: f.Block, Footer: string(b[first+1 : last])})
			}
		}
	}
}

func TestAnswersShareNothing(t *testing.T) {
	for version := 1; version <= 4; version++ {
		f := footed(version, ordinary())
		b, _ := Encode(f)
		want := slices.Clone(b)
		scribble(f.Block)
		if !bytes.Equal(b, want) {
			t.Error("the bytes hang on the file")
		}
		one, _ := Decode(b)
		two, _ := Decode(b)
		clear(b[:cap(b)])
		if !same(one, footed(version, ordinary())) {
			t.Error("the file hangs on its bytes")
		}
		scribble(one.Block)
		if !same(two, footed(version, ordinary())) {
			t.Error("two files share memory")
		}
		c, _ := Encode(footed(version, ordinary()))
		d, _ := Encode(footed(version, ordinary()))
		clear(c[:cap(c)])
		if !bytes.Equal(d, want) {
			t.Error("two rows of bytes share memory")
		}
	}
}

// scribble writes over all that a block has, and over the room behind it.
func scribble(x block.Block) {
	clear(x.Kinds[:cap(x.Kinds)])
	clear(x.Jumps[:cap(x.Jumps)])
	clear(x.Leaps[:cap(x.Leaps)])
	clear(x.Std[:cap(x.Std)])
	clear(x.Ut[:cap(x.Ut)])
}

func TestRoomBehindIsNotTouched(t *testing.T) {
	memory := ordinary()
	memory.Kinds = append(memory.Kinds, api.Kind{Off: 99, Name: "ZZZ"})
	memory.Jumps = append(memory.Jumps, api.Jump{At: 1 << 30})
	memory.Leaps = append(memory.Leaps, api.Leap{At: 1 << 30, Corr: 3})
	memory.Std, memory.Ut = append(memory.Std, true), append(memory.Ut, true)
	whole := cloneFile(File{Block: memory})
	x := block.Block{Kinds: memory.Kinds[:3], Jumps: memory.Jumps[:3], Leaps: memory.Leaps[:2], Std: memory.Std[:3], Ut: memory.Ut[:3]}
	for version := 1; version <= 4; version++ {
		fine(t, footed(version, x))
		b := join(told(t, footed(version, x)), "\nmore of the caller's memory")
		was := slices.Clone(b)
		n := len(b) - len("\nmore of the caller's memory")
		reads(t, b[:n], footed(version, ordinary()))
		if !bytes.Equal(b, was) {
			t.Error("the room behind the bytes was written over")
		}
	}
	if !same(File{Block: memory}, whole) {
		t.Error(memory)
	}
}
