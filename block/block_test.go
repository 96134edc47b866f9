package block

import (
	"bytes"
	"encoding/binary"
	"fmt"
	"maps"
	"math"
	"slices"
	"strings"
	"testing"

	"longcase/api"
	"longcase/header"
)

// least is the smallest block that is right: one kind without a name.
func least() Block {
	return Block{Kinds: []api.Kind{{}}}
}

// ordinary is a block with something of each thing, for moments of either size.
func ordinary() Block {
	return Block{
		Kinds: []api.Kind{{Off: -17762, Name: "LMT"}, {Off: 3600, Name: "CET"}, {Off: 7200, Dst: true, Name: "CEST"}, {Off: -3600, Dst: true, Name: "CET"}},
		Jumps: []api.Jump{{At: -2147483648, Kind: 1}, {At: -5, Kind: 3}, {At: 0, Kind: 0}, {At: 0x01020304, Kind: 2}, {At: 2147483647, Kind: 1}},
		Leaps: []api.Leap{{At: 0, Corr: 1}, {At: 78796800, Corr: 2}, {At: 2147483647, Corr: 1}},
		Std:   []bool{true, false, true, true},
		Ut:    []bool{false, false, true, true},
	}
}

func jumps(count int) []api.Jump {
	all := make([]api.Jump, count)
	for i := range all {
		all[i] = api.Jump{At: int64(i*1000 - 70000), Kind: 0}
	}
	return all
}

// leaps rise by one each time, so that the last Corr is as great as there are leaps.
func leaps(count int) []api.Leap {
	all := make([]api.Leap, count)
	for i := range all {
		all[i] = api.Leap{At: int64(i * 1000), Corr: i + 1}
	}
	return all
}

func downward(count int) []api.Leap {
	all := leaps(count)
	for i := range all {
		all[i].Corr = -all[i].Corr
	}
	return all
}

func kinds(count int) []api.Kind {
	all := make([]api.Kind, count)
	for i := range all {
		all[i] = api.Kind{Off: i - 128, Dst: i%3 == 0, Name: []string{"A", "", "BCD"}[i%3]}
	}
	return all
}

// single is a block of one kind, with this name and offset.
func single(off int, name string) Block {
	return Block{Kinds: []api.Kind{{Off: off, Name: name}}}
}

// named is a block of one kind for each name.
func named(names ...string) Block {
	var x Block
	for i, name := range names {
		x.Kinds = append(x.Kinds, api.Kind{Off: i, Name: name})
	}
	return x
}

func leaping(all ...api.Leap) Block {
	return Block{Kinds: []api.Kind{{}}, Leaps: all}
}

func jumping(all ...api.Jump) Block {
	return Block{Kinds: []api.Kind{{}, {Off: 1}}, Jumps: all}
}

func marked(count int, std, ut []bool) Block {
	return Block{Kinds: kinds(count), Std: std, Ut: ut}
}

func clone(x Block) Block {
	return Block{Kinds: slices.Clone(x.Kinds), Jumps: slices.Clone(x.Jumps), Leaps: slices.Clone(x.Leaps), Std: slices.Clone(x.Std), Ut: slices.Clone(x.Ut)}
}

func same(x, y Block) bool {
	return slices.Equal(x.Kinds, y.Kinds) && slices.Equal(x.Jumps, y.Jumps) && slices.Equal(x.Leaps, y.Leaps) && slices.Equal(x.Std, y.Std) && slices.Equal(x.Ut, y.Ut)
}

// brief tells a block without flooding the page, and names of any bytes as text.
func brief(x Block) string {
	return fmt.Sprintf("%.300q", fmt.Sprint(x))
}

// rights are blocks that are right for either size and each version.
func rights() []Block {
	all := []Block{
		least(),
		ordinary(),
		{Kinds: kinds(256)},
		{Kinds: kinds(255), Jumps: jumps(300), Leaps: leaps(27)},
		{Kinds: kinds(1), Jumps: jumps(5000)},
		{Kinds: kinds(1), Jumps: jumps(4999)},
		{Kinds: kinds(1), Leaps: leaps(5000)},
		{Kinds: kinds(1), Leaps: downward(5000)},
		{Kinds: kinds(256), Jumps: jumps(5000), Leaps: leaps(5000), Std: slices.Repeat([]bool{true}, 256), Ut: slices.Repeat([]bool{true}, 256)},
		jumping(api.Jump{At: 1, Kind: 0}, api.Jump{At: 2, Kind: 1}),
		jumping(api.Jump{At: math.MinInt32, Kind: 1}, api.Jump{At: math.MinInt32 + 1, Kind: 1}, api.Jump{At: math.MaxInt32 - 1, Kind: 0}, api.Jump{At: math.MaxInt32, Kind: 0}),
		{Kinds: kinds(256), Jumps: []api.Jump{{At: -1, Kind: 255}, {At: 0, Kind: 0}, {At: 1, Kind: 254}}},
		single(-1<<31+1, "low"),
		single(1<<31-1, "high"),
		single(-1<<31+2, ""),
		single(1<<31-2, ""),
		single(0, strings.Repeat("n", 255)),
		named(strings.Repeat("n", 127), strings.Repeat("m", 127)),
		named(strings.Repeat("n", 254), ""),
		named("", strings.Repeat("n", 254), ""),
		named("a", "b", "a", "", "b", "", "ab"),
		named("EST", "CEST", "ST", "T", ""),
		named("\x01\xff\x80", "a\xc3\xa4", "line\nend", "0"),
		leaping(api.Leap{At: 0, Corr: 1}),
		leaping(api.Leap{At: 0, Corr: -1}),
		leaping(api.Leap{At: 0, Corr: -1}, api.Leap{At: 1, Corr: 0}, api.Leap{At: 2, Corr: 1}, api.Leap{At: 3, Corr: 0}),
		leaping(api.Leap{At: math.MaxInt32 - 1, Corr: 1}, api.Leap{At: math.MaxInt32, Corr: 2}),
	}
	for _, count := range []int{1, 3, 256} {
		yes, no := slices.Repeat([]bool{true}, count), make([]bool, count)
		first, last := make([]bool, count), make([]bool, count)
		first[0], last[count-1] = true, true
		all = append(all,
			marked(count, nil, nil), marked(count, yes, nil), marked(count, no, nil), marked(count, last, nil),
			// Marks of Ut that mark nothing need none of Std.
			marked(count, nil, no), marked(count, no, no), marked(count, yes, no), marked(count, yes, yes),
			marked(count, first, no), marked(count, first, first), marked(count, yes, last), marked(count, last, last),
		)
	}
	return all
}

// wrongs are blocks that are right for no size and no version, each with one cause by itself.
func wrongs() map[string]Block {
	all := map[string]Block{}
	maps.Copy(all, wrongKinds())
	maps.Copy(all, wrongMarks())
	maps.Copy(all, wrongMoments())
	maps.Copy(all, wrongNumbers())
	return all
}

func wrongKinds() map[string]Block {
	return map[string]Block{
		"no kind":                        {},
		"no kind, and an empty list":     {Kinds: []api.Kind{}},
		"no kind, and a leap":            {Leaps: leaps(1)},
		"257 kinds":                      {Kinds: kinds(257)},
		"258 kinds":                      {Kinds: kinds(258)},
		"512 kinds":                      {Kinds: kinds(512)},
		"a name with a byte 0 behind":    single(0, "a\x00"),
		"a name with a byte 0 ahead":     single(0, "\x00a"),
		"a name with a byte 0 inside":    single(0, "a\x00b"),
		"a name of a byte 0":             single(0, "\x00"),
		"a later name with a byte 0":     named("a", "b", "c\x00"),
		"a name of 256 bytes":            single(0, strings.Repeat("n", 256)),
		"a name of 100000 bytes":         single(0, strings.Repeat("n", 100000)),
		"names of 257 bytes":             named(strings.Repeat("n", 127), strings.Repeat("m", 128)),
		"names of 257 bytes, one empty":  named(strings.Repeat("n", 255), ""),
		"names of 257 bytes, one of one": named(strings.Repeat("n", 253), "", "a"),
	}
}

func wrongMarks() map[string]Block {
	two := []bool{true, true}
	return map[string]Block{
		"a mark of Std less":           marked(3, two, nil),
		"a mark of Std more":           marked(1, two, nil),
		"a mark of Ut less":            marked(3, slices.Repeat([]bool{true}, 3), two),
		"a mark of Ut more":            marked(1, []bool{true}, two),
		"a mark of Ut less, all false": marked(3, nil, make([]bool, 2)),
		"a mark of Ut more, all false": marked(3, nil, make([]bool, 4)),
		"one mark of Std less, of 256": marked(256, make([]bool, 255), nil),
		"Ut marks, Std has none":       marked(1, nil, []bool{true}),
		"Ut marks the first alone":     marked(3, []bool{false, true, true}, []bool{true, true, true}),
		"Ut marks the last alone":      marked(3, []bool{true, true, false}, []bool{false, false, true}),
		"Ut marks what Std does not":   marked(2, []bool{true, false}, []bool{false, true}),
	}
}

func wrongMoments() map[string]Block {
	return map[string]Block{
		"5001 jumps":                    {Kinds: kinds(1), Jumps: jumps(5001)},
		"5002 jumps":                    {Kinds: kinds(1), Jumps: jumps(5002)},
		"5001 leaps":                    {Kinds: kinds(1), Leaps: leaps(5001)},
		"5001 leaps downward":           {Kinds: kinds(1), Leaps: downward(5001)},
		"two jumps at one moment":       jumping(api.Jump{At: 5}, api.Jump{At: 5}),
		"two jumps at one, later":       jumping(api.Jump{At: 4}, api.Jump{At: 5}, api.Jump{At: 5, Kind: 1}),
		"jumps that fall":               jumping(api.Jump{At: 5}, api.Jump{At: 4}),
		"jumps that fall at the end":    jumping(api.Jump{At: -3}, api.Jump{At: 0}, api.Jump{At: -2}),
		"a jump to a kind there is not": jumping(api.Jump{At: 0, Kind: 2}),
		"a later one to none":           jumping(api.Jump{At: 0, Kind: 1}, api.Jump{At: 1, Kind: 2}),
		"a jump to a kind below 0":      jumping(api.Jump{At: 0, Kind: -1}),
		"a jump to kind 256":            {Kinds: kinds(256), Jumps: []api.Jump{{Kind: 256}}},
		"two leaps at one moment":       leaping(api.Leap{At: 5, Corr: 1}, api.Leap{At: 5, Corr: 2}),
		"two leaps at 0":                leaping(api.Leap{At: 0, Corr: 1}, api.Leap{At: 0, Corr: 2}),
		"leaps that fall":               leaping(api.Leap{At: 5, Corr: 1}, api.Leap{At: 4, Corr: 2}),
		"a leap below 0":                leaping(api.Leap{At: -1, Corr: 1}),
		"a leap far below 0":            leaping(api.Leap{At: math.MinInt32, Corr: 1}),
		"the first Corr 0":              leaping(api.Leap{At: 0, Corr: 0}),
		"the first Corr 0, then 1":      leaping(api.Leap{At: 0, Corr: 0}, api.Leap{At: 1, Corr: 1}),
		"the first Corr 2":              leaping(api.Leap{At: 0, Corr: 2}),
		"the first Corr -2":             leaping(api.Leap{At: 0, Corr: -2}),
		"a Corr 2 more":                 leaping(api.Leap{At: 0, Corr: 1}, api.Leap{At: 1, Corr: 3}),
		"a Corr 2 less":                 leaping(api.Leap{At: 0, Corr: 1}, api.Leap{At: 1, Corr: -1}),
		"the same Corr, not at the end": leaping(api.Leap{At: 0, Corr: 1}, api.Leap{At: 1, Corr: 1}, api.Leap{At: 2, Corr: 2}),
		"the same Corr twice":           leaping(api.Leap{At: 0, Corr: 1}, api.Leap{At: 1, Corr: 1}, api.Leap{At: 2, Corr: 1}),
	}
}

// wrongNumbers lie beyond what may be, some far; some would be right if only their lowest bits were looked at.
func wrongNumbers() map[string]Block {
	all := map[string]Block{}
	for _, off := range []int{-1 << 31, -1<<31 - 1, 1 << 31, 1<<31 + 1, 1 << 32, -1 << 32, 1<<32 + 1, math.MinInt, math.MaxInt} {
		all[fmt.Sprint("Off ", off)] = single(off, "a")
		all[fmt.Sprint("a later Off ", off)] = Block{Kinds: []api.Kind{{}, {Off: off}}}
	}
	for _, great := range []int{math.MinInt, math.MinInt + 1, math.MaxInt, math.MaxInt - 1, 1 << 32, 1<<32 + 1, 1<<32 - 1, 1 << 8, 1<<8 + 1} {
		all[fmt.Sprint("a jump to ", great)] = jumping(api.Jump{Kind: great})
		all[fmt.Sprint("a Corr ", great)] = leaping(api.Leap{Corr: great})
		all[fmt.Sprint("a later Corr ", great)] = leaping(api.Leap{Corr: -1}, api.Leap{At: 1, Corr: great})
		all[fmt.Sprint("a Corr behind ", great)] = leaping(api.Leap{Corr: great}, api.Leap{At: 1, Corr: great + 1})
	}
	return all
}

// put is the number by size bytes, made without the program's own calls.
func put(b []byte, size int, n int64) []byte {
	if size == 4 {
		return binary.BigEndian.AppendUint32(b, uint32(n))
	}
	return binary.BigEndian.AppendUint64(b, uint64(n))
}

// told is how a right block's bytes, and its header, must be, made without the program's own calls.
func told(x Block, size, version int) ([]byte, header.Header) {
	var b []byte
	for _, jump := range x.Jumps {
		b = put(b, size, jump.At)
	}
	for _, jump := range x.Jumps {
		b = append(b, byte(jump.Kind))
	}
	var different []string
	for _, kind := range x.Kinds {
		if !slices.Contains(different, kind.Name) {
			different = append(different, kind.Name)
		}
	}
	for _, kind := range x.Kinds {
		place := 0
		for _, name := range different[:slices.Index(different, kind.Name)] {
			place += len(name) + 1
		}
		b = append(put(b, 4, int64(kind.Off)), one(kind.Dst), byte(place))
	}
	names := strings.Join(different, "\x00") + "\x00"
	b = append(b, names...)
	for _, leap := range x.Leaps {
		b = put(put(b, size, leap.At), 4, int64(leap.Corr))
	}
	for _, marked := range slices.Concat(x.Std, x.Ut) {
		b = append(b, one(marked))
	}
	return b, header.Header{Version: version, Ut: len(x.Ut), Std: len(x.Std), Leap: len(x.Leaps), Time: len(x.Jumps), Type: len(x.Kinds), Char: len(names)}
}

func one(marked bool) byte {
	if marked {
		return 1
	}
	return 0
}

// fine asks that a block is right, that its bytes and its header are as they must be, and that they are read as they were told.
func fine(t *testing.T, x Block, size, version int) {
	t.Helper()
	was := clone(x)
	if !Right(x, size, version) {
		t.Errorf("size %d, version %d: not right: %s", size, version, brief(x))
	}
	want, head := told(x, size, version)
	b, h, err := Encode(x, size, version)
	if !bytes.Equal(b, want) || h != head || err != api.OK {
		t.Errorf("size %d, version %d: %d bytes, not %d, header %v, not %v, %v: %s", size, version, len(b), len(want), h, head, err, brief(x))
	}
	for _, behind := range []string{"", "\x00", "\xff\x01\n"} {
		c := append(slices.Clone(want), behind...)
		before := slices.Clone(c)
		if y, err := Decode(c, head, size); !same(y, was) || err != api.OK {
			t.Errorf("size %d, version %d: read as %s, %v, not %s", size, version, brief(y), err, brief(was))
		}
		if !bytes.Equal(c, before) {
			t.Fatalf("size %d, version %d: Decode wrote over its bytes", size, version)
		}
	}
	if !same(x, was) {
		t.Fatalf("size %d, version %d: the block was changed: %s", size, version, brief(x))
	}
}

// refused asks that a block is not told.
func refused(t *testing.T, why string, x Block, size, version int) {
	t.Helper()
	was := clone(x)
	if b, h, err := Encode(x, size, version); len(b) != 0 || h != (header.Header{}) || err != api.ErrArg {
		t.Errorf("%s, size %d, version %d: %d bytes, %v, %v", why, size, version, len(b), h, err)
	}
	if !same(x, was) {
		t.Fatalf("%s: the block was changed: %s", why, brief(x))
	}
}

// wrong asks that a block is not right, and not told.
func wrong(t *testing.T, why string, x Block, size, version int) {
	t.Helper()
	if Right(x, size, version) {
		t.Errorf("%s, size %d, version %d: right", why, size, version)
	}
	refused(t, why, x, size, version)
}

// fails asks for an error, and for a zero block beside it.
func fails(t *testing.T, why string, b []byte, h header.Header, size int, want api.Errno) {
	t.Helper()
	was := slices.Clone(b)
	if x, err := Decode(b, h, size); !same(x, Block{}) || err != want {
		t.Errorf("%s: %s, %v, not %v", why, brief(x), err, want)
	}
	if !bytes.Equal(b, was) {
		t.Fatalf("%s: Decode wrote over its bytes", why)
	}
}

func TestRightBlocksAreToldAndRead(t *testing.T) {
	for _, x := range rights() {
		for _, size := range []int{4, 8} {
			for version := 1; version <= 4; version++ {
				fine(t, x, size, version)
			}
		}
	}
}

func TestWrongBlocksAreNotTold(t *testing.T) {
	for why, x := range wrongs() {
		for _, size := range []int{4, 8} {
			for version := 1; version <= 4; version++ {
				wrong(t, why, x, size, version)
			}
		}
	}
}

func TestAKindWithoutANameHasSevenBytes(t *testing.T) {
	for _, size := range []int{4, 8} {
		b, h, err := Encode(least(), size, 1)
		if string(b) != "\x00\x00\x00\x00\x00\x00\x00" || h != (header.Header{Version: 1, Type: 1, Char: 1}) || err != api.OK {
			t.Errorf("%q, %v, %v", b, h, err)
		}
	}
}

func TestEachByteOfABlock(t *testing.T) {
	x := Block{
		Kinds: []api.Kind{{Off: -2, Name: "LMT"}, {Off: 0x01020304, Dst: true, Name: "CEST"}, {Off: 3600, Name: ""}, {Off: -0x7fffffff, Dst: true, Name: "LMT"}},
		Jumps: []api.Jump{{At: -256, Kind: 3}, {At: 0x05060708, Kind: 1}},
		Leaps: []api.Leap{{At: 0x090a0b0c, Corr: -1}, {At: 0x0d0e0f10, Corr: 0}, {At: 0x11121314, Corr: 1}},
		Std:   []bool{true, false, false, true},
		Ut:    []bool{false, false, false, true},
	}
	four := "\xff\xff\xff\x00" + "\x05\x06\x07\x08" + "\x03\x01" +
		"\xff\xff\xff\xfe\x00\x00" + "\x01\x02\x03\x04\x01\x04" + "\x00\x00\x0e\x10\x00\x09" + "\x80\x00\x00\x01\x01\x00" +
		"LMT\x00CEST\x00\x00" +
		"\x09\x0a\x0b\x0c\xff\xff\xff\xff" + "\x0d\x0e\x0f\x10\x00\x00\x00\x00" + "\x11\x12\x13\x14\x00\x00\x00\x01" +
		"\x01\x00\x00\x01" + "\x00\x00\x00\x01"
	eight := "\xff\xff\xff\xff\xff\xff\xff\x00" + "\x00\x00\x00\x00\x05\x06\x07\x08" + "\x03\x01" +
		"\xff\xff\xff\xfe\x00\x00" + "\x01\x02\x03\x04\x01\x04" + "\x00\x00\x0e\x10\x00\x09" + "\x80\x00\x00\x01\x01\x00" +
		"LMT\x00CEST\x00\x00" +
		"\x00\x00\x00\x00\x09\x0a\x0b\x0c\xff\xff\xff\xff" + "\x00\x00\x00\x00\x0d\x0e\x0f\x10\x00\x00\x00\x00" + "\x00\x00\x00\x00\x11\x12\x13\x14\x00\x00\x00\x01" +
		"\x01\x00\x00\x01" + "\x00\x00\x00\x01"
	for version := 1; version <= 4; version++ {
		head := header.Header{Version: version, Ut: 4, Std: 4, Leap: 3, Time: 2, Type: 4, Char: 10}
		for size, want := range map[int]string{4: four, 8: eight} {
			if b, h, err := Encode(x, size, version); string(b) != want || h != head || err != api.OK {
				t.Errorf("size %d, version %d: %q, %v, %v", size, version, b, h, err)
			}
			if y, err := Decode([]byte(want+"more"), head, size); !same(x, y) || err != api.OK {
				t.Errorf("size %d, version %d: %v, %v", size, version, y, err)
			}
		}
	}
}

func TestMarksOfOneSortAlone(t *testing.T) {
	for _, row := range []struct {
		std, ut []bool
		h       header.Header
	}{
		{[]bool{true, false}, nil, header.Header{Version: 2, Std: 2, Type: 2, Char: 1}},
		{nil, []bool{false, false}, header.Header{Version: 2, Ut: 2, Type: 2, Char: 1}},
	} {
		x := Block{Kinds: []api.Kind{{}, {}}, Std: row.std, Ut: row.ut}
		want := strings.Repeat("\x00", 13) + string([]byte{one(len(row.std) > 0), 0})
		if b, h, err := Encode(x, 8, 2); string(b) != want || h != row.h || err != api.OK {
			t.Errorf("%q, %v, %v", b, h, err)
		}
		if y, err := Decode([]byte(want), row.h, 8); !same(x, y) || err != api.OK {
			t.Errorf("%v, %v", y, err)
		}
	}
}

func TestSizes(t *testing.T) {
	bytesOf, h := told(least(), 4, 2)
	for _, size := range []int{math.MinInt, -8, -4, -1, 0, 1, 2, 3, 5, 6, 7, 9, 16, 1<<32 + 4, 1<<32 + 8, math.MaxInt} {
		for version := 0; version <= 5; version++ {
			wrong(t, "least", least(), size, version)
			wrong(t, "ordinary", ordinary(), size, version)
		}
		// A wrong size is told ahead of bytes that are missing.
		for _, b := range [][]byte{nil, bytesOf, make([]byte, 1000)} {
			fails(t, fmt.Sprint("size ", size), b, h, size, api.ErrArg)
		}
	}
}

func TestVersions(t *testing.T) {
	for _, size := range []int{4, 8} {
		for _, version := range []int{math.MinInt, -4, -1, 0, 5, 6, '2', '4', 1<<32 + 1, math.MaxInt} {
			refused(t, "least", least(), size, version)
			refused(t, "ordinary", ordinary(), size, version)
			// Of a block itself no version is asked but the one in which the last leap may have the same Corr.
			if !Right(ordinary(), size, version) {
				t.Errorf("size %d, version %d: not right", size, version)
			}
			wrong(t, "the same Corr at the end", leaping(api.Leap{At: 0, Corr: 1}, api.Leap{At: 1, Corr: 1}), size, version)
		}
	}
}

func TestTheLastCorrMayBeTheSameInVersionFour(t *testing.T) {
	for _, x := range []Block{
		leaping(api.Leap{At: 0, Corr: 1}, api.Leap{At: 1, Corr: 1}),
		leaping(api.Leap{At: 0, Corr: -1}, api.Leap{At: 1, Corr: -1}),
		leaping(api.Leap{At: 0, Corr: 1}, api.Leap{At: 1, Corr: 0}, api.Leap{At: 2, Corr: 0}),
		leaping(append(leaps(4999), api.Leap{At: math.MaxInt32, Corr: 4999})...),
	} {
		for _, size := range []int{4, 8} {
			fine(t, x, size, 4)
			for version := 1; version <= 3; version++ {
				wrong(t, "the same Corr at the end", x, size, version)
				b, h := told(x, size, version)
				fails(t, "the same Corr at the end", b, h, size, api.ErrForm)
			}
		}
	}
	// Where there is only one, none is ahead of it.
	for version := 1; version <= 4; version++ {
		wrong(t, "only one", leaping(api.Leap{At: 5, Corr: 0}), 8, version)
	}
	wrong(t, "too many", leaping(append(leaps(5000), api.Leap{At: math.MaxInt32, Corr: 5000})...), 8, 4)
}

func TestMomentsAtTheEnds(t *testing.T) {
	for _, at := range []int64{math.MinInt32, math.MinInt32 + 1, -1, 0, 1, math.MaxInt32 - 1, math.MaxInt32} {
		fine(t, jumping(api.Jump{At: at, Kind: 1}), 4, 1)
		fine(t, jumping(api.Jump{At: at, Kind: 1}), 8, 2)
		if at >= 0 {
			fine(t, leaping(api.Leap{At: at, Corr: 1}), 4, 1)
			fine(t, leaping(api.Leap{At: at, Corr: 1}), 8, 2)
		}
	}
	for _, at := range []int64{math.MinInt64, math.MinInt64 + 1, -1 << 40, -1 << 32, math.MinInt32 - 1, math.MaxInt32 + 1, 1 << 32, 1<<32 + 1, 1 << 40, math.MaxInt64 - 1, math.MaxInt64} {
		for version := 1; version <= 4; version++ {
			fine(t, jumping(api.Jump{At: at, Kind: 1}), 8, version)
			wrong(t, fmt.Sprint("a jump at ", at), jumping(api.Jump{At: at, Kind: 1}), 4, version)
			if at >= 0 {
				fine(t, leaping(api.Leap{At: at, Corr: 1}), 8, version)
			} else {
				wrong(t, fmt.Sprint("a leap at ", at), leaping(api.Leap{At: at, Corr: 1}), 8, version)
			}
			wrong(t, fmt.Sprint("a leap at ", at), leaping(api.Leap{At: at, Corr: 1}), 4, version)
		}
	}
	whole := jumping(api.Jump{At: math.MinInt64, Kind: 1}, api.Jump{At: math.MaxInt64})
	whole.Leaps = []api.Leap{{At: 0, Corr: 1}, {At: math.MaxInt64, Corr: 2}}
	fine(t, whole, 8, 3)
	wrong(t, "moments that fall from end to end", jumping(api.Jump{At: math.MaxInt64, Kind: 1}, api.Jump{At: math.MinInt64}), 8, 3)
	// Only a later one does not fit.
	wrong(t, "a later jump", jumping(api.Jump{At: 0}, api.Jump{At: 1 << 31}), 4, 1)
	wrong(t, "a later leap", leaping(api.Leap{At: 0, Corr: 1}, api.Leap{At: 1 << 31, Corr: 2}), 4, 1)
}

func TestDecodeOfAHeaderThatIsNotRight(t *testing.T) {
	b, h := told(ordinary(), 8, 2)
	for why, change := range map[string]func(h *header.Header){
		"zero":         func(h *header.Header) { *h = header.Header{} },
		"version 0":    func(h *header.Header) { h.Version = 0 },
		"version 5":    func(h *header.Header) { h.Version = 5 },
		"no type":      func(h *header.Header) { h.Type, h.Std, h.Ut = 0, 0, 0 },
		"types":        func(h *header.Header) { h.Type = 257 },
		"no char":      func(h *header.Header) { h.Char = 0 },
		"chars":        func(h *header.Header) { h.Char = 257 },
		"char below 0": func(h *header.Header) { h.Char = -9 },
		"times":        func(h *header.Header) { h.Time = 5001 },
		"time below 0": func(h *header.Header) { h.Time = -1 },
		"leaps":        func(h *header.Header) { h.Leap = 5001 },
		"leap below 0": func(h *header.Header) { h.Leap = -1 },
		"least leap":   func(h *header.Header) { h.Leap = math.MinInt },
		"great time":   func(h *header.Header) { h.Time = math.MaxInt },
		"std less":     func(h *header.Header) { h.Std-- },
		"std more":     func(h *header.Header) { h.Std++ },
		"ut less":      func(h *header.Header) { h.Ut-- },
		"ut more":      func(h *header.Header) { h.Ut++ },
		"ut below 0":   func(h *header.Header) { h.Ut = -4 },
	} {
		g := h
		change(&g)
		for _, size := range []int{4, 8, 5} {
			// A header that is not right is told ahead of bytes that are missing.
			for _, row := range [][]byte{nil, b[:9], b, append(slices.Clone(b), make([]byte, 200000)...)} {
				fails(t, why, row, g, size, api.ErrArg)
			}
		}
	}
}

func TestTooFewBytes(t *testing.T) {
	for _, x := range []Block{least(), ordinary(), {Kinds: kinds(2), Leaps: leaps(2)}, {Kinds: kinds(2), Jumps: jumps(2)}} {
		for _, size := range []int{4, 8} {
			b, h := told(x, size, 3)
			if header.Body(h, size) != len(b) {
				t.Fatal(h, len(b))
			}
			// Room behind their end is no part of them, and a wrong form is told behind.
			for n := range len(b) {
				fails(t, fmt.Sprint(n, " bytes"), b[:n], h, size, api.ErrShort)
				fails(t, fmt.Sprint(n, " bytes of 0xff"), bytes.Repeat([]byte{0xff}, n), h, size, api.ErrShort)
			}
			fails(t, "no bytes", nil, h, size, api.ErrShort)
			if y, err := Decode(b, h, size); !same(x, y) || err != api.OK {
				t.Error(y, err)
			}
		}
	}
	full := header.Header{Version: 4, Ut: 256, Std: 256, Leap: 5000, Time: 5000, Type: 256, Char: 256}
	fails(t, "the greatest header", make([]byte, 107303), full, 8, api.ErrShort)
	fails(t, "the greatest header", make([]byte, 67303), full, 4, api.ErrShort)
	fails(t, "the greatest header, and all bytes", make([]byte, 107304), full, 8, api.ErrForm)
}

// layout tells where the things of a block's bytes begin.
type layout struct{ jumped, kinds, names, leaps, std, ut, end int }

func layOut(h header.Header, size int) layout {
	var l layout
	l.jumped = h.Time * size
	l.kinds = l.jumped + h.Time
	l.names = l.kinds + h.Type*6
	l.leaps = l.names + h.Char
	l.std = l.leaps + h.Leap*(size+4)
	l.ut = l.std + h.Std
	l.end = l.ut + h.Ut
	return l
}

func TestEachCauseOfAWrongForm(t *testing.T) {
	x := ordinary()
	for _, size := range []int{4, 8} {
		for version := 1; version <= 4; version++ {
			b, h := told(x, size, version)
			l := layOut(h, size)
			for _, c := range []struct {
				why  string
				at   int
				with string
			}{
				{"a jump's kind is Type", l.jumped, "\x04"},
				{"a jump's kind is above Type", l.jumped + 2, "\x05"},
				{"the last jump's kind is 255", l.jumped + 4, "\xff"},
				{"a Dst of 2", l.kinds + 4, "\x02"},
				{"a Dst of 255", l.kinds + 10, "\xff"},
				{"the last Dst is 128", l.kinds + 3*6 + 4, "\x80"},
				{"a name's place is Char", l.kinds + 5, "\x0d"},
				{"a name's place is above Char", l.kinds + 6 + 5, "\x0e"},
				{"the last name's place is 255", l.kinds + 3*6 + 5, "\xff"},
				{"no byte 0 behind a place", l.leaps - 1, "x"},
				{"an Off of -2^31", l.kinds, "\x80\x00\x00\x00"},
				{"the last Off of -2^31", l.kinds + 3*6, "\x80\x00\x00\x00"},
				{"two jumps at one moment", size, string(b[:size])},
				{"jumps that fall", l.jumped - size, string(b[:size])},
				{"a leap below 0", l.leaps, "\xff"},
				{"two leaps at one moment", l.leaps + size + 4, string(b[l.leaps : l.leaps+size])},
				{"the first Corr 0", l.leaps + size, "\x00\x00\x00\x00"},
				{"the first Corr 3", l.leaps + size, "\x00\x00\x00\x03"},
				{"a Corr that is the same", l.leaps + 4 + 2*size, "\x00\x00\x00\x01"},
				{"a Corr that is 2 more", l.leaps + 4 + 2*size, "\x00\x00\x00\x03"},
				{"a Corr with a high bit", l.leaps + 4 + 2*size, "\x80\x00\x00\x02"},
				{"the last Corr 3 less", l.leaps + 8 + 3*size, "\xff\xff\xff\xff"},
				{"a mark of Std of 2", l.std, "\x02"},
				{"the last mark of Std of 255", l.ut - 1, "\xff"},
				{"a mark of Ut of 2", l.ut, "\x02"},
				{"the last mark of Ut of 128", l.end - 1, "\x80"},
				{"a mark of Ut, and none of Std", l.ut + 1, "\x01"},
				{"a mark of Std less than of Ut", l.ut - 1, "\x00"},
			} {
				c2 := slices.Clone(b)
				copy(c2[c.at:], c.with)
				why := fmt.Sprintf("size %d, version %d: %s", size, version, c.why)
				for _, behind := range []string{"", "\x00", "\x00\x00\x00 and more \x00"} {
					fails(t, why, append(slices.Clone(c2), behind...), h, size, api.ErrForm)
				}
			}
		}
	}
}

func TestMarksThatAreNone(t *testing.T) {
	kinds := strings.Repeat("\x00", 13)
	std := header.Header{Version: 2, Std: 2, Type: 2, Char: 1}
	ut := header.Header{Version: 2, Ut: 2, Type: 2, Char: 1}
	both := header.Header{Version: 2, Std: 2, Ut: 2, Type: 2, Char: 1}
	for octet := 2; octet < 256; octet++ {
		for place := range 4 {
			marks := make([]byte, 4)
			marks[place] = byte(octet)
			b := append([]byte(kinds), marks...)
			fails(t, fmt.Sprint(marks, " as both"), b, both, 8, api.ErrForm)
			if place < 2 {
				fails(t, fmt.Sprint(marks, " as Std"), b[:15], std, 8, api.ErrForm)
				fails(t, fmt.Sprint(marks, " as Ut"), b[:15], ut, 8, api.ErrForm)
			}
		}
	}
}

func TestWrongBlocksAreNotRead(t *testing.T) {
	for why, x := range wrongs() {
		for _, size := range []int{4, 8} {
			for version := 1; version <= 4; version++ {
				b, h := told(x, size, version)
				if header.Right(h) && expressible(x) {
					fails(t, why, b, h, size, api.ErrForm)
				}
			}
		}
	}
}

// expressible: whether bytes can tell the block: each number fits those that it has, and no name ends ahead of its end.
func expressible(x Block) bool {
	for _, kind := range x.Kinds {
		if int(int32(kind.Off)) != kind.Off || strings.Contains(kind.Name, "\x00") {
			return false
		}
	}
	for _, jump := range x.Jumps {
		if jump.Kind < 0 || jump.Kind > 255 {
			return false
		}
	}
	for _, leap := range x.Leaps {
		if int(int32(leap.Corr)) != leap.Corr {
			return false
		}
	}
	return true
}

// naming is the body of kinds whose names have these places.
func naming(names string, places ...byte) ([]byte, header.Header) {
	var b []byte
	for i, place := range places {
		b = append(b, 0, 0, 0, byte(i), 0, place)
	}
	return append(b, names...), header.Header{Version: 2, Type: len(places), Char: len(names)}
}

func TestNamesInAnyOrder(t *testing.T) {
	for _, row := range []struct {
		names  string
		places []byte
		want   []string
	}{
		{"LMT\x00CET\x00CEST\x00", []byte{8, 4, 0}, []string{"CEST", "CET", "LMT"}},
		{"LMT\x00CET\x00CEST\x00", []byte{0, 1, 2, 3}, []string{"LMT", "MT", "T", ""}},
		{"LMT\x00CET\x00CEST\x00", []byte{9, 8, 12}, []string{"EST", "CEST", ""}},
		{"LMT\x00CET\x00CEST\x00", []byte{4, 4}, []string{"CET", "CET"}},
		// The same name may stand twice, and what nobody has may stand anywhere, with no byte 0 behind it.
		{"CET\x00CET\x00", []byte{0, 4}, []string{"CET", "CET"}},
		{"none\x00CET\x00rest", []byte{5}, []string{"CET"}},
		{"\x00", []byte{0, 0}, []string{"", ""}},
		{"\x00\x00\x00", []byte{2, 0, 1}, []string{"", "", ""}},
		{strings.Repeat("a", 255) + "\x00", []byte{0}, []string{strings.Repeat("a", 255)}},
		{strings.Repeat("a", 255) + "\x00", []byte{255}, []string{""}},
		{strings.Repeat("a", 255) + "\x00", []byte{128, 128}, []string{strings.Repeat("a", 127), strings.Repeat("a", 127)}},
		// 200 and 54 bytes, with a byte 0 behind each, are just as many as there may be.
		{strings.Repeat("a", 200) + "\x00", []byte{0, 146}, []string{strings.Repeat("a", 200), strings.Repeat("a", 54)}},
	} {
		b, h := naming(row.names, row.places...)
		for _, behind := range []string{"", "\x00", "x\x00"} {
			for _, size := range []int{4, 8} {
				x, err := Decode(append(slices.Clone(b), behind...), h, size)
				if !same(x, named(row.want...)) || err != api.OK {
					t.Errorf("%q at %v: %v, %v", row.names, row.places, x, err)
				}
			}
		}
	}
}

func TestNamesThatAreNone(t *testing.T) {
	for _, row := range []struct {
		names  string
		places []byte
	}{
		{"CET", []byte{0}},
		{"CET", []byte{2}},
		{"\x00", []byte{1}},
		{"\x00", []byte{255}},
		{"CET\x00", []byte{4}},
		{"CET\x00", []byte{0, 5}},
		{"CET\x00x", []byte{0, 4}},
		{"CET\x00x", []byte{4, 0}},
		{"CET\x00x", []byte{5}},
		{strings.Repeat("a", 256), []byte{0}},
		{strings.Repeat("a", 255), []byte{255}},
		// Names that overlap are told each by itself: together they are too many bytes.
		{strings.Repeat("a", 255) + "\x00", []byte{0, 255}},
		{strings.Repeat("a", 200) + "\x00", []byte{0, 145}},
		{strings.Repeat("a", 30) + "\x00", []byte{0, 1, 2, 3, 4, 5, 6, 7, 8, 9}},
	} {
		b, h := naming(row.names, row.places...)
		// A byte 0 behind the names is none of theirs.
		for _, behind := range []string{"", "\x00", "CET\x00"} {
			for _, size := range []int{4, 8} {
				fails(t, fmt.Sprintf("%q at %v", row.names, row.places), append(slices.Clone(b), behind...), h, size, api.ErrForm)
			}
		}
	}
	// Here leaps stand behind the names, and their bytes are 0.
	b, h := naming("CET", 0)
	h.Leap = 1
	fails(t, "leaps behind the names", append(b, 0, 0, 0, 0, 0, 0, 0, 1), h, 4, api.ErrForm)
}

// TestEachByteChanged: whatever one byte becomes, what is read is right, and is read again as it was; or nothing is.
func TestEachByteChanged(t *testing.T) {
	for _, size := range []int{4, 8} {
		whole, h := told(ordinary(), size, 4)
		l := layOut(h, size)
		for at := range whole {
			for octet := range 256 {
				b := slices.Clone(whole)
				b[at] = byte(octet)
				x, err := Decode(b, h, size)
				if err != api.OK {
					fails(t, fmt.Sprint(at, octet), b, h, size, api.ErrForm)
					continue
				}
				if !Right(x, size, h.Version) {
					t.Fatalf("byte %d as %d: %v is not right", at, octet, x)
				}
				fine(t, x, size, h.Version)
				isMark := at >= l.std || at >= l.kinds && at < l.names && (at-l.kinds)%6 == 4
				if isMark && octet > 1 || at >= l.jumped && at < l.kinds && octet >= h.Type {
					t.Errorf("byte %d as %d: %v", at, octet, x)
				}
			}
		}
	}
}

func TestAnswersShareNothing(t *testing.T) {
	x := ordinary()
	b, h, _ := Encode(x, 8, 2)
	want := slices.Clone(b)
	clear(x.Kinds)
	clear(x.Jumps)
	clear(x.Leaps)
	clear(x.Std)
	clear(x.Ut)
	if !bytes.Equal(b, want) {
		t.Error("the bytes hang on the block")
	}
	y, _ := Decode(b, h, 8)
	z, _ := Decode(b, h, 8)
	clear(b)
	if !same(y, ordinary()) {
		t.Error("the block hangs on its bytes")
	}
	clear(y.Kinds)
	clear(y.Jumps)
	clear(y.Leaps)
	for i := range y.Std[:cap(y.Std)] {
		y.Std[:cap(y.Std)][i] = true
	}
	if !same(Block{Ut: y.Ut}, Block{Ut: ordinary().Ut}) {
		t.Error("the marks of Std and Ut share memory")
	}
	if !same(z, ordinary()) {
		t.Error("two blocks share memory")
	}
	one, _, _ := Encode(ordinary(), 8, 2)
	two, _, _ := Encode(ordinary(), 8, 2)
	clear(one[:cap(one)])
	if !bytes.Equal(two, want) {
		t.Error("two rows of bytes share memory")
	}
}

func TestRoomBehindAListIsNotTouched(t *testing.T) {
	memory := ordinary()
	memory.Kinds = append(memory.Kinds, api.Kind{Off: 99, Name: "ZZZ"})
	memory.Jumps = append(memory.Jumps, api.Jump{At: 99})
	memory.Std, memory.Ut = append(memory.Std, true), append(memory.Ut, true)
	was := clone(memory)
	x := memory
	x.Kinds, x.Jumps, x.Std, x.Ut = x.Kinds[:4], x.Jumps[:5], x.Std[:4], x.Ut[:4]
	fine(t, x, 8, 2)
	if !same(memory, was) {
		t.Error(memory)
	}
}
