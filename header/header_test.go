package header

import (
	"bytes"
	"encoding/binary"
	"math"
	"slices"
	"testing"

	"longcase/api"
)

// small is the least header that is right.
func small() Header {
	return Header{Version: 1, Type: 1, Char: 1}
}

// rights are ordinary headers of each version, and those at the edges of what is right, each number by itself and all together.
func rights() []Header {
	var all []Header
	for version := 1; version <= 4; version++ {
		all = append(all,
			Header{Version: version, Type: 1, Char: 1},
			Header{Version: version, Ut: 1, Std: 1, Type: 1, Char: 1},
			Header{Version: version, Ut: 6, Std: 6, Leap: 27, Time: 236, Type: 6, Char: 20},
			Header{Version: version, Ut: 0, Std: 6, Leap: 0, Time: 236, Type: 6, Char: 20},
			Header{Version: version, Ut: 6, Std: 0, Leap: 27, Time: 0, Type: 6, Char: 20},
			Header{Version: version, Type: 256, Char: 1},
			Header{Version: version, Type: 1, Char: 256},
			Header{Version: version, Time: 1, Type: 1, Char: 1},
			Header{Version: version, Time: 5000, Type: 1, Char: 1},
			Header{Version: version, Leap: 1, Type: 1, Char: 1},
			Header{Version: version, Leap: 5000, Type: 1, Char: 1},
			Header{Version: version, Ut: 256, Type: 256, Char: 1},
			Header{Version: version, Std: 256, Type: 256, Char: 1},
			Header{Version: version, Ut: 256, Std: 256, Leap: 5000, Time: 5000, Type: 256, Char: 256},
			Header{Version: version, Ut: 255, Std: 255, Leap: 4999, Time: 4999, Type: 255, Char: 255},
			Header{Version: version, Ut: 2, Std: 2, Leap: 3, Time: 4, Type: 2, Char: 5},
		)
	}
	return all
}

// field is one number of a header, and numbers that it may not be, whatever the others are.
type field struct {
	name  string
	place func(h *Header) *int
	wrong []int
}

func fields() []field {
	return []field{
		{"Version", func(h *Header) *int { return &h.Version }, []int{0, 5, 6, -3, '2', '3'}},
		{"Ut", func(h *Header) *int { return &h.Ut }, []int{1, 2, 4, 5, 256, 257}},
		{"Std", func(h *Header) *int { return &h.Std }, []int{1, 2, 4, 5, 256, 257}},
		{"Leap", func(h *Header) *int { return &h.Leap }, []int{5001, 5002, 65536}},
		{"Time", func(h *Header) *int { return &h.Time }, []int{5001, 5002, 65536}},
		{"Type", func(h *Header) *int { return &h.Type }, []int{0, 257, 258, 5000, 65537}},
		{"Char", func(h *Header) *int { return &h.Char }, []int{0, 257, 258, 5000, 65537}},
	}
}

// everywhere are numbers that are wrong in each field; some would be right if only their lowest 32 bits were looked at.
func everywhere() []int {
	return []int{-1, -2, -5000, math.MinInt, math.MinInt + 1, math.MinInt + 3, math.MaxInt, 1 << 31, 1 << 32, 1<<32 + 3, 3 - 1<<32}
}

// wrongs are headers with one number that may not be.
func wrongs() []Header {
	var all []Header
	for _, f := range fields() {
		for _, n := range append(f.wrong, everywhere()...) {
			// With no marks Type may be all that it may be, so that only the one number is wrong.
			bases := []Header{{Version: 3, Leap: 2, Time: 7, Type: 3, Char: 9}}
			if f.name != "Type" {
				bases = append(bases, Header{Version: 3, Ut: 3, Std: 3, Leap: 2, Time: 7, Type: 3, Char: 9})
			}
			for _, h := range bases {
				*f.place(&h) = n
				all = append(all, h)
			}
		}
	}
	return append(all,
		Header{},
		Header{Version: 1, Type: 1},
		Header{Version: 1, Char: 1},
		Header{Type: 1, Char: 1},
		Header{Version: 2, Ut: 1, Std: 2, Type: 2, Char: 1},
		Header{Version: 2, Ut: 2, Std: 1, Type: 2, Char: 1},
		Header{Version: 2, Ut: 3, Std: 3, Type: 2, Char: 1},
		Header{Version: 2, Ut: 257, Std: 257, Type: 257, Char: 1},
		Header{Version: 2, Ut: -1, Std: -1, Type: -1, Char: 1},
	)
}

// told is how a header's bytes must be, made without the package's own calls.
func told(mark byte, h Header) []byte {
	b := make([]byte, 20, 44)
	copy(b, "TZif")
	b[4] = mark
	for _, n := range []int{h.Ut, h.Std, h.Leap, h.Time, h.Type, h.Char} {
		b = binary.BigEndian.AppendUint32(b, uint32(n))
	}
	return b
}

func markOf(version int) byte {
	return []byte{1: 0, 2: '2', 3: '3', 4: '4'}[version]
}

func TestSize(t *testing.T) {
	if Size != 44 {
		t.Error(Size)
	}
}

func TestEachByteOfAHeader(t *testing.T) {
	h := Header{Version: 2, Ut: 256, Std: 256, Leap: 0x0102, Time: 0x0304, Type: 256, Char: 0x05}
	want := "TZif2" + "\x00\x00\x00\x00\x00\x00\x00\x00\x00\x00\x00\x00\x00\x00\x00" +
		"\x00\x00\x01\x00" + "\x00\x00\x01\x00" + "\x00\x00\x01\x02" + "\x00\x00\x03\x04" + "\x00\x00\x01\x00" + "\x00\x00\x00\x05"
	for version, mark := range map[int]string{1: "\x00", 2: "2", 3: "3", 4: "4"} {
		h.Version = version
		expect := want[:4] + mark + want[5:]
		if b, err := Encode(h); err != api.OK || string(b) != expect {
			t.Errorf("version %d: %q, %v, not %q", version, b, err, expect)
		}
	}
	// Ut, Std and Type are apart from each other where marks are missing.
	for _, row := range []struct {
		h    Header
		want string
	}{
		{Header{Version: 1, Ut: 2, Type: 2, Char: 3}, "\x00\x00\x00\x02\x00\x00\x00\x00\x00\x00\x00\x00\x00\x00\x00\x00\x00\x00\x00\x02\x00\x00\x00\x03"},
		{Header{Version: 1, Std: 2, Type: 2, Char: 3}, "\x00\x00\x00\x00\x00\x00\x00\x02\x00\x00\x00\x00\x00\x00\x00\x00\x00\x00\x00\x02\x00\x00\x00\x03"},
	} {
		b, err := Encode(row.h)
		if err != api.OK || len(b) != 44 || string(b[20:]) != row.want {
			t.Errorf("%v: %q, %v", row.h, b, err)
		}
		if got, err := Decode(b); got != row.h || err != api.OK {
			t.Errorf("%v, %v, not %v", got, err, row.h)
		}
	}
}

func TestWhatWasToldIsRead(t *testing.T) {
	for _, h := range rights() {
		if !Right(h) {
			t.Errorf("%v is not right", h)
		}
		b, err := Encode(h)
		if err != api.OK || !bytes.Equal(b, told(markOf(h.Version), h)) {
			t.Errorf("Encode(%v): %q, %v", h, b, err)
			continue
		}
		for _, filler := range []byte{0, 1, 'T', 0x7f, 0x80, 0xff} {
			for i := range b[5:20] {
				b[5+i] = filler + byte(i)
			}
			for _, behind := range []string{"", "\x00", "\xff", "TZif2", "bytes of a body"} {
				c := append(slices.Clone(b), behind...)
				was := slices.Clone(c)
				if got, err := Decode(c); got != h || err != api.OK {
					t.Errorf("Decode(%q): %v, %v, not %v", c, got, err, h)
				}
				if !bytes.Equal(c, was) {
					t.Fatalf("Decode changed %q to %q", was, c)
				}
			}
		}
	}
}

func TestWhatIsNotRightIsNotTold(t *testing.T) {
	for _, h := range wrongs() {
		if Right(h) {
			t.Errorf("%v is right", h)
		}
		if b, err := Encode(h); len(b) != 0 || err != api.ErrArg {
			t.Errorf("Encode(%v): %q, %v", h, b, err)
		}
	}
}

func TestEachNumberWithinItsEdges(t *testing.T) {
	for _, f := range fields() {
		for n := -2; n <= 5003; n++ {
			h := Header{Version: 4, Type: 3, Char: 2}
			*f.place(&h) = n
			var want bool
			switch f.name {
			case "Version":
				want = n >= 1 && n <= 4
			case "Ut", "Std":
				want = n == 0 || n == 3
			case "Type", "Char":
				want = n >= 1 && n <= 256
			case "Time", "Leap":
				want = n >= 0 && n <= 5000
			}
			if Right(h) != want {
				t.Errorf("%v: %v", h, !want)
			}
			b, err := Encode(h)
			if (err == api.OK) != want || (len(b) == 44) != want {
				t.Errorf("Encode(%v): %q, %v", h, b, err)
			}
			if f.name == "Version" {
				continue
			}
			if got, err := Decode(told('4', h)); want && (got != h || err != api.OK) || !want && (got != Header{} || err != api.ErrForm) {
				t.Errorf("Decode of %v: %v, %v", h, got, err)
			}
		}
	}
}

func TestTooFewBytes(t *testing.T) {
	whole, _ := Encode(Header{Version: 2, Ut: 2, Std: 2, Leap: 1, Time: 9, Type: 2, Char: 8})
	// Too few bytes are told ahead of a wrong form, and room behind their end is no part of them.
	for _, b := range [][]byte{whole, bytes.Repeat([]byte{0}, 44), bytes.Repeat([]byte{0xff}, 44), []byte("none of a zone's files begins with such a tex")} {
		for n := range 44 {
			short(t, b[:n])
		}
	}
	short(t, nil)
	short(t, []byte{})
	if h, err := Decode(whole); h.Time != 9 || err != api.OK {
		t.Error(h, err)
	}
}

func short(t *testing.T, b []byte) {
	t.Helper()
	was := slices.Clone(b)
	if h, err := Decode(b); h != (Header{}) || err != api.ErrShort {
		t.Errorf("Decode(%q): %v, %v", b, h, err)
	}
	if !bytes.Equal(b, was) {
		t.Fatalf("Decode changed %q to %q", was, b)
	}
}

// malformed asks for bytes by themselves, and with others behind them.
func malformed(t *testing.T, b []byte) {
	t.Helper()
	for _, behind := range []string{"", "\x00", "TZif2 and more"} {
		c := append(slices.Clone(b), behind...)
		was := slices.Clone(c)
		if h, err := Decode(c); h != (Header{}) || err != api.ErrForm {
			t.Errorf("Decode(%q): %v, %v", c, h, err)
		}
		if !bytes.Equal(c, was) {
			t.Fatalf("Decode changed %q to %q", was, c)
		}
	}
}

func TestEachOfTheFirstBytes(t *testing.T) {
	for place := range 4 {
		for octet := range 256 {
			b := told('2', small())
			if b[place] == byte(octet) {
				continue
			}
			b[place] = byte(octet)
			malformed(t, b)
		}
	}
	malformed(t, bytes.Repeat([]byte{0}, 44))
	malformed(t, bytes.Repeat([]byte{0xff}, 44))
}

func TestEachVersionByte(t *testing.T) {
	versions := map[byte]int{0: 1, '2': 2, '3': 3, '4': 4}
	for octet := range 256 {
		b := told(byte(octet), small())
		version, is := versions[byte(octet)]
		if !is {
			malformed(t, b)
			continue
		}
		want := small()
		want.Version = version
		if h, err := Decode(b); h != want || err != api.OK {
			t.Errorf("%q: %v, %v", b, h, err)
		}
	}
}

func TestNumbersThatAreNotRight(t *testing.T) {
	for _, h := range wrongs() {
		// Only what four bytes and a version's byte can tell is asked of Decode.
		fits := h.Version >= 1 && h.Version <= 4
		for _, n := range []int{h.Ut, h.Std, h.Leap, h.Time, h.Type, h.Char} {
			fits = fits && n >= 0 && n <= math.MaxUint32
		}
		if fits {
			malformed(t, told(markOf(h.Version), h))
		}
	}
}

func TestGreatNumbersOfFourBytes(t *testing.T) {
	whole := told('3', Header{Ut: 3, Std: 3, Leap: 2, Time: 7, Type: 3, Char: 9})
	for place := 20; place < 44; place += 4 {
		for _, great := range []uint32{5001, 65536, 1 << 24, 1<<24 + 3, math.MaxInt32, 1 << 31, 1<<31 + 3, math.MaxUint32 - 2, math.MaxUint32} {
			b := slices.Clone(whole)
			binary.BigEndian.PutUint32(b[place:], great)
			malformed(t, b)
		}
		// Each of the higher bits by itself, with the right number below it.
		for bit := 13; bit < 32; bit++ {
			b := slices.Clone(whole)
			b[place+3-bit/8] |= 1 << (bit % 8)
			malformed(t, b)
		}
	}
	// Marks and kinds that are as many as each other, but too many.
	b := slices.Clone(whole)
	for _, place := range []int{20, 24, 36} {
		binary.BigEndian.PutUint32(b[place:], math.MaxUint32)
	}
	malformed(t, b)
}

func TestBody(t *testing.T) {
	for _, row := range []struct {
		h           Header
		four, eight int
	}{
		{small(), 7, 7},
		{Header{Version: 2, Type: 2, Char: 1}, 13, 13},
		{Header{Version: 2, Type: 1, Char: 2}, 8, 8},
		{Header{Version: 2, Time: 1, Type: 1, Char: 1}, 12, 16},
		{Header{Version: 2, Leap: 1, Type: 1, Char: 1}, 15, 19},
		{Header{Version: 2, Std: 1, Type: 1, Char: 1}, 8, 8},
		{Header{Version: 2, Ut: 1, Type: 1, Char: 1}, 8, 8},
		{Header{Version: 3, Ut: 2, Std: 2, Leap: 1, Time: 300, Type: 2, Char: 9}, 1533, 2737},
		{Header{Version: 4, Ut: 6, Std: 6, Leap: 27, Time: 236, Type: 6, Char: 20}, 1464, 2516},
		{Header{Version: 4, Ut: 256, Std: 256, Leap: 5000, Time: 5000, Type: 256, Char: 256}, 67304, 107304},
	} {
		if n := Body(row.h, 4); n != row.four {
			t.Errorf("Body(%v, 4): %d, not %d", row.h, n, row.four)
		}
		if n := Body(row.h, 8); n != row.eight {
			t.Errorf("Body(%v, 8): %d, not %d", row.h, n, row.eight)
		}
	}
	// The version has no part in it.
	for _, h := range rights() {
		for _, size := range []int{4, 8} {
			want := h.Time*size + h.Time + 6*h.Type + h.Char + h.Leap*size + 4*h.Leap + h.Std + h.Ut
			if n := Body(h, size); n != want {
				t.Errorf("Body(%v, %d): %d, not %d", h, size, n, want)
			}
		}
	}
}

func TestBodyEndsWhateverItIsHanded(t *testing.T) {
	for _, h := range wrongs() {
		for _, size := range []int{math.MinInt, -4, -1, 0, 1, 4, 8, math.MaxInt} {
			Body(h, size)
		}
	}
}

func TestTwoEncodedHeadersShareNothing(t *testing.T) {
	one, _ := Encode(small())
	for i := range one[:cap(one)] {
		one[:cap(one)][i] = '-'
	}
	if two, err := Encode(small()); err != api.OK || !bytes.Equal(two, told(0, small())) {
		t.Errorf("%q, %v", two, err)
	}
}

func TestHeaderHangsNotOnItsBytes(t *testing.T) {
	b := told('2', Header{Type: 3, Char: 4})
	h, _ := Decode(b)
	clear(b)
	if h != (Header{Version: 2, Type: 3, Char: 4}) {
		t.Error(h)
	}
}
