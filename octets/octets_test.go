package octets

import (
	"bytes"
	"encoding/binary"
	"math"
	"math/big"
	"slices"
	"strings"
	"testing"
)

// numbers are ordinary ones, and those at which a byte, a sign or the whole is at its edge.
func numbers() []uint64 {
	all := []uint64{0, 1, 2, 5, 0x01020304, 0x0102030405060708, 0xfedcba9876543210, 0x8000000000000000, math.MaxUint64, math.MaxUint64 - 1}
	for bits := 7; bits < 64; bits++ {
		all = append(all, 1<<bits-1, 1<<bits, 1<<bits+1)
	}
	return all
}

// cut is what the lowest size bytes of n tell, as a great number, so that no wrap-round of a machine number has a part in it.
func cut(n uint64, size int) *big.Int {
	return new(big.Int).Mod(new(big.Int).SetUint64(n), power(size))
}

func power(size int) *big.Int {
	return new(big.Int).Lsh(big.NewInt(1), uint(8*size))
}

func signed(n *big.Int, size int) *big.Int {
	if n.Bit(8*size-1) == 0 {
		return n
	}
	return new(big.Int).Sub(n, power(size))
}

func TestPutTellsTheLowestBytesTheHighestFirst(t *testing.T) {
	for _, row := range []struct {
		b    string
		size int
		n    uint64
		want string
	}{
		{"", 1, 5, "\x05"},
		{"a", 1, 0x0102, "a\x02"},
		{"a", 2, 0x0102, "a\x01\x02"},
		{"a", 3, 0x01020304, "a\x02\x03\x04"},
		{"abc", 4, 0x01020304, "abc\x01\x02\x03\x04"},
		{"", 5, 0x01020304, "\x00\x01\x02\x03\x04"},
		{"", 6, 0xfedcba9876543210, "\xba\x98\x76\x54\x32\x10"},
		{"", 7, 0xfedcba9876543210, "\xdc\xba\x98\x76\x54\x32\x10"},
		{"\x00", 8, 0xfedcba9876543210, "\x00\xfe\xdc\xba\x98\x76\x54\x32\x10"},
		{"", 8, math.MaxUint64, "\xff\xff\xff\xff\xff\xff\xff\xff"},
		{"", 4, math.MaxUint64, "\xff\xff\xff\xff"},
		{"", 1, math.MaxUint64, "\xff"},
		{"", 4, 0xffffffff00000000, "\x00\x00\x00\x00"},
		{"", 8, 0, "\x00\x00\x00\x00\x00\x00\x00\x00"},
	} {
		if got := Put([]byte(row.b), row.size, row.n); string(got) != row.want {
			t.Errorf("Put(%q, %d, %x): %x, not %x", row.b, row.size, row.n, got, row.want)
		}
	}
}

func TestPutOfSizesOutsideOneToEight(t *testing.T) {
	for _, n := range numbers() {
		whole := binary.BigEndian.AppendUint64([]byte("ab"), n)
		for _, size := range []int{0, -1, -2, -8, -9, math.MinInt32, math.MinInt} {
			if got := Put([]byte("ab"), size, n); string(got) != "ab" {
				t.Errorf("Put(ab, %d, %x): %x", size, n, got)
			}
			if got := Put(nil, size, n); len(got) != 0 {
				t.Errorf("Put(nil, %d, %x): %x", size, n, got)
			}
		}
		for _, size := range []int{8, 9, 10, 16, 20, 64, math.MaxInt32, math.MaxInt} {
			if got := Put([]byte("ab"), size, n); !bytes.Equal(got, whole) {
				t.Errorf("Put(ab, %d, %x): %x, not %x", size, n, got, whole)
			}
		}
	}
}

func TestPutAnswersANewRow(t *testing.T) {
	for size := -1; size <= 9; size++ {
		memory := []byte("abcdefghijklmnopqrstuvwxyz")
		was := slices.Clone(memory)
		// b has room behind it, in which somebody else's bytes stand.
		got := Put(memory[2:5], size, math.MaxUint64)
		if !bytes.Equal(memory, was) {
			t.Fatalf("size %d: the memory of b became %q", size, memory)
		}
		for i := range got[:cap(got)] {
			got[:cap(got)][i] = '-'
		}
		if !bytes.Equal(memory, was) {
			t.Errorf("size %d: the answer shares memory with b: %q", size, memory)
		}
		got = Put(memory[2:5], size, 0)
		want := slices.Clone(got)
		for i := range memory {
			memory[i] = '+'
		}
		if !bytes.Equal(got, want) {
			t.Errorf("size %d: the answer hangs on b: %q, not %q", size, got, want)
		}
	}
}

func TestTwoPutsBehindOneRowShareNothing(t *testing.T) {
	b := Put(nil, 8, 0x0102030405060708)
	one, two := Put(b, 2, 0xaaaa), Put(b, 2, 0xbbbb)
	if string(one) != string(b)+"\xaa\xaa" || string(two) != string(b)+"\xbb\xbb" {
		t.Errorf("%x, %x", one, two)
	}
	same := Put(b, 0, 1)
	same[0] = 0xff
	if b[0] != 1 {
		t.Error("a Put of no byte shares the memory of b")
	}
}

func TestWhatWasPutIsRead(t *testing.T) {
	for _, n := range numbers() {
		for size := 1; size <= 8; size++ {
			for _, ahead := range []string{"", "\x00", "\xff", "zone\x00\xff\x80"} {
				for _, behind := range []string{"", "\x00", "\xff", "\x01\xfe\x7f"} {
					b := append(Put([]byte(ahead), size, n), behind...)
					was := slices.Clone(b)
					want := cut(n, size)
					if got, ok := Uint(b, len(ahead), size); !ok || got != want.Uint64() {
						t.Errorf("Uint(%x, %d, %d): %d, %v, not %v", b, len(ahead), size, got, ok, want)
					}
					if got, ok := Int(b, len(ahead), size); !ok || got != signed(want, size).Int64() {
						t.Errorf("Int(%x, %d, %d): %d, %v, not %v", b, len(ahead), size, got, ok, signed(want, size))
					}
					if !bytes.Equal(b, was) {
						t.Fatalf("reading changed %x to %x", was, b)
					}
				}
			}
		}
	}
}

func TestUintAndIntOfEachSize(t *testing.T) {
	b := []byte("\x01\x02\x03\x04\x05\x06\x07\x08\x09")
	for size, want := range []uint64{0, 2, 0x0203, 0x020304, 0x02030405, 0x0203040506, 0x020304050607, 0x02030405060708, 0x0203040506070809} {
		if size == 0 {
			continue
		}
		if got, ok := Uint(b, 1, size); !ok || got != want {
			t.Errorf("Uint of %d bytes: %x, %v, not %x", size, got, ok, want)
		}
		if got, ok := Int(b, 1, size); !ok || got != int64(want) {
			t.Errorf("Int of %d bytes: %x, %v, not %x", size, got, ok, want)
		}
	}
}

func TestIntHasASign(t *testing.T) {
	for size := 1; size <= 8; size++ {
		rest := size - 1
		for _, row := range []struct {
			b    string
			want int64
		}{
			{"\x80" + strings.Repeat("\x00", rest), -1 << (8*size - 1)},
			{"\xff" + strings.Repeat("\xff", rest), -1},
			{"\x7f" + strings.Repeat("\xff", rest), 1<<(8*size-1) - 1},
			{strings.Repeat("\x00", size), 0},
			{strings.Repeat("\x00", rest) + "\x01", 1},
			{strings.Repeat("\xff", rest) + "\xfe", -2},
		} {
			if got, ok := Int([]byte(row.b), 0, size); !ok || got != row.want {
				t.Errorf("Int of %x: %d, %v, not %d", row.b, got, ok, row.want)
			}
		}
	}
	if got, ok := Int([]byte("\x80\x00\x00\x00\x00\x00\x00\x01"), 0, 8); !ok || got != math.MinInt64+1 {
		t.Error(got, ok)
	}
	// A lower byte's highest bit is not a sign.
	if got, ok := Int([]byte("\x00\x80"), 0, 2); !ok || got != 128 {
		t.Error(got, ok)
	}
	if got, ok := Uint([]byte("\xff\xfe"), 0, 2); !ok || got != 65534 {
		t.Error(got, ok)
	}
}

func TestTheLastBytesAndOneTooFew(t *testing.T) {
	for length := 0; length <= 10; length++ {
		// Room behind b's end is no part of b.
		memory := bytes.Repeat([]byte{0xff}, 32)
		b := memory[:length]
		for size := -1; size <= 10; size++ {
			for at := -2; at <= length+2; at++ {
				there := size >= 1 && size <= 8 && at >= 0 && at+size <= length
				var u uint64
				var n int64
				if there {
					u, n = cut(math.MaxUint64, size).Uint64(), -1
				}
				if got, ok := Uint(b, at, size); got != u || ok != there {
					t.Errorf("Uint of %d bytes, %d, %d: %d, %v", length, at, size, got, ok)
				}
				if got, ok := Int(b, at, size); got != n || ok != there {
					t.Errorf("Int of %d bytes, %d, %d: %d, %v", length, at, size, got, ok)
				}
			}
		}
	}
}

func TestUintAndIntOfWrongInputs(t *testing.T) {
	far := []int{math.MinInt, math.MinInt + 1, math.MinInt32, -9, -8, -1, 9, 10, 16, math.MaxInt32, math.MaxInt - 8, math.MaxInt - 7, math.MaxInt - 1, math.MaxInt}
	for _, b := range [][]byte{nil, {}, {1}, []byte("\x01\x02\x03\x04\x05\x06\x07\x08\x09")} {
		for _, at := range far {
			for _, size := range append(far, 0, 1, 2, 4, 8) {
				refused(t, b, at, size)
			}
		}
		for _, size := range append(far, 0) {
			for at := 0; at <= len(b)+1; at++ {
				refused(t, b, at, size)
			}
		}
		for size := 1; size <= 8; size++ {
			refused(t, b, len(b), size)
			refused(t, b, len(b)+1, size)
		}
	}
}

func refused(t *testing.T, b []byte, at, size int) {
	t.Helper()
	if got, ok := Uint(b, at, size); got != 0 || ok {
		t.Errorf("Uint(%x, %d, %d): %d, %v", b, at, size, got, ok)
	}
	if got, ok := Int(b, at, size); got != 0 || ok {
		t.Errorf("Int(%x, %d, %d): %d, %v", b, at, size, got, ok)
	}
}

func TestName(t *testing.T) {
	for _, row := range []struct {
		b    string
		at   int
		want string
		ok   bool
	}{
		{"LMT\x00CET\x00CEST\x00", 0, "LMT", true},
		{"LMT\x00CET\x00CEST\x00", 1, "MT", true},
		{"LMT\x00CET\x00CEST\x00", 3, "", true},
		{"LMT\x00CET\x00CEST\x00", 4, "CET", true},
		{"LMT\x00CET\x00CEST\x00", 8, "CEST", true},
		{"LMT\x00CET\x00CEST\x00", 9, "EST", true},
		{"LMT\x00CET\x00CEST\x00", 11, "T", true},
		{"LMT\x00CET\x00CEST\x00", 12, "", true},
		{"LMT\x00CET\x00CEST\x00", 13, "", false},
		{"LMT\x00CET\x00CEST\x00", 14, "", false},
		{"\x00", 0, "", true},
		{"\x00\x00", 0, "", true},
		{"\x00\x00", 1, "", true},
		{"\x00\x00a\x00", 2, "a", true},
		{"\xff\x80\x01\x00", 0, "\xff\x80\x01", true},
		{"a\xc3\xa4\x00b", 0, "a\xc3\xa4", true},
		{"a\xc3\xa4\x00b", 2, "\xa4", true},
		{"ab\x00c", 3, "", false},
		{"ab\x00c", 4, "", false},
		{"abc", 0, "", false},
		{"abc", 2, "", false},
		{"abc", 3, "", false},
		{"a0b", 0, "", false},
	} {
		b := []byte(row.b)
		if got, ok := Name(b, row.at); got != row.want || ok != row.ok {
			t.Errorf("Name(%q, %d): %q, %v", row.b, row.at, got, ok)
		}
		if string(b) != row.b {
			t.Fatalf("Name changed %q to %q", row.b, b)
		}
	}
}

func TestNameOfWrongPlaces(t *testing.T) {
	for _, b := range [][]byte{nil, {}, {0}, []byte("ab\x00cd\x00")} {
		for _, at := range []int{math.MinInt, math.MinInt + 1, math.MinInt32, -2, -1, len(b), len(b) + 1, len(b) + 2, math.MaxInt32, math.MaxInt - 1, math.MaxInt} {
			if got, ok := Name(b, at); got != "" || ok {
				t.Errorf("Name(%q, %d): %q, %v", b, at, got, ok)
			}
		}
	}
	// A byte 0 in the room behind b's end is no part of b.
	memory := []byte("abc\x00")
	if got, ok := Name(memory[:3], 0); got != "" || ok {
		t.Errorf("%q, %v", got, ok)
	}
	if got, ok := Name(memory[:3], 3); got != "" || ok {
		t.Errorf("%q, %v", got, ok)
	}
}

func TestNameHangsNotOnItsBytes(t *testing.T) {
	b := []byte("CET\x00")
	name, _ := Name(b, 0)
	b[0] = 'E'
	if name != "CET" {
		t.Errorf("%q", name)
	}
}
