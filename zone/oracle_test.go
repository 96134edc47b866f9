package zone

import (
	"encoding/binary"
	"fmt"
	"math/rand"
	"slices"
	"strings"
	"testing"

	"longcase/api"
	"longcase/posix"
	"longcase/rule"
)

// What the calls must tell, by the document's words, and the zones that they are asked of.

// parse reads a rule in the wide form, of a text that there must be.
func parse(t *testing.T, text string) api.Rule {
	t.Helper()
	r, err := posix.Parse(text, true)
	if err != api.OK {
		t.Fatal(text, err)
	}
	return r
}

// ruledBy is the zone with the rule of a text.
func ruledBy(t *testing.T, z api.Zone, text string) api.Zone {
	t.Helper()
	z.Rule, z.Ruled = parse(t, text), true
	return z
}

func least() api.Zone {
	return api.Zone{Kinds: []api.Kind{{}}}
}

func threeKinds() []api.Kind {
	return []api.Kind{{Off: 3208, Name: "LMT"}, {Off: 3600, Name: "CET"}, {Off: 7200, Dst: true, Name: "CEST"}}
}

// jumping is a zone of three kinds, with a jump at each moment: to the last kind, to the one ahead of it, and so on.
func jumping(moments ...int64) api.Zone {
	z := api.Zone{Kinds: threeKinds()}
	for i, at := range moments {
		z.Jumps = append(z.Jumps, api.Jump{At: at, Kind: 2 - i%3})
	}
	return z
}

func leaping(all ...api.Leap) api.Zone {
	return api.Zone{Kinds: threeKinds(), Leaps: all}
}

// rising is so many leap seconds, each of which adds one.
func rising(count int) []api.Leap {
	var all []api.Leap
	for i := range count {
		all = append(all, api.Leap{At: int64(i) * 1000, Corr: i + 1})
	}
	return all
}

// following is so many jumps to the kind 0.
func following(count int) []api.Jump {
	var all []api.Jump
	for i := range count {
		all = append(all, api.Jump{At: int64(i)*1000 - 70000})
	}
	return all
}

func named(names ...string) api.Zone {
	var z api.Zone
	for i, name := range names {
		z.Kinds = append(z.Kinds, api.Kind{Off: i, Name: name})
	}
	return z
}

// narrowTexts are rules that are right in either form, and the text of none.
func narrowTexts() []string {
	return []string{"", "UTC0", "<+0330>-3:30", "EST5EDT,M3.2.0,M11.1.0", "AAA-10BBB-10:30:15,J60/0,300/24:59:59"}
}

// ordinary are zones with jumps and without, with leap seconds and without, with the rule of a text, or without, if there is none.
func ordinary(t *testing.T, text string) []api.Zone {
	t.Helper()
	leaps := []api.Leap{{At: 78796800, Corr: 1}, {At: 94694401, Corr: 2}, {At: 126230402, Corr: 1}}
	var all []api.Zone
	for _, z := range []api.Zone{least(), {Kinds: threeKinds()}, jumping(0), jumping(-1<<40, -5, 1194156000, 1<<40)} {
		if text != "" {
			z = ruledBy(t, z, text)
		}
		for _, l := range [][]api.Leap{nil, leaps[:1], leaps} {
			z.Leaps = l
			all = append(all, z)
		}
	}
	return all
}

// wideTexts are rules that are right in the wide form alone.
func wideTexts() []string {
	return []string{
		"AAA0BBB,0/-0:00:01,0", "AAA0BBB,0,0/-1", "AAA0BBB,0/25,0", "AAA0BBB,0,J365/167:59:59",
		"<-02>2<-01>,M3.5.0/-1,M10.5.0/0", "EST5EDT,M3.2.0/-167:59:59,M11.1.0/167:59:59",
	}
}

// idle ends in two leap seconds of the same Corr, which is right from version 4 on alone.
func idle() []api.Leap {
	return []api.Leap{{At: 5, Corr: 1}, {At: 6, Corr: 2}, {At: 7, Corr: 2}}
}

func cloneZone(z api.Zone) api.Zone {
	z.Kinds, z.Jumps, z.Leaps = slices.Clone(z.Kinds), slices.Clone(z.Jumps), slices.Clone(z.Leaps)
	return z
}

func same(y, z api.Zone) bool {
	return slices.Equal(y.Kinds, z.Kinds) && slices.Equal(y.Jumps, z.Jumps) && slices.Equal(y.Leaps, z.Leaps) && y.Rule == z.Rule && y.Ruled == z.Ruled
}

// empty asks for nothing at all.
func empty(z api.Zone) bool {
	return same(z, api.Zone{})
}

// brief tells a zone without flooding the page.
func brief(z api.Zone) string {
	return fmt.Sprintf("%.300q", fmt.Sprint(z))
}

// expectAt goes through the jumps one by one.
func expectAt(z api.Zone, t int64) (api.Kind, api.Errno) {
	n := len(z.Jumps)
	if n > 0 && t < z.Jumps[0].At {
		return z.Kinds[0], api.OK
	}
	if n > 0 && t < z.Jumps[n-1].At {
		in := 0
		for i, jump := range z.Jumps {
			if jump.At <= t {
				in = i
			}
		}
		return z.Kinds[z.Jumps[in].Kind], api.OK
	}
	if z.Ruled {
		return rule.At(z.Rule, t)
	}
	if n > 0 {
		return z.Kinds[z.Jumps[n-1].Kind], api.OK
	}
	return z.Kinds[0], api.OK
}

// fileOf is how a file's bytes must be, laid out without the program's own calls; of version 1 it has moments of 4 bytes, and no footer.
func fileOf(version int, z api.Zone, footer string, std, ut []bool) []byte {
	if version == 1 {
		return part(version, 4, z, std, ut)
	}
	short := part(version, 4, least(), nil, nil)
	return slices.Concat(short, part(version, 8, z, std, ut), []byte("\n"+footer+"\n"))
}

func part(version, size int, z api.Zone, std, ut []bool) []byte {
	names, places := laid(z.Kinds)
	b := []byte("TZif")
	if version == 1 {
		b = append(b, 0)
	} else {
		b = append(b, byte('0'+version))
	}
	b = append(b, make([]byte, 15)...)
	for _, n := range []int{len(ut), len(std), len(z.Leaps), len(z.Jumps), len(z.Kinds), len(names)} {
		b = binary.BigEndian.AppendUint32(b, uint32(n))
	}
	for _, jump := range z.Jumps {
		b = moment(b, size, jump.At)
	}
	for _, jump := range z.Jumps {
		b = append(b, byte(jump.Kind))
	}
	for i, kind := range z.Kinds {
		b = binary.BigEndian.AppendUint32(b, uint32(kind.Off))
		b = append(b, octet(kind.Dst), byte(places[i]))
	}
	b = append(b, names...)
	for _, leap := range z.Leaps {
		b = moment(b, size, leap.At)
		b = binary.BigEndian.AppendUint32(b, uint32(leap.Corr))
	}
	for _, mark := range slices.Concat(std, ut) {
		b = append(b, octet(mark))
	}
	return b
}

// laid looks a name up among those that stand there whole, each behind a byte 0 or at the beginning.
func laid(kinds []api.Kind) (string, []int) {
	names := "\x00"
	var places []int
	for _, kind := range kinds {
		if !strings.Contains(names, "\x00"+kind.Name+"\x00") {
			names += kind.Name + "\x00"
		}
		// The byte 0 at the very beginning is none of the names'.
		places = append(places, strings.Index(names, "\x00"+kind.Name+"\x00"))
	}
	return names[1:], places
}

func moment(b []byte, size int, at int64) []byte {
	if size == 4 {
		return binary.BigEndian.AppendUint32(b, uint32(at))
	}
	return binary.BigEndian.AppendUint64(b, uint64(at))
}

func octet(mark bool) byte {
	if mark {
		return 1
	}
	return 0
}

// anyZone is a right zone in which all is by chance, with moments near each other and near 0, so that edges are met.
func anyZone(t *testing.T, random *rand.Rand) api.Zone {
	t.Helper()
	var z api.Zone
	for range 1 + random.Intn(5) {
		name := []string{"", "LMT", "CET", "CEST", "\xff"}[random.Intn(5)]
		z.Kinds = append(z.Kinds, api.Kind{Off: random.Intn(200000) - 100000, Dst: random.Intn(2) == 0, Name: name})
	}
	at := int64(random.Intn(40) - 40)
	for range random.Intn(7) {
		at += 1 + int64(random.Intn(9))
		z.Jumps = append(z.Jumps, api.Jump{At: at, Kind: random.Intn(len(z.Kinds))})
	}
	z.Leaps = rising(random.Intn(4))
	if random.Intn(2) == 0 {
		return z
	}
	texts := append(wideTexts(), "UTC0", "EST5EDT,M3.2.0,M11.1.0", "AAA-10BBB,M10.1.0,M4.1.0/3", "AAA0BBB,0/0,0/2")
	return ruledBy(t, z, texts[random.Intn(len(texts))])
}
