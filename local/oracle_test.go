package local

import (
	"fmt"
	"math/big"
	"math/rand"
	"slices"
	"testing"
	"time"

	"longcase/api"
	"longcase/posix"
	"longcase/rule"
	"longcase/zone"
)

// What the calls must tell, by the document's words, and the zones that they are asked of.

// The first and the last second that have a civil time.
const (
	firstSecond = -784353015833 * 86400
	lastSecond  = 784351576777*86400 - 1
)

// parse reads a rule in the wide form, of a text that there must be.
func parse(t *testing.T, text string) api.Rule {
	t.Helper()
	r, err := posix.Parse(text, true)
	if err != api.OK {
		t.Fatal(text, err)
	}
	return r
}

// ruledBy is the zone with the rule of a text.
func ruledBy(t *testing.T, z api.Zone, text string) api.Zone {
	t.Helper()
	z.Rule, z.Ruled = parse(t, text), true
	return z
}

// ahead is a zone of kinds without names, without jumps, so that it stays with the first one.
func ahead(offs ...int) api.Zone {
	var z api.Zone
	for _, off := range offs {
		z.Kinds = append(z.Kinds, api.Kind{Off: off})
	}
	return z
}

// berlin has the jumps of the year 2007 alone.
func berlin() api.Zone {
	return api.Zone{
		Kinds: []api.Kind{{Off: 3600, Name: "CET"}, {Off: 7200, Dst: true, Name: "CEST"}},
		Jumps: []api.Jump{{At: 1174784400, Kind: 1}, {At: 1193533200}},
	}
}

// wrongs are zones that are not right, each for another cause.
func wrongs(t *testing.T) map[string]api.Zone {
	t.Helper()
	unruled := ahead(0)
	unruled.Rule = parse(t, "AAA5")
	narrow := ruledBy(t, ahead(0), "AAA5")
	narrow.Rule.Std.Name = "AA"
	late := ruledBy(t, ahead(0), "AAA5BBB,0,1")
	late.Rule.End.Time = 604800
	return map[string]api.Zone{
		"nothing":              {},
		"no kinds":             {Jumps: []api.Jump{{}}},
		"a jump to no kind":    {Kinds: ahead(0).Kinds, Jumps: []api.Jump{{Kind: 1}}},
		"jumps that fall":      {Kinds: ahead(0).Kinds, Jumps: []api.Jump{{At: 5}, {At: 4}}},
		"an offset too great":  ahead(5, api.MaxOff+1),
		"an offset too low":    ahead(5, -api.MaxOff-1),
		"a name with a byte 0": {Kinds: []api.Kind{{Name: "A\x00"}}},
		"a leap of nothing":    {Kinds: ahead(0).Kinds, Leaps: []api.Leap{{At: 5}}},
		"a rule unruled":       unruled,
		"a rule's name":        narrow,
		"a rule's time":        late,
		"no rule, but ruled":   {Kinds: ahead(0).Kinds, Ruled: true},
	}
}

func cloneZone(z api.Zone) api.Zone {
	z.Kinds, z.Jumps, z.Leaps = slices.Clone(z.Kinds), slices.Clone(z.Jumps), slices.Clone(z.Leaps)
	return z
}

func same(y, z api.Zone) bool {
	return slices.Equal(y.Kinds, z.Kinds) && slices.Equal(y.Jumps, z.Jumps) && slices.Equal(y.Leaps, z.Leaps) && y.Rule == z.Rule && y.Ruled == z.Ruled
}

// brief tells a zone without flooding the page.
func brief(z api.Zone) string {
	return fmt.Sprintf("%.300q", fmt.Sprint(z))
}

// inForce goes through the jumps one by one.
func inForce(z api.Zone, t int64) (api.Kind, api.Errno) {
	if !zone.Right(z) {
		return api.Kind{}, api.ErrArg
	}
	kind, behind := z.Kinds[0], true
	for _, jump := range z.Jumps {
		behind = jump.At <= t
		if behind {
			kind = z.Kinds[jump.Kind]
		}
	}
	if behind && z.Ruled {
		return rule.At(z.Rule, t)
	}
	return kind, api.OK
}

// expect adds without bounds, and asks the library's calendar.
func expect(z api.Zone, t int64) (api.Civil, api.Kind, api.Errno) {
	kind, err := inForce(z, t)
	if err != api.OK {
		return api.Civil{}, api.Kind{}, err
	}
	sum := new(big.Int).Add(big.NewInt(t), big.NewInt(int64(kind.Off)))
	if sum.Cmp(big.NewInt(firstSecond)) < 0 || sum.Cmp(big.NewInt(lastSecond)) > 0 {
		return api.Civil{}, api.Kind{}, api.ErrRange
	}
	at := time.Unix(sum.Int64(), 0).UTC()
	return api.Civil{Year: at.Year(), Month: int(at.Month()), Day: at.Day(), Hour: at.Hour(), Min: at.Minute(), Sec: at.Second()}, kind, api.OK
}

// expectOffsets looks each offset up among those that it has already.
func expectOffsets(z api.Zone) []int {
	if !zone.Right(z) {
		return nil
	}
	kinds := slices.Clone(z.Kinds)
	if z.Ruled {
		kinds = append(kinds, z.Rule.Std)
	}
	if z.Rule.Both {
		kinds = append(kinds, z.Rule.Dst)
	}
	var all []int
	for _, kind := range kinds {
		if !slices.Contains(all, kind.Off) {
			all = append(all, kind.Off)
		}
	}
	slices.Sort(all)
	return all
}

// anyZone is a zone in which all is by chance, with moments near each other and near 0, so that edges are met.
func anyZone(t *testing.T, random *rand.Rand) api.Zone {
	t.Helper()
	var z api.Zone
	for range 1 + random.Intn(5) {
		off := random.Intn(200) - 100
		if random.Intn(2) == 0 {
			off = random.Intn(2*api.MaxOff) - api.MaxOff
		}
		z.Kinds = append(z.Kinds, api.Kind{Off: off, Dst: random.Intn(2) == 0, Name: []string{"", "LMT", "CET"}[random.Intn(3)]})
	}
	at := int64(random.Intn(40) - 40)
	for range random.Intn(7) {
		at += 1 + int64(random.Intn(9))
		z.Jumps = append(z.Jumps, api.Jump{At: at, Kind: random.Intn(len(z.Kinds))})
	}
	if random.Intn(2) == 0 {
		return z
	}
	texts := []string{"UTC0", "AAA5", "EST5EDT,M3.2.0,M11.1.0", "AAA-10BBB,M10.1.0,M4.1.0/3", "AAA0BBB,0/0,0/2", "AAA0BBB0,J1/-1,365/25", "<-02>2<-01>,M3.5.0/-1,M10.5.0/0"}
	return ruledBy(t, z, texts[random.Intn(len(texts))])
}
