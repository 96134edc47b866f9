package zone

import (
	"math"
	"strings"
	"testing"

	"longcase/api"
)

// rights are zones at the edges of what is right.
func rights(t *testing.T) map[string]api.Zone {
	t.Helper()
	good := parse(t, "EST5EDT,M3.2.0,M11.1.0")
	all := map[string]api.Zone{
		"one kind":               least(),
		"256 kinds":              {Kinds: make([]api.Kind, 256)},
		"5000 jumps":             {Kinds: threeKinds(), Jumps: following(5000)},
		"5000 leaps":             leaping(rising(5000)...),
		"the least Off":          {Kinds: []api.Kind{{Off: -1<<31 + 1}}},
		"the greatest Off":       {Kinds: []api.Kind{{Off: 1<<31 - 1}}},
		"a name of 255 bytes":    named(strings.Repeat("n", 255)),
		"names of 256 bytes":     named(strings.Repeat("n", 127), strings.Repeat("m", 127), strings.Repeat("n", 127)),
		"any bytes but 0":        named("\xff\x01\n", "\u00e4"),
		"jumps a second apart":   jumping(-1, 0, 1),
		"jumps at both ends":     jumping(math.MinInt64, math.MaxInt64),
		"a jump to the last one": {Kinds: make([]api.Kind, 256), Jumps: []api.Jump{{Kind: 255}}},
		"a leap at 0":            leaping(api.Leap{At: 0, Corr: 1}),
		"a leap at the end":      leaping(api.Leap{At: math.MaxInt64, Corr: -1}),
		"leaps up and down":      leaping(api.Leap{At: 0, Corr: -1}, api.Leap{At: 1, Corr: 0}, api.Leap{At: 2, Corr: 1}, api.Leap{At: 3, Corr: 0}),
		"the last Corr the same": leaping(idle()...),
		"two of the same Corr":   leaping(api.Leap{At: 5, Corr: 1}, api.Leap{At: 6, Corr: 1}),
		"a rule of one kind":     ruledBy(t, least(), "UTC0"),
		"a rule of two":          ruledBy(t, jumping(0), "EST5EDT,M3.2.0,M11.1.0"),
		"a rule of far offsets":  ruledBy(t, least(), "AAA24:59:59BBB-24:59:59,0,0"),
		"a late Start":           ruledBy(t, least(), "AAA0BBB,0/167:59:59,0"),
		"an early End":           ruledBy(t, least(), "AAA0BBB,0,0/-167:59:59"),
	}
	for _, text := range wideTexts() {
		all[text] = ruledBy(t, jumping(5), text)
	}
	// A kind by a rule need not be one of the zone's.
	all["no kind of the rule's"] = api.Zone{Kinds: []api.Kind{{Off: -1<<31 + 1}}, Rule: good, Ruled: true}
	return all
}

// wrongs are not right, each by one cause, which stands beside it.
func wrongs(t *testing.T) map[string]api.Zone {
	t.Helper()
	all := map[string]api.Zone{}
	for why, z := range wrongKinds() {
		all[why] = z
	}
	for why, z := range wrongMoments() {
		all[why] = z
	}
	for why, z := range wrongRules(t) {
		all[why] = z
	}
	for why, z := range wrongUnruled(t) {
		all[why] = z
	}
	return all
}

func wrongKinds() map[string]api.Zone {
	return map[string]api.Zone{
		"zero":                          {},
		"no kind, and an empty list":    {Kinds: []api.Kind{}},
		"no kind, and a leap":           {Leaps: rising(1)},
		"257 kinds":                     {Kinds: make([]api.Kind, 257)},
		"an Off of -2^31":               {Kinds: []api.Kind{{Off: -1 << 31}}},
		"an Off of 2^31":                {Kinds: []api.Kind{{Off: 1 << 31}}},
		"a later Off of -2^31":          {Kinds: []api.Kind{{}, {Off: -1 << 31}}},
		"the least int as Off":          {Kinds: []api.Kind{{Off: math.MinInt}}},
		"the greatest int as Off":       {Kinds: []api.Kind{{Off: math.MaxInt}}},
		"a name with a byte 0 behind":   named("a\x00"),
		"a name of a byte 0":            named("\x00"),
		"a later name with a byte 0":    named("a", "b\x00c"),
		"a name of 256 bytes":           named(strings.Repeat("n", 256)),
		"names of 257 bytes":            named(strings.Repeat("n", 127), strings.Repeat("m", 128)),
		"names of 257 bytes, one empty": named(strings.Repeat("n", 255), ""),
	}
}

func wrongMoments() map[string]api.Zone {
	return map[string]api.Zone{
		"5001 jumps":                    {Kinds: threeKinds(), Jumps: following(5001)},
		"two jumps at one moment":       jumping(5, 5),
		"two later jumps at one moment": jumping(4, 5, 5),
		"jumps that fall":               jumping(5, 4),
		"jumps that fall from the end":  jumping(math.MaxInt64, math.MinInt64),
		"a jump to a kind below 0":      {Kinds: threeKinds(), Jumps: []api.Jump{{Kind: -1}}},
		"a jump to a kind there is not": {Kinds: threeKinds(), Jumps: []api.Jump{{Kind: 3}}},
		"a later one to none":           {Kinds: threeKinds(), Jumps: []api.Jump{{Kind: 2}, {At: 1, Kind: 3}}},
		"a jump to the kind 256":        {Kinds: make([]api.Kind, 256), Jumps: []api.Jump{{Kind: 256}}},
		"5001 leaps":                    leaping(rising(5001)...),
		"two leaps at one moment":       leaping(api.Leap{At: 5, Corr: 1}, api.Leap{At: 5, Corr: 2}),
		"leaps that fall":               leaping(api.Leap{At: 5, Corr: 1}, api.Leap{At: 4, Corr: 2}),
		"a leap below 0":                leaping(api.Leap{At: -1, Corr: 1}),
		"the first Corr 0":              leaping(api.Leap{At: 5, Corr: 0}),
		"the first Corr 2":              leaping(api.Leap{At: 5, Corr: 2}),
		"the first Corr -2":             leaping(api.Leap{At: 5, Corr: -2}),
		"a Corr 2 more":                 leaping(api.Leap{At: 5, Corr: 1}, api.Leap{At: 6, Corr: 3}),
		"a Corr 2 less":                 leaping(api.Leap{At: 5, Corr: 1}, api.Leap{At: 6, Corr: -1}),
		"the same Corr in the middle":   leaping(api.Leap{At: 5, Corr: 1}, api.Leap{At: 6, Corr: 1}, api.Leap{At: 7, Corr: 2}),
		"the greatest int as Corr":      leaping(api.Leap{At: 5, Corr: 1}, api.Leap{At: 6, Corr: math.MaxInt}),
		"a Corr that wraps to 2":        leaping(api.Leap{At: 5, Corr: 1}, api.Leap{At: 6, Corr: 1<<32 + 2}),
	}
}

// wrongRules are ruled by what is not right in the wide form.
func wrongRules(t *testing.T) map[string]api.Zone {
	t.Helper()
	all := map[string]api.Zone{"ruled by nothing": {Kinds: threeKinds(), Ruled: true}}
	two, one := parse(t, "EST5EDT,M3.2.0,M11.1.0"), parse(t, "EST5")
	put := func(why string, r api.Rule, spoil func(r *api.Rule)) {
		spoil(&r)
		all[why] = api.Zone{Kinds: threeKinds(), Rule: r, Ruled: true}
		all[why+", and jumps"] = api.Zone{Kinds: threeKinds(), Jumps: []api.Jump{{At: 1 << 40}}, Rule: r, Ruled: true}
	}
	put("Std is dst", two, func(r *api.Rule) { r.Std.Dst = true })
	put("Dst is none", two, func(r *api.Rule) { r.Dst.Dst = false })
	put("a short name of Std", two, func(r *api.Rule) { r.Std.Name = "ES" })
	put("a long name of Dst", two, func(r *api.Rule) { r.Dst.Name = strings.Repeat("E", 21) })
	put("a strange name of Dst", two, func(r *api.Rule) { r.Dst.Name = "E_T" })
	put("Std far behind", two, func(r *api.Rule) { r.Std.Off = -90000 })
	put("Dst far ahead", two, func(r *api.Rule) { r.Dst.Off = 90000 })
	put("no Start", two, func(r *api.Rule) { r.Start = api.Change{} })
	put("no End", two, func(r *api.Rule) { r.End = api.Change{} })
	put("a week 6", two, func(r *api.Rule) { r.End.Week = 6 })
	put("a month 13", two, func(r *api.Rule) { r.Start.N = 13 })
	put("a late Start", two, func(r *api.Rule) { r.Start.Time = 604800 })
	put("an early End", two, func(r *api.Rule) { r.End.Time = -604800 })
	put("Both is not set", two, func(r *api.Rule) { r.Both = false })
	put("one kind, which is dst", one, func(r *api.Rule) { r.Std.Dst = true })
	put("one kind far ahead", one, func(r *api.Rule) { r.Std.Off = 90000 })
	put("one kind, and a Start", one, func(r *api.Rule) { r.Start = two.Start })
	put("one kind, and Both", one, func(r *api.Rule) { r.Both = true })
	return all
}

// wrongUnruled are not ruled, and a single part of the rule is not zero.
func wrongUnruled(t *testing.T) map[string]api.Zone {
	t.Helper()
	all := map[string]api.Zone{}
	put := func(why string, r api.Rule) {
		all["not ruled, but "+why] = api.Zone{Kinds: threeKinds(), Rule: r}
		all["not ruled, with jumps, but "+why] = api.Zone{Kinds: threeKinds(), Jumps: []api.Jump{{At: 1 << 40}}, Rule: r}
	}
	put("Std.Off", api.Rule{Std: api.Kind{Off: 1}})
	put("Std.Dst", api.Rule{Std: api.Kind{Dst: true}})
	put("Std.Name", api.Rule{Std: api.Kind{Name: "E"}})
	put("Dst.Off", api.Rule{Dst: api.Kind{Off: -1}})
	put("Dst.Dst", api.Rule{Dst: api.Kind{Dst: true}})
	put("Dst.Name", api.Rule{Dst: api.Kind{Name: "\x00"}})
	put("Both", api.Rule{Both: true})
	for why, c := range map[string]api.Change{
		"How": {How: 1}, "N": {N: 1}, "Week": {Week: 1}, "Weekday": {Weekday: 1}, "Time": {Time: 1},
	} {
		put("Start."+why, api.Rule{Start: c})
		put("End."+why, api.Rule{End: c})
	}
	put("a rule of one kind", parse(t, "UTC0"))
	put("a rule of two", parse(t, "EST5EDT,M3.2.0,M11.1.0"))
	return all
}

func TestRight(t *testing.T) {
	for why, z := range rights(t) {
		was := cloneZone(z)
		if !Right(z) {
			t.Errorf("%s: not right: %s", why, brief(z))
		}
		if !same(z, was) {
			t.Fatalf("%s: the zone was changed", why)
		}
	}
	for _, text := range narrowTexts() {
		for _, z := range ordinary(t, text) {
			if !Right(z) {
				t.Errorf("not right: %s", brief(z))
			}
		}
	}
}

// TestWrong: what is not right is not written, and nothing is in force in it.
func TestWrong(t *testing.T) {
	for why, z := range wrongs(t) {
		was := cloneZone(z)
		if Right(z) {
			t.Errorf("%s: right: %s", why, brief(z))
		}
		for version := 0; version <= 5; version++ {
			refused(t, why, z, version)
		}
		for _, at := range []int64{math.MinInt64, -1, 0, 1, 5, 1 << 41, math.MaxInt64} {
			noKind(t, why, z, at, api.ErrArg)
		}
		if !same(z, was) {
			t.Fatalf("%s: the zone was changed", why)
		}
	}
}
