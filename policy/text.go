package policy

import (
	"slices"
	"strconv"
	"strings"

	"columbary/api"
	"columbary/schema"
)

const maxLines = 20

// line is a line of a policy's text.
func line(word string, n, gran int, dims []string) string {
	names := "-"
	if len(dims) > 0 {
		names = strings.Join(dims, ",")
	}
	return word + " " + strconv.Itoa(n) + " " + strconv.Itoa(gran) + " " + names + "\n"
}

// Text is its text.
func Text(p api.Policy) string {
	s := ""
	for _, t := range p.Tiers {
		s += line("tier", t.Age, t.Gran, t.Dims)
	}
	for _, x := range p.Projs {
		s += line("proj", x.Tier, x.Gran, x.Dims)
	}
	return s + "horizon " + strconv.Itoa(p.Horizon)
}

// draft is a policy of which some lines are read; each of its calls takes a line's words behind the first one.
type draft struct {
	policy api.Policy
}

// number is that of some figures.
func number(s string) (int, bool) {
	n, err := strconv.Atoi(s)
	return n, err == nil && n >= 0 && n <= api.MaxTime
}

// cuboid takes two numbers and a list of names.
func cuboid(words []string) (int, int, []string, bool) {
	if len(words) != 3 {
		return 0, 0, nil, false
	}
	n, ok := number(words[0])
	gran, right := number(words[1])
	if words[2] == "-" {
		return n, gran, nil, ok && right
	}
	noName := func(s string) bool { return !schema.Name(s) }
	dims := strings.Split(words[2], ",")
	return n, gran, dims, ok && right && !slices.ContainsFunc(dims, noName)
}

func (d *draft) tier(words []string) bool {
	age, gran, dims, ok := cuboid(words)
	d.policy.Tiers = append(d.policy.Tiers, api.Tier{Age: age, Gran: gran, Dims: dims})
	return ok
}

func (d *draft) proj(words []string) bool {
	tier, gran, dims, ok := cuboid(words)
	d.policy.Projs = append(d.policy.Projs, api.Proj{Tier: tier, Gran: gran, Dims: dims})
	return ok
}

func (d *draft) horizon(words []string) bool {
	if len(words) != 1 {
		return false
	}
	n, ok := number(words[0])
	d.policy.Horizon = n
	return ok
}

// Parse is the one of a text.
func Parse(text string) (api.Policy, api.Errno) {
	takes := map[string]func(d *draft, words []string) bool{
		"tier":    (*draft).tier,
		"proj":    (*draft).proj,
		"horizon": (*draft).horizon,
	}
	lines := strings.Split(text, "\n")
	if len(lines) > maxLines {
		return api.Policy{}, api.ErrText
	}
	d := &draft{}
	for _, s := range lines {
		words := strings.Split(s, " ")
		take, found := takes[words[0]]
		if !found || !take(d, words[1:]) {
			return api.Policy{}, api.ErrText
		}
	}
	// Lines in another order, a second horizon, or numbers written otherwise, make another text.
	if Text(d.policy) != text {
		return api.Policy{}, api.ErrText
	}
	return d.policy, api.OK
}
