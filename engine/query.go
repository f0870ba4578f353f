package engine

import (
	"columbary/api"
	"columbary/cuboid"
	"columbary/filter"
	"columbary/group"
	"columbary/parser"
	"columbary/runs"
	"columbary/selector"
	"columbary/typer"
)

// ask is the query of a text, if it is typed.
func (e *Engine) ask(text string) (api.Query, api.Errno) {
	if bad := e.ready(); bad != api.OK {
		return api.Query{}, bad
	}
	q, bad := parser.Parse(text)
	if bad != api.OK {
		return api.Query{}, bad
	}
	return q, typer.Check(e.m.Schema, q)
}

// choose are the cuboids that answer a query.
func (e *Engine) choose(q api.Query) ([]api.Plan, int, api.Errno) {
	return selector.Choose(e.m.Schema, e.m.Policy, e.m.Edges, q, e.m.Files)
}

// stored are the rows of a plan's file that a query takes.
func (e *Engine) stored(q api.Query, x api.Plan) []api.Row {
	g := e.files[place{x.Tier, x.Proj}]
	var l []api.Row
	for _, i := range runs.List(filter.Rows(q.Where, g, g.Times(x.From, x.To))) {
		r, _ := g.Row(i)
		l = append(l, r)
	}
	return l
}

// part are a query's groups of a plan's stretch, as rows.
func (e *Engine) part(q api.Query, x api.Plan) ([]api.Row, api.Errno) {
	l, bad := group.Fold(e.schema(place{x.Tier, x.Proj}), q, e.stored(q, x))
	if bad != api.OK || x.Tier > 0 {
		return l, bad
	}
	came := cuboid.Within(e.memory.Rows(), x.From, x.To)
	more, bad := group.Fold(e.m.Schema, q, came)
	return append(l, more...), bad
}

// tell is what a query tells of plans' stretches.
func (e *Engine) tell(q api.Query, plans []api.Plan) ([]api.Group, api.Errno) {
	var l []api.Row
	for _, x := range plans {
		more, bad := e.part(q, x)
		if bad != api.OK {
			return nil, bad
		}
		l = append(l, more...)
	}
	return group.Finish(e.m.Schema, q, l)
}

// Query answers one.
func (e *Engine) Query(text string) ([]api.Group, api.Errno) {
	q, bad := e.ask(text)
	if bad != api.OK {
		return nil, bad
	}
	plans, _, bad := e.choose(q)
	if bad != api.OK {
		return nil, bad
	}
	return e.tell(q, plans)
}

// Plan is which cuboids answer.
func (e *Engine) Plan(text string) ([]api.Plan, int, api.Errno) {
	q, bad := e.ask(text)
	if bad != api.OK {
		return nil, 0, bad
	}
	return e.choose(q)
}

// fits tells whether a plan may answer for a stretch.
func (e *Engine) fits(q api.Query, stretch, x api.Plan) bool {
	_, there := e.files[place{x.Tier, x.Proj}]
	return x.Tier == stretch.Tier && x.From == stretch.From && x.To == stretch.To &&
		(x.Proj == own || there) && selector.Eligible(e.m.Schema, e.m.Policy, q, x)
}

// Answer answers by these.
func (e *Engine) Answer(text string, l []api.Plan) ([]api.Group, api.Errno) {
	q, bad := e.ask(text)
	if bad != api.OK {
		return nil, bad
	}
	stretches := selector.Stretches(e.m.Policy, e.m.Edges, q)
	if len(l) != len(stretches) {
		return nil, api.ErrAnswer
	}
	for i, x := range l {
		if !e.fits(q, stretches[i], x) {
			return nil, api.ErrAnswer
		}
	}
	return e.tell(q, l)
}
