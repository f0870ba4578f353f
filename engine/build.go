package engine

import (
	"errors"
	"slices"
	"strconv"

	"columbary/api"
	"columbary/cuboid"
	"columbary/manifest"
	"columbary/merge"
	"columbary/policy"
	"columbary/segment"
)

// failed is an error of a step.
type failed struct {
	step string
	err  error
}

// Error tells the step and its error.
func (f *failed) Error() string {
	return f.step + ": " + f.err.Error()
}

// Unwrap is the error without the step.
func (f *failed) Unwrap() error {
	return f.err
}

// wrap is a step's error, or nil.
func wrap(step string, e api.Errno) error {
	if e == api.OK {
		return nil
	}
	return &failed{step, e}
}

// number is that of a step's error.
func number(err error) api.Errno {
	var e api.Errno
	if errors.As(err, &e) {
		return e
	}
	return api.OK
}

// part is a file that is to be there.
type part struct {
	name  string
	bytes []byte
}

// drop deletes a file, if it is there.
func (e *Engine) drop(name string) error {
	if _, there := e.vault.Read(name); !there {
		return nil
	}
	return wrap("delete "+name, e.vault.Delete(name))
}

// write makes a file, that is safe.
func (e *Engine) write(p part) error {
	if err := wrap("append "+p.name, e.vault.Append(p.name, p.bytes)); err != nil {
		return err
	}
	return wrap("sync "+p.name, e.vault.Sync(p.name))
}

// put writes parts, and commits a manifest that names them.
func (e *Engine) put(m api.Manifest, parts []part) error {
	// A step that failed long ago may have left a file of a name that comes again.
	if err := e.drop(m.Journal); err != nil {
		return err
	}
	for _, p := range parts {
		if err := e.drop(p.name); err != nil {
			return err
		}
		if err := e.write(p); err != nil {
			return err
		}
	}
	return wrap("commit", manifest.Commit(e.vault, m))
}

// install puts parts and a manifest; what was made is deleted, if there is no room for all.
func (e *Engine) install(m api.Manifest, parts []part) error {
	err := e.put(m, parts)
	if errors.Is(err, api.ErrFull) {
		for _, p := range parts {
			e.drop(p.name) // the first error is told, whatever comes of this
		}
	}
	return err
}

// names are those of a manifest's files, and of its journal.
func names(m api.Manifest) []string {
	l := []string{m.Journal}
	for _, f := range m.Files {
		l = append(l, f.Name)
	}
	return l
}

// retire deletes files that the manifest does not name any more.
func (e *Engine) retire(l []string) error {
	named := names(e.m)
	stays := func(name string) bool { return slices.Contains(named, name) }
	for _, name := range slices.DeleteFunc(l, stays) {
		if err := e.drop(name); err != nil {
			return err
		}
	}
	return nil
}

// next is a name that no file had.
func next(m *api.Manifest, letter string) string {
	name := letter + strconv.Itoa(m.Next)
	m.Next++
	return name
}

// mend makes a journal of just the entries that were answered, if its file has others behind them.
func (e *Engine) mend() api.Errno {
	if !e.torn {
		return api.OK
	}
	m, old := ownManifest(e.m), names(e.m)
	m.Now, m.Spent = e.base.now, e.base.spent // the entries go on from these
	m.Journal = next(&m, "j")
	b, _ := e.vault.Read(e.m.Journal)
	if err := e.install(m, []part{{m.Journal, b[:min(e.good, len(b))]}}); err != nil {
		return number(err)
	}
	e.m.Journal, e.m.Next, e.torn = m.Journal, m.Next, false
	return number(e.retire(old))
}

// built is a cuboid's rows, one at least, as a segment.
type built struct {
	at      place
	segment *segment.Segment
}

// builder gathers what a store is built of.
type builder struct {
	engine *Engine
	l      []built
}

// add adds a cuboid's rows, if there are any.
func (b *builder) add(at place, l []api.Row) error {
	if len(l) == 0 {
		return nil
	}
	g, bad := segment.New(b.engine.schema(at), l)
	b.l = append(b.l, built{at, g})
	return wrap("build", bad)
}

// tier adds a tier's own rows, and what they are in its projections.
func (b *builder) tier(i int, l []api.Row) error {
	if err := b.add(place{i, own}, l); err != nil {
		return err
	}
	for k, p := range b.engine.m.Policy.Projs {
		if p.Tier != i {
			continue
		}
		projected, bad := cuboid.Project(b.engine.schema(place{i, own}), l, p.Dims, p.Gran)
		if bad != api.OK {
			return wrap("project", bad)
		}
		if err := b.add(place{i, k}, projected); err != nil {
			return err
		}
	}
	return nil
}

// build is what the store is built of, with edges.
func (e *Engine) build(edges []int) ([]built, error) {
	b := &builder{engine: e}
	tiers := e.m.Policy.Tiers
	came := e.memory.Rows()
	for i := range tiers {
		all, bad := merge.Lists([][]api.Row{e.files[place{i, own}].Rows(), came})
		if bad != api.OK {
			return nil, wrap("merge", bad)
		}
		below, stay := cuboid.Split(all, edges[i])
		if err := b.tier(i, stay); err != nil {
			return nil, err
		}
		if i+1 == len(tiers) {
			break
		}
		came, bad = cuboid.Project(e.schema(place{i, own}), below, tiers[i+1].Dims, tiers[i+1].Gran)
		if bad != api.OK {
			return nil, wrap("project", bad)
		}
	}
	return b.l, nil
}

// rebuild builds the store anew, with edges.
func (e *Engine) rebuild(edges []int) error {
	l, err := e.build(edges)
	if err != nil {
		return err
	}
	m, old := ownManifest(e.m), names(e.m)
	m.Edges, m.Files = edges, nil
	files := map[place]*segment.Segment{}
	var parts []part
	for _, x := range l {
		name := next(&m, "s")
		m.Files = append(m.Files, api.Stored{Name: name, Tier: x.at.tier, Proj: x.at.proj, Rows: x.segment.Len()})
		parts = append(parts, part{name, x.segment.Bytes()})
		files[x.at] = x.segment
	}
	m.Journal = next(&m, "j")
	if err := e.install(m, parts); err != nil {
		return err
	}
	// From here on the new manifest is what a crash leaves, whatever comes of the old files.
	e.begin(m, files)
	return e.retire(old)
}

// Merge builds it anew, with its edges.
func (e *Engine) Merge() api.Errno {
	if bad := e.ready(); bad != api.OK {
		return bad
	}
	return number(e.rebuild(slices.Clone(e.m.Edges)))
}

// Compact moves what is old enough to the next tiers.
func (e *Engine) Compact() api.Errno {
	if bad := e.ready(); bad != api.OK {
		return bad
	}
	edges, bad := policy.Edges(e.m.Policy, e.m.Now)
	if bad != api.OK {
		return bad
	}
	last := len(edges) - 1
	edges[last] = e.m.Edges[last]
	return number(e.rebuild(edges))
}

// Expire drops what is too old, too.
func (e *Engine) Expire() api.Errno {
	if bad := e.ready(); bad != api.OK {
		return bad
	}
	edges, bad := policy.Edges(e.m.Policy, e.m.Now)
	if bad != api.OK {
		return bad
	}
	return number(e.rebuild(edges))
}
