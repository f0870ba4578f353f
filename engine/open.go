package engine

import (
	"slices"

	"columbary/api"
	"columbary/journal"
	"columbary/manifest"
	"columbary/segment"
	"columbary/vault"
)

// Open is the one on a vault.
func Open(v *vault.Vault) (*Engine, api.Errno) {
	if v == nil {
		return nil, api.ErrArg
	}
	m, there, bad := manifest.Load(v)
	if bad != api.OK {
		return nil, bad
	}
	e := &Engine{vault: v}
	if there {
		if bad := e.load(m); bad != api.OK {
			return nil, bad
		}
	}
	if bad := e.sweep(); bad != api.OK {
		return nil, bad
	}
	if there {
		if bad := e.redo(); bad != api.OK {
			return nil, bad
		}
	}
	return e, api.OK
}

// load takes a manifest, and the files that it names.
func (e *Engine) load(m api.Manifest) api.Errno {
	e.begin(m, map[place]*segment.Segment{})
	for _, f := range m.Files {
		b, _ := e.vault.Read(f.Name)
		g, bad := segment.Parse(b)
		if bad != api.OK {
			return bad
		}
		at := place{f.Tier, f.Proj}
		says, has := e.schema(at), g.Schema()
		if g.Len() != f.Rows || !slices.Equal(says.Dims, has.Dims) || !slices.Equal(says.Metrics, has.Metrics) {
			return api.ErrSegment
		}
		e.files[at] = g
	}
	return api.OK
}

// sweep deletes what the manifest does not name.
func (e *Engine) sweep() api.Errno {
	var named []string
	if e.configured {
		named = append(names(e.m), "manifest")
	}
	for _, name := range e.vault.List() {
		if slices.Contains(named, name) {
			continue
		}
		if err := e.drop(name); err != nil {
			return number(err)
		}
	}
	return api.OK
}

// redo does the journal's entries anew.
func (e *Engine) redo() api.Errno {
	l, n := journal.Read(e.vault, e.m.Journal, e.m.Schema)
	for _, x := range l {
		if spent, bad := e.admit(x); bad == api.OK {
			e.do(x, spent)
		}
	}
	b, _ := e.vault.Read(e.m.Journal)
	e.good, e.torn = n, len(b) > n
	bad := e.mend()
	if bad == api.ErrFull {
		return api.OK // the next entry tries again
	}
	return bad
}
