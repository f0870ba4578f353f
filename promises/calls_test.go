package promises_test

import (
	"reflect"

	"columbary/agg"
	"columbary/bitmap"
	"columbary/bucket"
	"columbary/check"
	"columbary/cuboid"
	"columbary/delta"
	"columbary/desk"
	"columbary/dict"
	"columbary/dimcol"
	"columbary/engine"
	"columbary/filter"
	"columbary/group"
	"columbary/ingest"
	"columbary/journal"
	"columbary/lexer"
	"columbary/manifest"
	"columbary/merge"
	"columbary/nibble"
	"columbary/parser"
	"columbary/policy"
	"columbary/rows"
	"columbary/runs"
	"columbary/schema"
	"columbary/segment"
	"columbary/selector"
	"columbary/typer"
	"columbary/vault"
	"columbary/zig"
)

// functions are the calls that the chapters list, without those of objects.
func functions() []any {
	return []any{
		zig.Fold, zig.Unfold, zig.Int, zig.Text, zig.Open, check.Sum, check.Block, check.First, check.Blocks, vault.New,
		runs.Right, runs.Of, runs.List, runs.Has, runs.Count, runs.Rank, runs.Select, runs.And, runs.Or, runs.Minus, runs.Upto,
		bitmap.Of, bitmap.Parse, dict.New, dict.Parse, nibble.Width, nibble.Size, nibble.Pack, nibble.Unpack, nibble.At,
		delta.Encode, delta.Decode, delta.Sorted, dimcol.New, dimcol.Parse,
		schema.Name, schema.Value, schema.Right, schema.Dim, schema.Metric, schema.Check, schema.Subset,
		bucket.Right, bucket.Floor, bucket.Ceil, bucket.Aligned, bucket.Coarser, bucket.Cut, agg.Right, agg.One, agg.Join, agg.All, agg.Size,
		rows.Right, rows.Of, rows.Compare, rows.Join, rows.Fold, rows.Sorted, rows.Same, rows.Copy,
		cuboid.Schema, cuboid.Project, cuboid.Within, cuboid.Split, merge.Lists, merge.Stats, segment.New, segment.Parse, segment.Fault,
		policy.Check, policy.Text, policy.Parse, policy.Edge, policy.Edges, policy.Same, ingest.Charge, ingest.New,
		journal.Encode, journal.Decode, journal.Append, journal.Read, journal.Same,
		manifest.Right, manifest.Encode, manifest.Decode, manifest.Commit, manifest.Load, manifest.Same,
		lexer.Tokens, lexer.Text, lexer.Right, parser.Parse, parser.Text, parser.Depth, parser.Same, typer.Check, typer.Used, typer.Bucket,
		filter.Takes, filter.Rows, filter.Plain, filter.Count, group.Run, group.Fold, group.Finish, group.Same,
		selector.Stretches, selector.Eligible, selector.Choose, engine.Open, desk.New,
	}
}

// objects are a nil one of each kind that has calls.
func objects() []any {
	return []any{
		(*zig.Reader)(nil), (*vault.Vault)(nil), (*bitmap.Bitmap)(nil), (*dict.Dict)(nil), (*dimcol.Column)(nil),
		(*segment.Segment)(nil), (*ingest.Index)(nil), (*engine.Engine)(nil), (*desk.Desk)(nil),
	}
}

// calls are all, those of objects with the object as the first argument.
func calls() []reflect.Value {
	var l []reflect.Value
	for _, f := range functions() {
		l = append(l, reflect.ValueOf(f))
	}
	for _, o := range objects() {
		t := reflect.TypeOf(o)
		for i := range t.NumMethod() {
			l = append(l, t.Method(i).Func)
		}
	}
	return l
}
