package parser

import (
	"slices"
	"strconv"

	"columbary/api"
	"columbary/lexer"
)

// writer has the tokens that a query is told by.
type writer struct {
	tokens []api.Token
}

func (w *writer) words(l ...string) {
	for _, s := range l {
		w.tokens = append(w.tokens, api.Token{Kind: api.Word, Text: s})
	}
}

func (w *writer) sign(s string) {
	w.tokens = append(w.tokens, api.Token{Kind: api.Sign, Text: s})
}

func (w *writer) number(n int) {
	w.tokens = append(w.tokens, api.Token{Kind: api.Number, Text: strconv.Itoa(n), Num: n})
}

// parts tells each of some parts, with a closure that tells what stands between.
func parts[T any](l []T, between func(), part func(x T)) {
	for i, x := range l {
		if i > 0 {
			between()
		}
		part(x)
	}
}

func (w *writer) comma() {
	w.sign(",")
}

func (w *writer) term(t api.Term) {
	switch t.Func {
	case api.Count:
		w.words("count")
	case api.Sum:
		w.words("sum", t.Metric)
	case api.Min:
		w.words("min", t.Metric)
	case api.Max:
		w.words("max", t.Metric)
	}
}

func (w *writer) having(h api.Having) {
	w.term(h.Term)
	switch {
	case h.Sign < 0:
		w.sign("<")
	case h.Sign > 0:
		w.sign(">")
	default:
		w.sign("=")
	}
	w.number(h.Value)
}

// kid tells a filter's kid: bare, where it is read as that.
func (w *writer) kid(parent api.FilterOp, f api.Filter) {
	bare := f.Op != api.Or && (f.Op != api.And || parent != api.And && parent != api.Not)
	if bare {
		w.filter(f)
		return
	}
	w.sign("(")
	w.filter(f)
	w.sign(")")
}

func (w *writer) filter(f api.Filter) {
	kid := func(x api.Filter) { w.kid(f.Op, x) }
	switch f.Op {
	case api.Is:
		w.words(f.Dim)
		w.sign("=")
		w.tokens = append(w.tokens, api.Token{Kind: api.Text, Text: f.Value})
	case api.IsNull:
		w.words(f.Dim, "is", "null")
	case api.Not:
		w.words("not")
		parts(f.Kids, func() {}, kid)
	case api.And:
		parts(f.Kids, func() { w.words("and") }, kid)
	case api.Or:
		parts(f.Kids, func() { w.words("or") }, kid)
	}
}

// tail tells what stands behind the filter.
func (w *writer) tail(q api.Query) {
	if len(q.Having) > 0 {
		w.words("having")
		parts(q.Having, func() { w.words("and") }, w.having)
	}
	if q.Order != 0 {
		w.words("order")
		w.number(max(q.Order, -q.Order))
	}
	if q.Order < 0 {
		w.words("desc")
	}
	if q.Limit != 0 {
		w.words("limit")
		w.number(q.Limit)
	}
}

// Text is a query's text.
func Text(q api.Query) string {
	w := &writer{}
	w.words("select")
	parts(q.Terms, w.comma, w.term)
	w.words("from")
	w.number(q.From)
	w.words("to")
	w.number(q.To)
	if q.Every != 0 {
		w.words("every")
		w.number(q.Every)
	}
	if len(q.By) > 0 {
		w.words("by")
		parts(q.By, w.comma, func(s string) { w.words(s) })
	}
	if q.Where.Op != api.All {
		w.words("where")
		w.filter(q.Where)
	}
	w.tail(q)
	return lexer.Text(w.tokens)
}

// Depth is a filter's.
func Depth(f api.Filter) int {
	most := 0
	for _, k := range f.Kids {
		most = max(most, Depth(k))
	}
	return 1 + most
}

func sameFilter(a, b api.Filter) bool {
	return a.Op == b.Op && a.Dim == b.Dim && a.Value == b.Value && slices.EqualFunc(a.Kids, b.Kids, sameFilter)
}

// Same tells whether two are alike.
func Same(a, b api.Query) bool {
	return slices.Equal(a.Terms, b.Terms) && a.From == b.From && a.To == b.To && a.Every == b.Every &&
		slices.Equal(a.By, b.By) && sameFilter(a.Where, b.Where) && slices.Equal(a.Having, b.Having) &&
		a.Order == b.Order && a.Limit == b.Limit
}
