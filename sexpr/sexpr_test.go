package sexpr

import (
	"reflect"
	"slices"
	"strings"
	"testing"

	"chcsolver/api"
)

func TestP21Parse(t *testing.T) {
	l, at, e := Parse("(f 1 2.50) ; x")
	want := []api.Item{{Kind: api.ItemList, Kids: 3}, {Kind: api.ItemSymbol, Text: "f", Pos: 1}, {Kind: api.ItemNumeral, Text: "1", Pos: 3}, {Kind: api.ItemDecimal, Text: "2.50", Pos: 5}}
	if e != api.OK || at != 0 || !reflect.DeepEqual(l, want) {
		t.Error(l, at, e)
	}
	l, _, e = Parse("\"a\"\"b\"\t;c\r\n\"\"x:=")
	if e != api.OK || len(l) != 3 || l[0].Text != "a\"b" || l[1].Text != "" || l[2].Text != "x:=" || l[2].Pos != 13 {
		t.Error(l, e)
	}
}

func TestP21Errors(t *testing.T) {
	deep := strings.Repeat("(", api.MaxDepth+1)
	for _, c := range []struct {
		src string
		at  int
		e   api.Errno
	}{
		{"(a", 2, api.ErrSyntax}, {"a 01", 2, api.ErrSyntax}, {"(a))", 3, api.ErrSyntax}, {"a #", 2, api.ErrSyntax}, {" 1a", 1, api.ErrSyntax}, {"1.", 0, api.ErrSyntax}, {"1.2.3", 0, api.ErrSyntax},
		{"x \"ab", 2, api.ErrSyntax}, {"\"a\nb\"", 0, api.ErrSyntax}, {"a\x00", 1, api.ErrSyntax}, {"\x80", 0, api.ErrSyntax},
		{strings.Repeat(" ", api.MaxText+1), 0, api.ErrLimit}, {strings.Repeat(" ", api.MaxText), 0, api.OK},
		{deep + "a", api.MaxDepth + 1, api.ErrLimit}, {deep + "01", api.MaxDepth + 1, api.ErrSyntax}, {deep + "(", api.MaxDepth + 1, api.ErrLimit}, {deep + strings.Repeat(")", api.MaxDepth+1), 0, api.OK}, {"; (", 0, api.OK},
	} {
		if l, at, e := Parse(c.src); at != c.at || e != c.e || e != api.OK && l != nil {
			t.Error(c.src, at, e)
		}
	}
}

func TestP22Format(t *testing.T) {
	l, _, _ := Parse("(a (b \"x\"\"y\") ()) 1 2.0")
	if s := Format(l); s != "(a (b \"x\"\"y\") ())\n1\n2.0\n" {
		t.Error(s)
	}
	for _, bad := range [][]api.Item{
		{{Kind: api.ItemList, Kids: 1}}, {{Kind: api.ItemSymbol, Text: "1"}}, {{Kind: api.ItemNumeral, Text: "01"}}, {{Kind: api.ItemString, Text: "\n"}}, {{Kind: 6}}, {{Kind: api.ItemList, Kids: -1}},
		{{Kind: api.ItemSymbol, Text: "a b"}}, {{Kind: api.ItemList, Text: "x"}}, {{Kind: api.ItemSymbol, Text: "a", Kids: 1}, {Kind: api.ItemSymbol, Text: "a"}}, {{Kind: api.ItemSymbol}}, {{Kind: api.ItemList, Kids: 1 << 62}},
	} {
		if Valid(bad) || Format(bad) != "" || Roots(bad) != nil || Children(bad, 0) != nil {
			t.Error(bad)
		}
	}
	if !Valid(nil) || Format(nil) != "" {
		t.Error("the empty sequence is valid")
	}
	deep := make([]api.Item, api.MaxDepth+2)
	for i := range deep {
		deep[i] = api.Item{Kind: api.ItemList, Kids: 1}
	}
	deep[len(deep)-1].Kids = 0
	if Valid(deep) || !Valid(append(deep[:api.MaxDepth:api.MaxDepth], api.Item{Kind: api.ItemList})) {
		t.Error("depth")
	}
}

func TestP23Children(t *testing.T) {
	l, _, _ := Parse("(a (b c) d) e")
	if !slices.Equal(Roots(l), []int{0, 6}) || !slices.Equal(Children(l, 0), []int{1, 2, 5}) || !slices.Equal(Children(l, 2), []int{3, 4}) || Children(l, 1) != nil || Children(l, 9) != nil || Children(l, -1) != nil {
		t.Error(Roots(l), Children(l, 0), Children(l, 2))
	}
}
