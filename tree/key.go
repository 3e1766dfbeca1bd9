package tree

import (
	"strconv"
	"strings"

	"chcsolver/api"
)

// Key returns a text that is the same for equal terms only.
func Key(t api.Term) string {
	var b strings.Builder
	for _, n := range t {
		b.WriteByte(byte('A' + n.Op))
		if n.Sort != 0 {
			b.WriteByte(byte('0' + n.Sort))
		}
		b.WriteString(n.Name)
		b.WriteString(n.Num)
		if n.Op == api.OpAnd || n.Op == api.OpOr || n.Op == api.OpAdd || n.Op == api.OpApply {
			b.WriteByte('#')
			b.WriteString(strconv.Itoa(n.Kids))
		}
		b.WriteByte(' ')
	}
	return b.String()
}
