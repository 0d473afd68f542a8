package grammar

import (
	"strings"

	"turnstile/api"
)

func copyRule(r api.Rule) api.Rule {
	return api.Rule{MTI: strings.Clone(r.MTI), Must: copyNumbers(r.Must), May: copyNumbers(r.May)}
}

func copyNumbers(l []int) []int { return append([]int(nil), l...) }

func copyField(f api.Field) api.Field {
	return api.Field{Number: f.Number, Value: strings.Clone(f.Value), Kids: copyNodes(f.Kids)}
}

// copyNodes makes lists that stood in two places two.
func copyNodes(l []api.Node) []api.Node {
	var c []api.Node
	for _, n := range l {
		c = append(c, api.Node{Tag: n.Tag, Value: strings.Clone(n.Value), Kids: copyNodes(n.Kids)})
	}
	return c
}
