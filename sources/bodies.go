package sources

import "strings"

// Bodies are all of so many words, made of these leaves and of structures; then, until, repeat, again and loop are not counted. No exit stands inside a do.
func Bodies(leaves []string, many int, inDo bool) []string {
	if many == 0 {
		return []string{""}
	}
	var list []string
	for first := 1; first <= many; first++ {
		rest := Bodies(leaves, many-first, inDo)
		for _, n := range nodes(leaves, first, inDo) {
			for _, r := range rest {
				list = append(list, strings.TrimSpace(n+" "+r))
			}
		}
	}
	return list
}

// nodes are all of so many words: a leaf, or a structure with its bodies.
func nodes(leaves []string, many int, inDo bool) []string {
	var list []string
	if many == 1 {
		for _, l := range leaves {
			if !inDo || l != "exit" {
				list = append(list, l)
			}
		}
	}
	for _, a := range Bodies(leaves, many-1, inDo) {
		list = append(list, "if "+a+" then", "begin "+a+" until", "begin "+a+" again")
	}
	for _, a := range Bodies(leaves, many-1, true) {
		list = append(list, "do "+a+" loop")
	}
	for first := 0; first <= many-2; first++ {
		for _, a := range Bodies(leaves, first, inDo) {
			for _, b := range Bodies(leaves, many-2-first, inDo) {
				list = append(list, "if "+a+" else "+b+" then", "begin "+a+" while "+b+" repeat")
			}
		}
	}
	return list
}
