// Package blame finds out which of many things are to blame.
package blame

import "slices"

// Few gives, rising, things that are wrong together and of which each one is
// needed for that. It is for things, numbered from 0 on, that are wrong all
// together, where what is wrong stays so with more of them.
func Few(count int, wrong func(things []int) bool) []int {
	blamed := upTo(count)
	for thing := range count {
		if rest := without(blamed, thing); wrong(rest) {
			blamed = rest
		}
	}
	return blamed
}

func upTo(count int) []int {
	all := make([]int, count)
	for n := range all {
		all[n] = n
	}
	return all
}

func without(things []int, one int) []int {
	return slices.DeleteFunc(slices.Clone(things), func(thing int) bool { return thing == one })
}
