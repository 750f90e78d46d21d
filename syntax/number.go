package syntax

import (
	"strings"

	"arbiter/api"
	"arbiter/bounds"
)

// tooGreat stands for every number above the bound, however many digits it
// has.
const tooGreat = api.MaxNumber + 1

// readNumber gives what a word of digits means, and whether it is written as a
// number is. Beyond the bounds it stops at tooGreat, either way.
func readNumber(word string) (int, bool) {
	digits, negative := strings.CutPrefix(word, "-")
	if digits == "" || !bounds.AllWithin(digits, '0', '9') {
		return 0, false
	}
	if digits[0] == '0' && word != "0" {
		return 0, false
	}
	value := valueOf(digits)
	if negative {
		return -value, true
	}
	return value, true
}

func valueOf(digits string) int {
	value := 0
	for i := range len(digits) {
		value = min(value*10+int(digits[i]-'0'), tooGreat)
	}
	return value
}
