package script

// mostNumber: the greatest number that a text may have; below 0 likewise.
const mostNumber = 1 << 60

func isNumber(n int) bool { return n >= -mostNumber && n <= mostNumber }

// numberOf tells the number that a word is; false: it is none.
func numberOf(word string) (int, bool) {
	if word == "0" {
		return 0, true
	}
	if word != "" && word[0] == '-' {
		n, ok := digits(word[1:])
		return -n, ok
	}
	return digits(word)
}

// digits tells a number above 0.
func digits(word string) (int, bool) {
	if word == "" || word[0] == '0' {
		return 0, false
	}
	n := 0
	for i := range len(word) { // bytes: of runes some that aren't digits could seem so
		digit := int(word[i]) - '0'
		if digit < 0 || digit > 9 || n > (mostNumber-digit)/10 {
			return 0, false
		}
		n = 10*n + digit
	}
	return n, true
}
