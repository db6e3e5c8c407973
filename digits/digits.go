// Package digits writes bytes and numbers as the words of lines have them, and reads them.
package digits

import "strconv"

// ofBytes are the hexadecimal digits, each at its value.
const ofBytes = "0123456789abcdef"

// Bytes as hexadecimal digits, or a point, if there are none.
func Bytes(b []byte) string {
	if len(b) == 0 {
		return "."
	}
	l := make([]byte, 0, 2*len(b))
	for _, x := range b {
		l = append(l, ofBytes[x>>4], ofBytes[x&15])
	}
	return string(l)
}

// value of a hexadecimal digit; false: it is none.
func value(x byte) (byte, bool) {
	switch {
	case '0' <= x && x <= '9':
		return x - '0', true
	case 'a' <= x && x <= 'f':
		return x - 'a' + 10, true
	}
	return 0, false
}

// ReadBytes of a word that Bytes makes, at most so many; false: it is none.
func ReadBytes(word string, most int) ([]byte, bool) {
	if word == "." {
		return nil, true
	}
	if len(word) == 0 || len(word)%2 != 0 || len(word)/2 > most {
		return nil, false
	}
	var b []byte
	for i := 0; i < len(word); i += 2 {
		high, okHigh := value(word[i])
		low, okLow := value(word[i+1])
		if !okHigh || !okLow {
			return nil, false
		}
		b = append(b, high<<4|low)
	}
	return b, true
}

// ReadNumber of a word of digits, without a nought ahead of others, up to most; false: it is none.
func ReadNumber(word string, most int) (int, bool) {
	n, err := strconv.Atoi(word)
	if err != nil || n < 0 || n > most || strconv.Itoa(n) != word {
		return 0, false
	}
	return n, true
}
