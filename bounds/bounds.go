// Package bounds tells whether texts keep to the bounds that the protocol sets them.
package bounds

// The bytes that may stand in a word or in a token.
const (
	leastByte = 33
	mostByte  = 126
)

// Word tells whether s is 1 to most bytes, none of them a blank, a newline, a byte 13 or another that may not be.
func Word(s string, most int) bool { return within(s, most, leastByte, mostByte) }

// Letters tells whether s is 1 to most letters a to z.
func Letters(s string, most int) bool { return within(s, most, 'a', 'z') }

// Digits tells whether s is 1 to most digits.
func Digits(s string, most int) bool { return within(s, most, '0', '9') }

func within(s string, most int, low, high byte) bool {
	if len(s) < 1 || len(s) > most {
		return false
	}
	for i := range len(s) {
		if s[i] < low || s[i] > high {
			return false
		}
	}
	return true
}
