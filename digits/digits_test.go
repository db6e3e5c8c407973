package digits_test

import (
	"bytes"
	"testing"

	"gleanings/digits"
)

func TestBytes(t *testing.T) {
	for s, b := range map[string][]byte{".": nil, "00": {0}, "6b0fff": {0x6b, 0x0f, 0xff}, "09af90": {0x09, 0xaf, 0x90}} {
		if digits.Bytes(b) != s {
			t.Error(s, digits.Bytes(b))
		}
		if got, ok := digits.ReadBytes(s, 3); !ok || !bytes.Equal(got, b) {
			t.Error(s, got, ok)
		}
	}
	for _, s := range []string{"", "0", "0g", "G0", "AB", "..", ". ", "01020304", "0x01", " 00"} {
		if got, ok := digits.ReadBytes(s, 3); ok || got != nil {
			t.Error(s, got)
		}
	}
}

func TestNumbers(t *testing.T) {
	for s, n := range map[string]int{"0": 0, "7": 7, "10": 10, "99": 99} {
		if got, ok := digits.ReadNumber(s, 99); !ok || got != n {
			t.Error(s, got, ok)
		}
	}
	for _, s := range []string{"", "-", "-1", "-0", "+1", "00", "01", "100", "1 ", "0x1", "1_0", "99999999999999999999"} {
		if got, ok := digits.ReadNumber(s, 99); ok || got != 0 {
			t.Error(s, got)
		}
	}
}
