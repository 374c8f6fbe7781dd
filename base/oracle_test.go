package base_test

import (
	"strings"

	"covey/api"
)

// The oracle tells bytes and letters as texts of the digits 0 and 1; it shares nothing with the program.

// alphabets by the flag url; each letter is written out.
var alphabets = map[bool][]string{
	false: strings.Split("A B C D E F G H I J K L M N O P Q R S T U V W X Y Z a b c d e f g h i j k l m n o p q r s t u v w x y z 0 1 2 3 4 5 6 7 8 9 + /", " "),
	true:  strings.Split("A B C D E F G H I J K L M N O P Q R S T U V W X Y Z a b c d e f g h i j k l m n o p q r s t u v w x y z 0 1 2 3 4 5 6 7 8 9 - _", " "),
}

func digits(n, width int) string {
	s := ""
	for ; width > 0; width-- {
		s = string(rune('0'+n%2)) + s
		n /= 2
	}
	return s
}

func number(digits string) int {
	n := 0
	for _, d := range digits {
		n = 2*n + int(d-'0')
	}
	return n
}

func oracleEncode(b []byte, url bool) string {
	var bits strings.Builder
	for _, x := range b {
		bits.WriteString(digits(int(x), 8))
	}
	for bits.Len()%6 != 0 {
		bits.WriteByte('0')
	}
	var s strings.Builder
	for all := bits.String(); all != ""; all = all[6:] {
		s.WriteString(alphabets[url][number(all[:6])])
	}
	return s.String()
}

// oracleDecode answers the bytes and -1, or none and the place of the fault.
func oracleDecode(s string, url bool) ([]byte, int) {
	var bits strings.Builder
	for i := 0; i < len(s); i++ {
		n := -1
		for v, letter := range alphabets[url] {
			if letter == s[i:i+1] {
				n = v
			}
		}
		if n < 0 {
			return nil, i
		}
		bits.WriteString(digits(n, 6))
	}
	var b []byte
	all := bits.String()
	for ; len(all) >= 8; all = all[8:] {
		b = append(b, byte(number(all[:8])))
	}
	// Whatever is amiss now, one letter too many or a filling that isn't noughts, is amiss at the last letter.
	if len(all) >= 6 || strings.Contains(all, "1") {
		return nil, len(s) - 1
	}
	return b, -1
}

func syntax(at int) api.Fault {
	return api.Fault{At: at, Err: api.ErrSyntax}
}
