package path

const (
	maxBody   = 1<<31 - 1
	bodyBytes = 10 // the mark, 8 digits and a slash
	digits    = "0123456789abcdef"
)

// Body returns the path of the body of a file with several names.
func Body(id int) string {
	if id < 0 || id > maxBody {
		return ""
	}
	b := []byte{bodyMark}
	for shift := 28; shift >= 0; shift -= 4 {
		b = append(b, digits[id>>shift&15])
	}
	return string(append(b, '/'))
}

// isBody reports whether a text is a body.
func isBody(s string) bool {
	if len(s) != bodyBytes || s[0] != bodyMark || s[bodyBytes-1] != '/' {
		return false
	}
	for i := 1; i < bodyBytes-1; i++ {
		if !isDigit(s[i]) {
			return false
		}
	}
	// A greater first digit makes the number greater than maxBody.
	return s[1] <= '7'
}

// isDigit reports whether a byte is a digit of a body.
func isDigit(b byte) bool {
	return '0' <= b && b <= '9' || 'a' <= b && b <= 'f'
}
