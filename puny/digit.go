package puny

// base is how many digits there are.
const base = 36

// threshold is the least digit that is not a number's last one, of those at its k-th place, k from 1 on.
func threshold(k, bias int) int { return min(max(base*k-bias, 1), 26) }

func letter(digit int) byte {
	if digit < 26 {
		return 'a' + byte(digit)
	}
	return '0' + byte(digit-26)
}

func digitOf(b byte) (digit int, ok bool) {
	switch {
	case b >= 'a' && b <= 'z':
		return int(b - 'a'), true
	case b >= 'A' && b <= 'Z':
		return int(b - 'A'), true
	case b >= '0' && b <= '9':
		return int(b-'0') + 26, true
	}
	return 0, false
}
