package scalar

// read goes through s as a machine whose states say how many bytes the number that is being read still wants. It tells the
// place of the byte that no state takes (the end, if one is wanting there), and whether s was read to its end.
//
// Only the second byte of a number can make it too long, a surrogate, or too great: so low and high, the bounds of the next
// byte, are narrow there alone.
func read(s string) (x []rune, place int, whole bool) {
	var c rune
	var first, low, high byte

begin:
	if place == len(s) {
		return x, place, true
	}
	first = s[place]
	low, high = secondBounds(first)
	switch {
	case first <= 0x7F:
		c = rune(first)
		place++
		goto done
	case first >= 0xC2 && first <= 0xDF:
		c = rune(first & 0x1F)
		place++
		goto oneMore
	case first >= 0xE0 && first <= 0xEF:
		c = rune(first & 0x0F)
		place++
		goto twoMore
	case first >= 0xF0 && first <= 0xF4:
		c = rune(first & 0x07)
		place++
		goto threeMore
	}
	goto refused

threeMore:
	if !goesOn(s, place, low, high) {
		goto refused
	}
	c = withSixBits(c, s[place])
	place++
	low, high = 0x80, 0xBF

twoMore:
	if !goesOn(s, place, low, high) {
		goto refused
	}
	c = withSixBits(c, s[place])
	place++
	low, high = 0x80, 0xBF

oneMore:
	if !goesOn(s, place, low, high) {
		goto refused
	}
	c = withSixBits(c, s[place])
	place++

done:
	x = append(x, c)
	goto begin

refused:
	return nil, place, false
}

// secondBounds are the least and the greatest byte that may follow first.
func secondBounds(first byte) (low, high byte) {
	switch first {
	case 0xE0:
		return 0xA0, 0xBF
	case 0xED:
		return 0x80, 0x9F
	case 0xF0:
		return 0x90, 0xBF
	case 0xF4:
		return 0x80, 0x8F
	}
	return 0x80, 0xBF
}

func goesOn(s string, place int, low, high byte) bool {
	return place < len(s) && s[place] >= low && s[place] <= high
}

func withSixBits(c rune, b byte) rune { return c<<6 | rune(b&0x3F) }
