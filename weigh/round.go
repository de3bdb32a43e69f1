package weigh

import (
	"math"
	"math/big"
	"math/bits"

	"endonym/api"
)

const (
	mantissaBits = 53
	fractionBits = mantissaBits - 1
	exponentMask = 1<<11 - 1
	leastPower   = -1074 // of two: what the last bit of the least float weighs
)

// decimal is the float nearest to digits times 10^power.
func decimal(digits uint64, power int) float64 {
	return nearest(tenfold(new(big.Int).SetUint64(digits), power), tenfold(big.NewInt(1), -power))
}

// quotient is the float nearest to so many least floats, divided by a count.
func quotient(leasts *big.Int, count int) float64 {
	a := nearest(new(big.Int).Abs(leasts), doubled(big.NewInt(int64(count)), -leastPower))
	if leasts.Sign() < 0 {
		return -a
	}
	return a
}

// exactSum is the sum of finite floats, counted in least floats.
func exactSum(l []float64) *big.Int {
	sum, term := new(big.Int), new(big.Int)
	for _, a := range l {
		mantissa, power := parts(a)
		term.SetUint64(mantissa)
		term.Lsh(term, uint(power-leastPower))
		if a < 0 {
			sum.Sub(sum, term)
		} else {
			sum.Add(sum, term)
		}
	}
	return sum
}

// shortest is the digits and the power of ten with which a finite number above 0 is written.
func shortest(a float64) (digits uint64, power int) {
	mantissa, last := parts(a)
	num := doubled(new(big.Int).SetUint64(mantissa), last)
	den := doubled(big.NewInt(1), -last)
	for power = firstPower(bits.Len64(mantissa) + last); ; power-- {
		near, far := around(tenfold(num, -power), tenfold(den, power))
		// Then 10^power is above a, and the first digit is yet to come.
		if min(near, far) == 0 {
			continue
		}
		// Floats lie closer below a power of two than above it: there the farther one may be read as a, though the nearer is not.
		for _, d := range [2]uint64{near, far} {
			if decimal(d, power) == a {
				return withoutNoughts(d, power)
			}
		}
	}
}

// firstPower is the power of ten of the first digit of a number below 2^twos, or one not far above it.
func firstPower(twos int) int {
	return twos * 30103 / 100000
}

// withoutNoughts is the same number without noughts at its end: a 9 may have been rounded up to 10.
func withoutNoughts(digits uint64, power int) (uint64, int) {
	for digits%10 == 0 {
		digits, power = digits/10, power+1
	}
	return digits, power
}

// nearest is the float nearest to num/den (neither is below 0), of two as near the one whose last bit is 0; an infinity beyond all floats.
func nearest(num, den *big.Int) float64 {
	// The first try has 53 or 54 bits, or fewer where the last bit is the least one; a try with one bit too many is made once more.
	for last := max(num.BitLen()-den.BitLen()-mantissaBits, leastPower); ; last++ {
		near, _ := around(doubled(num, -last), doubled(den, last))
		if near <= 1<<mantissaBits {
			return math.Ldexp(float64(near), last)
		}
	}
}

// around is the whole numbers below and above num/den (the one below may be the quotient itself), the nearer one ahead, of two as near the even one.
func around(num, den *big.Int) (near, far uint64) {
	whole, rest := new(big.Int).QuoRem(num, den, new(big.Int))
	below := whole.Uint64()
	side := rest.Lsh(rest, 1).Cmp(den)
	if side > 0 || side == 0 && below%2 == 1 {
		return below + 1, below
	}
	return below, below + 1
}

// doubled is n times 2^times, n itself where that is below 0.
func doubled(n *big.Int, times int) *big.Int {
	return new(big.Int).Lsh(n, uint(max(times, 0)))
}

// tenfold is n times 10^times, n itself where that is below 0.
func tenfold(n *big.Int, times int) *big.Int {
	tens := new(big.Int).Exp(big.NewInt(10), big.NewInt(int64(max(times, 0))), nil)
	return tens.Mul(tens, n)
}

// parts is the amount of a finite number: mantissa times 2^power.
func parts(a float64) (mantissa uint64, power int) {
	u := api.Bits(a)
	mantissa = u & (1<<fractionBits - 1)
	exponent := int(u >> fractionBits & exponentMask)
	if exponent == 0 {
		return mantissa, leastPower
	}
	return mantissa | 1<<fractionBits, leastPower + exponent - 1
}
