package dft_test

import "math/big"

// precision is a number of digits with which rounding does not count.
const precision = 200

// exact is a complex number with many digits, by which the tests compute the roots
// and the sums that the results may differ from by little only.
type exact struct{ re, im *big.Float }

func float(x float64) *big.Float { return big.NewFloat(x).SetPrec(precision) }

func zero() *big.Float { return new(big.Float).SetPrec(precision) }

func exactOf(x complex128) exact { return exact{float(real(x)), float(imag(x))} }

func (a exact) plus(b exact) exact {
	return exact{zero().Add(a.re, b.re), zero().Add(a.im, b.im)}
}

func (a exact) times(b exact) exact {
	re := zero().Sub(zero().Mul(a.re, b.re), zero().Mul(a.im, b.im))
	im := zero().Add(zero().Mul(a.re, b.im), zero().Mul(a.im, b.re))
	return exact{re, im}
}

// over returns the number divided by a positive one.
func (a exact) over(n int) exact {
	return exact{zero().Quo(a.re, float(float64(n))), zero().Quo(a.im, float(float64(n)))}
}

// near reports whether the parts of another number differ from those of a by at most
// a bound.
func (a exact) near(x complex128, bound float64) bool {
	b := exactOf(x)
	near := func(x, y *big.Float) bool {
		difference := zero().Sub(x, y)
		return difference.Abs(difference).Cmp(float(bound)) <= 0
	}
	return near(a.re, b.re) && near(a.im, b.im)
}

// firstRoot returns the number with the absolute value 1 and the angle of a whole
// turn divided by n. From the angle of a quarter on, the cosine of the half of an
// angle is the root of half of 1 + its cosine, and its sine is half of the sine
// divided by that.
func firstRoot(n int) exact {
	switch n {
	case 1:
		return exactOf(1)
	case 2:
		return exactOf(-1)
	case 4:
		return exactOf(1i)
	}
	whole := firstRoot(n / 2)
	cos := zero().Add(float(1), whole.re)
	cos.Sqrt(cos.Mul(cos, float(0.5)))
	sin := zero().Quo(zero().Mul(whole.im, float(0.5)), cos)
	return exact{cos, sin}
}

// exactRoots returns the powers of the first root.
func exactRoots(n int) []exact {
	roots := []exact{exactOf(1)}
	first := firstRoot(n)
	for k := range n - 1 {
		roots = append(roots, roots[k].times(first))
	}
	return roots
}

// exactSums returns the transform of a list by its definition, or that with the
// angles in the other direction.
func exactSums(l []complex128, backward bool) []exact {
	n := len(l)
	roots := exactRoots(n)
	var sums []exact
	for k := range n {
		sum := exactOf(0)
		for j, x := range l {
			at := j * k % n
			if backward {
				at = (n - at) % n
			}
			sum = sum.plus(exactOf(x).times(roots[at]))
		}
		sums = append(sums, sum)
	}
	return sums
}

// exactTransform returns the transform of a list.
func exactTransform(l []complex128) []exact { return exactSums(l, false) }

// exactInverse returns the list with a transform.
func exactInverse(l []complex128) []exact {
	result := exactSums(l, true)
	for i := range result {
		result[i] = result[i].over(len(l))
	}
	return result
}
