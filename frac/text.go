package frac

import (
	"strings"

	"algebrist/api"
	"algebrist/digits"
	"algebrist/whole"
)

const maxPlaces = 100

// Text is a rational's text.
func Text(a api.Rat) string {
	if isOne(a.Den) {
		return joined(digits.Text(a.Num))
	}
	return joined(digits.Text(a.Num), "/", digits.Text(a.Den))
}

// joined puts a text together of its parts.
func joined(parts ...string) string { return strings.Join(parts, "") }

// Parse reads a text.
func Parse(s string) (api.Rat, api.Errno) {
	first, second, both := strings.Cut(s, "/")
	num, e := digits.Parse(first)
	if !both {
		if e != api.OK {
			return api.Rat{}, e
		}
		return Whole(num), api.OK
	}
	den, f := digits.Parse(second)
	switch {
	case e == api.ErrSyntax, f == api.ErrSyntax, strings.HasPrefix(second, "-"), second == "0", second == "1":
		return api.Rat{}, api.ErrSyntax
	case e != api.OK || f != api.OK:
		return api.Rat{}, api.ErrRange
	case !isOne(gcd(num, den)):
		return api.Rat{}, api.ErrSyntax
	}
	return api.Rat{Num: num, Den: den}, api.OK
}

// Decimal is a rounded decimal text.
func Decimal(a api.Rat, places int) (string, api.Errno) {
	if places < 0 || places > maxPlaces {
		return "", api.ErrArg
	}
	power, _ := whole.Pow(whole.Of(10), places)
	near := nearest(Mul(a, Whole(power)))
	sign := ""
	switch {
	case near.Neg:
		sign = "-"
		near = whole.Neg(near)
		fallthrough
	default:
		return pointed(sign, digits.Text(near), places), api.OK
	}
}

// nearest is the whole number that is nearest; of two the one farther from 0.
func nearest(a api.Rat) api.Int {
	half := api.Rat{Num: one(), Den: whole.Of(2)}
	if Sign(a) < 0 {
		return Ceil(Sub(a, half))
	}
	return Floor(Add(a, half))
}

func pointed(sign, s string, places int) string {
	if places == 0 {
		return joined(sign, s)
	}
	if short := places + 1 - len(s); short > 0 {
		s = joined(strings.Repeat("0", short), s)
	}
	at := len(s) - places
	return joined(sign, s[:at], ".", s[at:])
}
