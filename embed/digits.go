package embed

import (
	"slices"

	"tracery/api"
)

// beyond stands for all numbers that are too great.
const beyond = api.MaxWays + 1

// apart: the digits of k, the first one the least, each below its base.
func apart(k int64, bases []int64) []int64 {
	digits := make([]int64, len(bases))
	for i, base := range bases {
		digits[i] = k % base
		k /= base
	}
	return digits
}

// together: the number that has these digits.
func together(digits, bases []int64) int64 {
	k := int64(0)
	for i, base := range slices.Backward(bases) {
		k = k*base + digits[i]
	}
	return k
}

// product: of numbers of 1 and more, or beyond.
func product(factors []int64) int64 {
	all := int64(1)
	for _, x := range factors {
		if all > api.MaxWays/x {
			return beyond
		}
		all *= x
	}
	return all
}

// choices: how many there are to choose from, place by place, when count things are put in order: all, one less, and so on to 1.
func choices(count int) []int64 {
	bases := make([]int64, count)
	for i := range bases {
		bases[i] = int64(count - i)
	}
	return bases
}

// order: the k-th order of count things round a node, which goes from 0 on; so all but 0 are free.
func order(count int, k int64) []int {
	round := []int{0}
	var left []int
	for i := 1; i < count; i++ {
		left = append(left, i)
	}
	for _, digit := range apart(k, choices(count-1)) {
		at := int(digit)
		round = append(round, left[at])
		left = slices.Delete(left, at, at+1)
	}
	return round
}

// orderNumber: which order that is. What is taken stands among what is left behind those that are less.
func orderNumber(round []int) int64 {
	free := round[1:]
	digits := make([]int64, len(free))
	for i, x := range free {
		for _, y := range free[i+1:] {
			if y < x {
				digits[i]++
			}
		}
	}
	return together(digits, choices(len(free)))
}
