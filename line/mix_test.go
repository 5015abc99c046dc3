package line_test

import (
	"math"
	"math/big"
	"testing"

	"simulcast/line"
)

// mixed is Mix by its definition, in numbers without bounds.
func mixed(choice, number, many int) int {
	if number < 0 || many < 0 || choice == -1 {
		return 0
	}
	if choice < -1 {
		return many
	}
	n := new(big.Int).Mul(big.NewInt(int64(choice)), big.NewInt(31))
	n.Add(n, new(big.Int).Mul(big.NewInt(int64(number)), big.NewInt(17)))
	n.Mod(n, big.NewInt(1009))
	n.Mod(n, new(big.Int).Add(big.NewInt(int64(many)), big.NewInt(1)))
	return int(n.Int64())
}

// P5.2: the definition, with numbers so large that their products and sums overflow.
func TestMix(t *testing.T) {
	numbers := []int{math.MinInt, math.MinInt + 1, -1009, -3, -2, -1, 0, 1, 2, 3, 4, 7, 31, 32, 33, 100, 511, 512, 1007, 1008, 1009, 1010, 2018,
		math.MaxInt32, math.MaxInt32 + 1, math.MaxInt / 31, math.MaxInt/31 + 1, math.MaxInt/17 + 1, math.MaxInt / 2, math.MaxInt - 1, math.MaxInt}
	for _, choice := range numbers {
		for _, number := range numbers {
			for _, many := range numbers {
				if got, wanted := line.Mix(choice, number, many), mixed(choice, number, many); got != wanted {
					t.Errorf("Mix(%d, %d, %d) = %d, wanted %d", choice, number, many, got, wanted)
				}
			}
		}
	}
}

// P5.2: numbers worked out by hand, and what takes precedence.
func TestMixByHand(t *testing.T) {
	for _, x := range [][4]int{
		{3, 0, 1, 1}, {0, 0, 9, 0}, {1, 0, 31, 31}, {1, 0, 30, 0}, {1, 1, 47, 0}, {1, 1, 48, 48}, {0, 1, 9, 7},
		{1008, 0, 5000, 978}, {1009, 0, 5000, 0}, {5, 2, 0, 0},
		{-1, 3, 9, 0}, {-2, 3, 9, 9}, {-3, 3, 9, 9}, {math.MinInt, 3, 9, 9}, {-2, 3, math.MaxInt, math.MaxInt},
		{-2, -1, 9, 0}, {-2, 3, -1, 0}, {7, -1, 9, 0}, {7, 3, -1, 0}, {-1, -1, -1, 0},
	} {
		if got := line.Mix(x[0], x[1], x[2]); got != x[3] {
			t.Errorf("Mix(%d, %d, %d) = %d, wanted %d", x[0], x[1], x[2], got, x[3])
		}
	}
}
