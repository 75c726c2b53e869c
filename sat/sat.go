// Package sat computes with counts of ticks that saturate at 0 and at api.MaxTick.
package sat

import (
	"crossbuck/api"
)

// Cap: P1.1.
func Cap(n int) int { return limit(int64(n)) }

// Add: P1.1.
func Add(a, b int) int { return limit(wide(a) + wide(b)) }

// Sub: P1.1.
func Sub(a, b int) int { return limit(wide(a) - wide(b)) }

// Mul: P1.1.
func Mul(a, b int) int { return limit(wide(a) * wide(b)) }

// Sum: P1.1.
func Sum(l ...int) int {
	total := 0
	for _, n := range l {
		total = Add(total, n)
	}
	return total
}

// Full: P1.1.
func Full(n int) bool { return n >= api.MaxTick }

// wide gives a capped argument 64 bits, because the product of two that are below 2^31 fits in them.
func wide(n int) int64 { return int64(Cap(n)) }

func limit(n int64) int {
	if n < 0 {
		return 0
	}
	if n > api.MaxTick {
		return api.MaxTick
	}
	return int(n)
}
