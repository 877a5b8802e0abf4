// Package bounds: between which numbers a number must lie.
package bounds

const maxAddress = 255

// Between tells whether n is least, most, or between them.
func Between(least, n, most int) bool {
	return least <= n && n <= most
}

// IsAddress tells whether n can be the number of an address.
func IsAddress(n int) bool {
	return Between(0, n, maxAddress)
}
