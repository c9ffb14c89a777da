package dataset

// polynomial is 04C11DB7, its bits reflected.
const polynomial uint32 = 0xEDB88320

// checksum is the CRC-32. It goes bit by bit: a dataset is short, and a table
// would be longer than the rule that makes it.
func checksum(bytes []byte) uint32 {
	rest := ^uint32(0)
	for _, b := range bytes {
		rest ^= uint32(b)
		for range 8 {
			lowest := rest & 1
			rest >>= 1
			if lowest == 1 {
				rest ^= polynomial
			}
		}
	}
	return ^rest
}
