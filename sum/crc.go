package sum

// crc is the CRC-32 of the text so far; nothing has 0.
type crc uint32

// afterHalf tells what four bits that fall out at the low end leave of the polynomial EDB88320. A table for whole bytes would be too long to write out.
var afterHalf = [16]uint32{
	0x00000000, 0x1db71064, 0x3b6e20c8, 0x26d930ac,
	0x76dc4190, 0x6b6b51f4, 0x4db26158, 0x5005713c,
	0xedb88320, 0xf00f9344, 0xd6d6a3e8, 0xcb61b38c,
	0x9b64c2b0, 0x86d3d2d4, 0xa00ae278, 0xbdbdf21c,
}

// write undoes the inversion at the end, and does it again.
func (c *crc) write(b []byte) {
	rest := ^uint32(*c)
	for _, x := range b {
		rest ^= uint32(x)
		rest = rest>>4 ^ afterHalf[rest&15]
		rest = rest>>4 ^ afterHalf[rest&15]
	}
	*c = crc(^rest)
}

func (c *crc) sum() []byte {
	return addWord(nil, uint32(*c))
}
