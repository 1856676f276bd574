// Package sum has sums of bytes, by which altered ones are known: layer 1.
package sum

const (
	poly    = 0x1021 // what the register is combined with for each bit that is shifted out
	modulus = 65521  // of both numbers of a fingerprint
)

// Check is the sum of bytes, going round.
func Check(b []byte) byte {
	var total byte
	for _, c := range b {
		total += c
	}
	return total
}

// Crc is what is left of bytes, bit by bit.
func Crc(b []byte) uint16 {
	var register uint16
	for _, c := range b {
		register = divide(register ^ uint16(c)<<8)
	}
	return register
}

// divide shifts a register by eight bits, one after the other.
func divide(register uint16) uint16 {
	for range 8 {
		out := register >> 15
		register <<= 1
		if out == 1 {
			register ^= poly
		}
	}
	return register
}

// Table is what is left of each byte alone.
func Table() [256]uint16 {
	var t [256]uint16
	for c := range t {
		t[c] = Crc([]byte{byte(c)})
	}
	return t
}

// By is what is left of bytes, byte by byte, by a table.
func By(t *[256]uint16, b []byte) uint16 {
	var register uint16
	for _, c := range b {
		register = register<<8 ^ t[byte(register>>8)^c]
	}
	return register
}

// Printer is a print of bytes that come one behind the other. A zero one has none.
type Printer struct {
	s, t uint32
}

// Write takes bytes.
func (p *Printer) Write(b ...byte) {
	for _, c := range b {
		// Both numbers stay below modulus, so neither sum can wrap around.
		p.s = (p.s + uint32(c)) % modulus
		p.t = (p.t + p.s + 1) % modulus
	}
}

// Sum is the print of what came.
func (p *Printer) Sum() uint32 { return p.t<<16 + p.s }

// Print is the print of bytes.
func Print(b []byte) uint32 {
	var p Printer
	p.Write(b...)
	return p.Sum()
}
