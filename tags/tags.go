// Package tags names the entries of a dynamic section, and the bits of its flags.
package tags

// The tags.
const (
	Null        = 0
	Needed      = 1
	Pltrelsz    = 2
	Pltgot      = 3
	Hash        = 4
	Strtab      = 5
	Symtab      = 6
	Rela        = 7
	Relasz      = 8
	Relaent     = 9
	Strsz       = 10
	Syment      = 11
	Init        = 12
	Fini        = 13
	Soname      = 14
	Rpath       = 15
	Symbolic    = 16
	Pltrel      = 20
	Textrel     = 22
	Jmprel      = 23
	BindNow     = 24
	InitArray   = 25
	FiniArray   = 26
	InitArraysz = 27
	FiniArraysz = 28
	Runpath     = 29
	Flags       = 30
	Relrsz      = 35
	Relr        = 36
	Relrent     = 37
	GnuHash     = 0x6ffffef5
	Versym      = 0x6ffffff0
	Flags1      = 0x6ffffffb
	Verdef      = 0x6ffffffc
	Verdefnum   = 0x6ffffffd
	Verneed     = 0x6ffffffe
	Verneednum  = 0x6fffffff
)

// Bits of FLAGS and of FLAGS_1.
const (
	BitSymbolic = 2
	BitTextrel  = 4
	BitBindNow  = 8
	Bit1Now     = 1
)
