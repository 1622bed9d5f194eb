// Package purity contains nothing but tests: they call every function of every layer with all kinds of arguments,
// and look for panics, for arguments that change, and for memory that is shared (rules R1 to R4 of the document).
package purity
