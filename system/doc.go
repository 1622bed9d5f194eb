// Package system contains nothing but tests: they let several layers work together (the promises T1 to T18 of the document).
package system
