// Package tariff: pricing rules over fields that not everybody may see: see DOC.md.
package tariff

import (
	"tariff/api"
	"tariff/bills"
	"tariff/check"
	"tariff/compile"
	"tariff/program"
	"tariff/run"
)

// Check tells whether a text is rules that may be used (P3 to P6).
func Check(text string) (api.Errno, int) {
	rules := check.Text(text)
	return rules.Errno, rules.Place
}

// Labels tells the label of each name (P7).
func Labels(text string) ([api.Names]int, api.Errno) {
	rules := check.Text(text)
	return rules.Labels, rules.Errno
}

// Run tells the notes that rules leave (P8).
func Run(text string, fields []int) ([]api.Note, api.Errno) {
	return run.Text(text, fields)
}

// Valid tells whether instructions are a program (P9).
func Valid(code []api.Ins) (api.Errno, int) {
	verdict := program.Judge(code)
	return verdict.Errno, verdict.Place
}

// Exec runs a program (P10).
func Exec(code []api.Ins, fields []int) ([]api.Note, api.Errno) {
	return program.Exec(code, fields)
}

// Compile makes a program of rules (P11).
func Compile(text string) ([]api.Ins, api.Errno) {
	return compile.Text(text)
}

// Bill writes what a reader may see (P12).
func Bill(text string, fields []int, reader int) (string, api.Errno) {
	return bills.Text(text, fields, reader)
}

// Read reads a bill (P13).
func Read(bill string) ([]api.Line, api.Errno) {
	return bills.Read(bill)
}
