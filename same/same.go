// Package same compares values in which a nil slice and an empty one are equivalent.
package same

import (
	"bytes"
	"slices"

	"exchangepoint/api"
)

// Rule compares two configurations of a port.
func Rule(a, b api.Rule) bool {
	return a.Port == b.Port && a.ASN == b.ASN && a.Switch == b.Switch && a.Rate == b.Rate && a.Burst == b.Burst &&
		slices.Equal(a.MACs, b.MACs) && slices.Equal(a.V4, b.V4) && slices.Equal(a.V6, b.V6)
}

func segment(a, b api.Segment) bool {
	return a.Set == b.Set && slices.Equal(a.ASNs, b.ASNs)
}

func unknown(a, b api.Unknown) bool {
	return a.Flags == b.Flags && a.Type == b.Type && bytes.Equal(a.Data, b.Data)
}

// Attrs compares attributes.
func Attrs(a, b api.Attrs) bool {
	return a.Origin == b.Origin && a.Next == b.Next && a.MED == b.MED && a.Pref == b.Pref && a.OTC == b.OTC &&
		slices.EqualFunc(a.Path, b.Path, segment) && slices.Equal(a.Communities, b.Communities) &&
		slices.Equal(a.Large, b.Large) && slices.EqualFunc(a.Other, b.Other, unknown)
}

// Route compares routes.
func Route(a, b api.Route) bool {
	return a.Prefix == b.Prefix && a.From == b.From && Attrs(a.Attrs, b.Attrs)
}

// Routes compares lists of routes.
func Routes(a, b []api.Route) bool {
	return slices.EqualFunc(a, b, Route)
}

// Step compares steps of a maintenance.
func Step(a, b api.Step) bool {
	return a.Kind == b.Kind && a.Wait == b.Wait && slices.Equal(a.Items, b.Items)
}

// Invoice compares invoices.
func Invoice(a, b api.Invoice) bool {
	return a.Member == b.Member && a.Month == b.Month && a.Version == b.Version && a.Total == b.Total && slices.Equal(a.Lines, b.Lines)
}
