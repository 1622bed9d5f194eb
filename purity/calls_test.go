// Code in this file lists every exported function of the layers.
package purity

import (
	"exchangepoint/addr"
	"exchangepoint/arp"
	"exchangepoint/aspath"
	"exchangepoint/attribute"
	"exchangepoint/audit"
	"exchangepoint/blackhole"
	"exchangepoint/choose"
	"exchangepoint/community"
	"exchangepoint/compile"
	"exchangepoint/delta"
	"exchangepoint/drain"
	"exchangepoint/ether"
	"exchangepoint/fabric"
	"exchangepoint/filter"
	"exchangepoint/forward"
	"exchangepoint/glass"
	"exchangepoint/guard"
	"exchangepoint/interval"
	"exchangepoint/invoice"
	"exchangepoint/irr"
	"exchangepoint/matrix"
	"exchangepoint/member"
	"exchangepoint/meter"
	"exchangepoint/neighbor"
	"exchangepoint/offers"
	"exchangepoint/origin"
	"exchangepoint/pace"
	"exchangepoint/pack"
	"exchangepoint/packet"
	"exchangepoint/pattern"
	"exchangepoint/percentile"
	"exchangepoint/plan"
	"exchangepoint/prefix"
	"exchangepoint/replica"
	"exchangepoint/resolve"
	"exchangepoint/resource"
	"exchangepoint/restart"
	"exchangepoint/ribin"
	"exchangepoint/role"
	"exchangepoint/sample"
	"exchangepoint/session"
	"exchangepoint/table"
	"exchangepoint/update"
	"exchangepoint/wish"
	"exchangepoint/world"
)

// call is an exported function with its name.
type call struct {
	name string
	f    any
}

func calls() []call {
	return []call{
		{"addr.Valid", addr.Valid}, {"addr.Cmp", addr.Cmp}, {"addr.Next", addr.Next}, {"addr.Bytes", addr.Bytes}, {"addr.FromBytes", addr.FromBytes}, {"addr.Print", addr.Print}, {"addr.Parse", addr.Parse},
		{"prefix.Valid", prefix.Valid}, {"prefix.Cmp", prefix.Cmp}, {"prefix.Make", prefix.Make}, {"prefix.Bit", prefix.Bit}, {"prefix.Contains", prefix.Contains}, {"prefix.Covers", prefix.Covers}, {"prefix.Last", prefix.Last}, {"prefix.Halves", prefix.Halves}, {"prefix.Common", prefix.Common}, {"prefix.Print", prefix.Print}, {"prefix.Parse", prefix.Parse},
		{"table.Valid", table.Valid}, {"table.Get", table.Get}, {"table.Put", table.Put}, {"table.Remove", table.Remove}, {"table.Lookup", table.Lookup}, {"table.Covering", table.Covering}, {"table.Covered", table.Covered}, {"table.Aggregate", table.Aggregate},
		{"ether.Print", ether.Print}, {"ether.Parse", ether.Parse}, {"ether.Broadcast", ether.Broadcast}, {"ether.Group", ether.Group}, {"ether.Reserved", ether.Reserved}, {"ether.Solicited", ether.Solicited}, {"ether.Valid", ether.Valid}, {"ether.Encode", ether.Encode}, {"ether.Decode", ether.Decode},
		{"arp.Valid", arp.Valid}, {"arp.Encode", arp.Encode}, {"arp.Decode", arp.Decode}, {"arp.Request", arp.Request}, {"arp.Reply", arp.Reply}, {"arp.Own", arp.Own},
		{"packet.Sum", packet.Sum}, {"packet.Check", packet.Check}, {"packet.Valid", packet.Valid}, {"packet.Encode", packet.Encode}, {"packet.Decode", packet.Decode}, {"packet.Hop", packet.Hop},
		{"neighbor.Valid", neighbor.Valid}, {"neighbor.Encode", neighbor.Encode}, {"neighbor.Decode", neighbor.Decode},
		{"member.Check", member.Check}, {"member.Find", member.Find}, {"member.Ports", member.Ports}, {"member.Owner", member.Owner}, {"member.Print", member.Print}, {"member.Parse", member.Parse},
		{"compile.Rules", compile.Rules}, {"compile.Bindings", compile.Bindings}, {"compile.Rule", compile.Rule}, {"compile.Where", compile.Where}, {"compile.Bound", compile.Bound}, {"compile.Diff", compile.Diff},
		{"guard.Check", guard.Check}, {"guard.Grouped", guard.Grouped},
		{"resolve.Asks", resolve.Asks}, {"resolve.Deliver", resolve.Deliver},
		{"meter.New", meter.New}, {"meter.Valid", meter.Valid}, {"meter.Tick", meter.Tick}, {"meter.Take", meter.Take}, {"meter.Run", meter.Run},
		{"fabric.Valid", fabric.Valid}, {"fabric.Works", fabric.Works}, {"fabric.Distances", fabric.Distances}, {"fabric.Parts", fabric.Parts}, {"fabric.Cuts", fabric.Cuts}, {"fabric.Flow", fabric.Flow},
		{"forward.Hash", forward.Hash}, {"forward.Way", forward.Way}, {"forward.Send", forward.Send}, {"forward.Loads", forward.Loads},
		{"aspath.Valid", aspath.Valid}, {"aspath.Length", aspath.Length}, {"aspath.Flat", aspath.Flat}, {"aspath.Has", aspath.Has}, {"aspath.First", aspath.First}, {"aspath.Origin", aspath.Origin}, {"aspath.Prepend", aspath.Prepend}, {"aspath.Reserved", aspath.Reserved}, {"aspath.Print", aspath.Print}, {"aspath.Parse", aspath.Parse},
		{"pattern.Match", pattern.Match}, {"pattern.Parse", pattern.Parse}, {"pattern.Valid", pattern.Valid}, {"pattern.Print", pattern.Print}, {"pattern.Any", pattern.Any},
		{"community.Valid", community.Valid}, {"community.ValidLarge", community.ValidLarge}, {"community.Add", community.Add}, {"community.AddLarge", community.AddLarge}, {"community.Remove", community.Remove}, {"community.RemoveLarge", community.RemoveLarge}, {"community.Has", community.Has}, {"community.HasLarge", community.HasLarge}, {"community.Print", community.Print}, {"community.Parse", community.Parse},
		{"attribute.Valid", attribute.Valid}, {"attribute.Empty", attribute.Empty}, {"attribute.Split", attribute.Split}, {"attribute.Join", attribute.Join}, {"attribute.Read", attribute.Read}, {"attribute.Write", attribute.Write},
		{"update.Decode", update.Decode}, {"update.Frame", update.Frame}, {"update.Parse", update.Parse}, {"update.Valid", update.Valid}, {"update.Size", update.Size}, {"update.Encode", update.Encode}, {"update.Ends", update.Ends},
		{"irr.Valid", irr.Valid}, {"irr.Expand", irr.Expand}, {"irr.Own", irr.Own}, {"irr.Normal", irr.Normal}, {"irr.Permits", irr.Permits}, {"irr.Permitted", irr.Permitted},
		{"resource.Valid", resource.Valid}, {"resource.Of", resource.Of}, {"resource.Union", resource.Union}, {"resource.Intersect", resource.Intersect}, {"resource.Minus", resource.Minus}, {"resource.Covers", resource.Covers}, {"resource.HasPrefix", resource.HasPrefix}, {"resource.HasASN", resource.HasASN}, {"resource.Prefixes", resource.Prefixes},
		{"origin.Trusted", origin.Trusted}, {"origin.Explain", origin.Explain}, {"origin.Payloads", origin.Payloads}, {"origin.State", origin.State},
		{"role.Inverse", role.Inverse}, {"role.Fits", role.Fits}, {"role.Receive", role.Receive}, {"role.Send", role.Send}, {"role.Travels", role.Travels}, {"role.Valley", role.Valley},
		{"filter.Valid", filter.Valid}, {"filter.ValidPeer", filter.ValidPeer}, {"filter.Hole", filter.Hole}, {"filter.Widen", filter.Widen}, {"filter.Check", filter.Check}, {"filter.All", filter.All},
		{"ribin.Valid", ribin.Valid}, {"ribin.New", ribin.New}, {"ribin.Get", ribin.Get}, {"ribin.Accepted", ribin.Accepted}, {"ribin.Apply", ribin.Apply}, {"ribin.Raise", ribin.Raise}, {"ribin.Down", ribin.Down}, {"ribin.Sweep", ribin.Sweep}, {"ribin.Moved", ribin.Moved},
		{"wish.Check", wish.Check}, {"wish.Prepends", wish.Prepends}, {"wish.Verdict", wish.Verdict}, {"wish.Strip", wish.Strip}, {"wish.Export", wish.Export},
		{"choose.Value", choose.Value}, {"choose.Compare", choose.Compare}, {"choose.Best", choose.Best}, {"choose.Rank", choose.Rank},
		{"offers.Valid", offers.Valid}, {"offers.Candidates", offers.Candidates}, {"offers.Offer", offers.Offer}, {"offers.All", offers.All}, {"offers.Prefixes", offers.Prefixes},
		{"delta.Begin", delta.Begin}, {"delta.Diff", delta.Diff}, {"delta.Play", delta.Play}, {"delta.Apply", delta.Apply},
		{"pack.Pack", pack.Pack}, {"pack.Unpack", pack.Unpack},
		{"pace.Valid", pace.Valid}, {"pace.Push", pace.Push}, {"pace.Send", pace.Send}, {"pace.Tick", pace.Tick}, {"pace.Idle", pace.Idle},
		{"session.Valid", session.Valid}, {"session.Encode", session.Encode}, {"session.Decode", session.Decode}, {"session.Notify", session.Notify}, {"session.Start", session.Start}, {"session.Hold", session.Hold}, {"session.Receive", session.Receive}, {"session.Tick", session.Tick},
		{"restart.Keeps", restart.Keeps}, {"restart.Records", restart.Records}, {"restart.Due", restart.Due},
		{"replica.Replay", replica.Replay}, {"replica.Empty", replica.Empty}, {"replica.Snapshot", replica.Snapshot}, {"replica.Digest", replica.Digest},
		{"blackhole.Match", blackhole.Match}, {"blackhole.Drops", blackhole.Drops}, {"blackhole.Requested", blackhole.Requested}, {"blackhole.Without", blackhole.Without},
		{"glass.Explain", glass.Explain}, {"glass.Check", glass.Check}, {"glass.Print", glass.Print}, {"glass.Parse", glass.Parse},
		{"sample.Pick", sample.Pick}, {"sample.Valid", sample.Valid}, {"sample.Lost", sample.Lost}, {"sample.Span", sample.Span}, {"sample.Merge", sample.Merge}, {"sample.Between", sample.Between},
		{"matrix.Valid", matrix.Valid}, {"matrix.Cells", matrix.Cells}, {"matrix.Add", matrix.Add}, {"matrix.Total", matrix.Total}, {"matrix.From", matrix.From}, {"matrix.To", matrix.To}, {"matrix.Estimate", matrix.Estimate},
		{"interval.Choose", interval.Choose}, {"interval.AtLeast", interval.AtLeast}, {"interval.AtMost", interval.AtMost}, {"interval.Bounds", interval.Bounds}, {"interval.Cover", interval.Cover},
		{"percentile.Valid", percentile.Valid}, {"percentile.Rate", percentile.Rate}, {"percentile.Rates", percentile.Rates}, {"percentile.Percentile", percentile.Percentile}, {"percentile.Used", percentile.Used}, {"percentile.Merge", percentile.Merge}, {"percentile.Put", percentile.Put},
		{"invoice.Price", invoice.Price}, {"invoice.Make", invoice.Make}, {"invoice.Sum", invoice.Sum}, {"invoice.Correct", invoice.Correct},
		{"drain.Valid", drain.Valid}, {"drain.Without", drain.Without}, {"drain.Fits", drain.Fits}, {"drain.Safe", drain.Safe}, {"drain.Rounds", drain.Rounds}, {"drain.Steps", drain.Steps},
		{"plan.Failures", plan.Failures}, {"plan.Shed", plan.Shed}, {"plan.Build", plan.Build}, {"plan.Check", plan.Check}, {"plan.Lookup", plan.Lookup},
		{"world.Begin", world.Begin}, {"world.Working", world.Working}, {"world.Avoiding", world.Avoiding}, {"world.Step", world.Step}, {"world.Run", world.Run},
		{"audit.Check", audit.Check}, {"audit.Sent", audit.Sent}, {"audit.Arrived", audit.Arrived}, {"audit.Path", audit.Path},
	}
}
