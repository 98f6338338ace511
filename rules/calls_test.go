package rules

import (
	"drover/act"
	"drover/api"
	"drover/code"
	"drover/cost"
	"drover/device"
	"drover/dfa"
	"drover/field"
	"drover/frame"
	"drover/group"
	"drover/instr"
	"drover/lang"
	"drover/maker"
	"drover/match"
	"drover/meter"
	"drover/net"
	"drover/nfa"
	"drover/nums"
	"drover/pipe"
	"drover/plan"
	"drover/pred"
	"drover/prod"
	"drover/regex"
	"drover/sum"
	"drover/table"
	"drover/topo"
	"drover/wire"
)

// Each layer has the calls that its chapter lists: this file is not built, if one has another form.
var (
	_ func(uint64, int) (string, api.Errno) = nums.Put
	_ func(string) *nums.Reader             = nums.Read
	_ func(*nums.Reader, int) uint64        = (*nums.Reader).Num
	_ func(*nums.Reader, int) string        = (*nums.Reader).Bytes
	_ func(*nums.Reader) int                = (*nums.Reader).Left
	_ func(*nums.Reader) api.Errno          = (*nums.Reader).End

	_ func(string) int         = sum.Sum
	_ func(int, int, bool) int = sum.Join
	_ func(string) bool        = sum.Right

	_ func(api.Packet) (string, api.Errno) = frame.Bytes
	_ func(string) (api.Packet, api.Errno) = frame.Parse

	_ func(int) int                                         = field.Width
	_ func(field.Seen, int) (uint64, api.Errno)             = field.Get
	_ func(field.Seen, int, uint64) (field.Seen, api.Errno) = field.Put
	_ func(field.Seen, uint64) (field.Seen, api.Errno)      = field.Push
	_ func(field.Seen) (field.Seen, api.Errno)              = field.Pop
	_ func(field.Seen) []uint64                             = field.Values

	_ func(...api.Test) api.Errno               = match.Right
	_ func([]api.Test, field.Seen) bool         = match.Takes
	_ func([]api.Test, []api.Test) bool         = match.Same
	_ func([]api.Test, []api.Test) bool         = match.Covers
	_ func([]api.Test, []api.Test) bool         = match.Meets
	_ func(...api.Test) (string, api.Errno)     = match.Encode
	_ func(string) ([]api.Test, int, api.Errno) = match.Decode

	_ func(api.Action) bool                          = act.Right
	_ func(...api.Action) (string, api.Errno)        = act.Encode
	_ func(string) ([]api.Action, api.Errno)         = act.Decode
	_ func(field.Seen, api.Action) field.Seen        = act.Change
	_ func([]api.Action, ...api.Action) []api.Action = act.Merge

	_ func(api.Entry) api.Errno                = instr.Right
	_ func(api.Entry) (string, api.Errno)      = instr.Encode
	_ func(int, string) (api.Entry, api.Errno) = instr.Decode

	_ func(wire.Message) (string, api.Errno)      = wire.Encode
	_ func(string) (wire.Message, int, api.Errno) = wire.Decode

	_ func(int, int) (*meter.Bucket, api.Errno)  = meter.New
	_ func(*meter.Bucket, int) api.Errno         = (*meter.Bucket).Tick
	_ func(*meter.Bucket, int) (bool, api.Errno) = (*meter.Bucket).Take
	_ func(*meter.Bucket) int                    = (*meter.Bucket).Left

	_ func(int) (*group.Table, api.Errno)            = group.New
	_ func(*group.Table, api.Group) api.Errno        = (*group.Table).Add
	_ func(*group.Table, api.Group) api.Errno        = (*group.Table).Modify
	_ func(*group.Table, int) api.Errno              = (*group.Table).Delete
	_ func(*group.Table, int) (api.Group, api.Errno) = (*group.Table).Get
	_ func(*group.Table) []api.Group                 = (*group.Table).List
	_ func(api.Group, []bool, int) []api.Bucket      = group.Choose

	_ func(int) (*table.Flows, api.Errno)                   = table.New
	_ func(*table.Flows, api.Entry, bool) api.Errno         = (*table.Flows).Add
	_ func(*table.Flows, api.Entry, bool) api.Errno         = (*table.Flows).Modify
	_ func(*table.Flows, api.Entry, bool) api.Errno         = (*table.Flows).Delete
	_ func(*table.Flows, int, field.Seen) (api.Entry, bool) = (*table.Flows).Look
	_ func(*table.Flows, int) []api.Entry                   = (*table.Flows).List

	_ func(pipe.Parts, field.Seen, int) []pipe.Out                             = pipe.Run
	_ func(pipe.Parts, field.Seen, []api.Action, int) ([]pipe.Out, field.Seen) = pipe.Act

	_ func(int, int, int) (*device.Device, api.Errno)     = device.New
	_ func(*device.Device, string) ([]string, []pipe.Out) = (*device.Device).Handle
	_ func(*device.Device, int, string, int) []pipe.Out   = (*device.Device).Receive
	_ func(*device.Device, int, bool) string              = (*device.Device).Port
	_ func(*device.Device, int)                           = (*device.Device).Tick
	_ func(*device.Device) string                         = (*device.Device).State

	_ func(int, []api.Link) (*topo.Topo, api.Errno) = topo.New
	_ func(*topo.Topo) int                          = (*topo.Topo).Size
	_ func(*topo.Topo, int) []int                   = (*topo.Topo).Ports
	_ func(*topo.Topo, int, int) (int, int, int)    = (*topo.Topo).Peer
	_ func(*topo.Topo) []int                        = (*topo.Topo).Hosts
	_ func(*topo.Topo, int) (int, int)              = (*topo.Topo).Home
	_ func(*topo.Topo, int) float64                 = (*topo.Topo).Cost
	_ func(*topo.Topo, int, ...int) []int           = (*topo.Topo).Reach

	_ func(float64) bool             = cost.Right
	_ func(float64, float64) bool    = cost.Less
	_ func(float64, float64) float64 = cost.Add
	_ func(...float64) float64       = cost.Sum
	_ func(...float64) int           = cost.Least
	_ func([]float64) []int          = cost.Order

	_ func(api.Pred) bool                        = pred.Right
	_ func(api.Pred, []uint64) bool              = pred.Eval
	_ func(api.Test) api.Pred                    = pred.Is
	_ func(...api.Pred) api.Pred                 = pred.And
	_ func(...api.Pred) api.Pred                 = pred.Or
	_ func(api.Pred) api.Pred                    = pred.Not
	_ func(api.Cube) bool                        = pred.Whole
	_ func(api.Cube, []uint64) bool              = pred.In
	_ func(api.Cube, api.Cube) (api.Cube, bool)  = pred.Meet
	_ func(api.Cube, api.Cube) []api.Cube        = pred.Cut
	_ func(api.Cube) []uint64                    = pred.Pick
	_ func(api.Pred) ([]api.Cube, api.Errno)     = pred.Cubes
	_ func(api.Pred, api.Pred) (bool, api.Errno) = pred.Disjoint

	_ func() api.Expr                    = regex.Nothing
	_ func() api.Expr                    = regex.Empty
	_ func() api.Expr                    = regex.Any
	_ func(int) api.Expr                 = regex.One
	_ func(api.Expr) api.Expr            = regex.Star
	_ func(api.Expr, api.Expr) api.Expr  = regex.Cat
	_ func(api.Expr, api.Expr) api.Expr  = regex.Alt
	_ func(api.Expr) bool                = regex.Right
	_ func(api.Expr) bool                = regex.Nullable
	_ func(api.Expr, int) api.Expr       = regex.Derive
	_ func(api.Expr, []int) bool         = regex.Match
	_ func(api.Expr) string              = regex.Text
	_ func(string) (api.Expr, api.Errno) = regex.Parse

	_ func(api.Expr) (api.Nfa, api.Errno) = nfa.From
	_ func(api.Nfa) bool                  = nfa.Right
	_ func(api.Nfa, []int, int) []int     = nfa.Step
	_ func(api.Nfa, []int) bool           = nfa.Ends
	_ func(api.Nfa, []int) bool           = nfa.Run

	_ func(api.Nfa, int) (api.Dfa, api.Errno)     = dfa.From
	_ func(api.Dfa) bool                          = dfa.Right
	_ func(api.Dfa, int, int) int                 = dfa.Next
	_ func(api.Dfa, int) bool                     = dfa.Accept
	_ func(api.Dfa, []int) bool                   = dfa.Run
	_ func(api.Dfa) api.Dfa                       = dfa.Small
	_ func(api.Dfa, api.Dfa) (api.Dfa, api.Errno) = dfa.Both
	_ func(api.Dfa, api.Dfa) (api.Dfa, api.Errno) = dfa.Less
	_ func(api.Dfa, api.Dfa) bool                 = dfa.Same
	_ func(api.Dfa) ([]int, bool)                 = dfa.Least

	_ func(string) (api.Policy, api.Errno) = lang.Parse
	_ func(api.Policy) bool                = lang.Right
	_ func(api.Policy) string              = lang.Print
	_ func(api.Policy) api.Errno           = lang.Check
	_ func(api.Policy, []uint64) int       = lang.Which

	_ func(*topo.Topo, api.Dfa, int, ...int) (*prod.Map, api.Errno) = prod.New
	_ func(*prod.Map, int, int) (float64, int)                      = (*prod.Map).Dist
	_ func(*prod.Map, int, int) (int, int, int)                     = (*prod.Map).Next
	_ func(*prod.Map, int) ([]int, api.Errno)                       = (*prod.Map).Way

	_ func(*topo.Topo, ...plan.Job) (plan.Plan, api.Errno)        = plan.Make
	_ func(*topo.Topo, plan.Plan, int, ...int) ([]int, api.Errno) = plan.Follow

	_ func(api.Cube, ...api.Test) (api.Cube, bool)                      = code.Meet
	_ func(*topo.Topo, plan.Plan, ...code.Rule) ([][]string, api.Errno) = code.Make

	_ func(*topo.Topo, int, int) (*net.Net, api.Errno)         = net.New
	_ func(*net.Net, int, string) []string                     = (*net.Net).Tell
	_ func(*net.Net, int, bool) api.Errno                      = (*net.Net).Fail
	_ func(*net.Net, int)                                      = (*net.Net).Tick
	_ func(*net.Net, int, string, int, ...net.Fault) net.Trace = (*net.Net).Send
	_ func(*net.Net, int) string                               = (*net.Net).State

	_ func(string, int, []api.Link) (*maker.World, api.Errno)                       = maker.Compile
	_ func(*maker.World, int, api.Packet) int                                       = (*maker.World).Which
	_ func(*maker.World) []plan.Start                                               = (*maker.World).Starts
	_ func(*maker.World, int, []int) bool                                           = (*maker.World).Takes
	_ func(*maker.World, int, api.Packet, int, ...net.Fault) (net.Trace, api.Errno) = (*maker.World).Send
	_ func(*maker.World, int, bool) api.Errno                                       = (*maker.World).Fail
	_ func(*maker.World, int)                                                       = (*maker.World).Tick
	_ func(*maker.World, int) string                                                = (*maker.World).State
)
