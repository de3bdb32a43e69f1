/- Scn Scp Scl -/

namespace Go.Proofs.YtdjpjgjhiibpkaaGreatDoor.Scn
abbrev small (c:Int):Prop:=97≤c∧c≤122
def name (l:List Int):Bool:=decide (l.length=4∧65≤l.getD 0 0∧l.getD 0 0≤90∧small (l.getD 1 0)∧small (l.getD 2 0)∧small (l.getD 3 0))
end Go.Proofs.YtdjpjgjhiibpkaaGreatDoor.Scn
namespace Go.Proofs.YtdjpjgjhiibpkaaGreatDoor.Scn
end Go.Proofs.YtdjpjgjhiibpkaaGreatDoor.Scn
namespace Go.Proofs.YtdjpjgjhiibpkaaGreatDoor.Scn
end Go.Proofs.YtdjpjgjhiibpkaaGreatDoor.Scn
