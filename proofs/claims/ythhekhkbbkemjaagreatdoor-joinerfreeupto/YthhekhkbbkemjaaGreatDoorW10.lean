/- Scn Scp Scl -/

namespace Go.Proofs.YthhekhkbbkemjaaGreatDoor.Scn
abbrev small (c:Int):Prop:=97≤c∧c≤122
def name (l:List Int):Bool:=decide (l.length=4∧65≤l.getD 0 0∧l.getD 0 0≤90∧small (l.getD 1 0)∧small (l.getD 2 0)∧small (l.getD 3 0))
end Go.Proofs.YthhekhkbbkemjaaGreatDoor.Scn
namespace Go.Proofs.YthhekhkbbkemjaaGreatDoor.Scn
end Go.Proofs.YthhekhkbbkemjaaGreatDoor.Scn
namespace Go.Proofs.YthhekhkbbkemjaaGreatDoor.Scn
end Go.Proofs.YthhekhkbbkemjaaGreatDoor.Scn
