/- The program's trie keeps its contracts. -/
import Derived.Test.YtehdeipeehaejaaTrR4
import Derived.Test.YtehdeipeehaejaaTrH4
import Derived.Test.YtehdeipeehaejaaTrG4
namespace Go.Proofs.Ytehdeipeehaejaa
open Go.RowKit

theorem trieC : TrieC (fun w t rs d => ∃ B, T4 w B t rs d) := {
  below := fun ⟨B, h⟩ hb => ⟨B, h.below hb⟩
  build := fun v rs d w hv _ hd => (build4 v rs d w hv hd).mono fun e w' h => by
    obtain ⟨hb, ⟨h1, a, h2, h3⟩ | h⟩ := h
    · exact ⟨hb, .inl ⟨h1, a, h2, _, h3⟩⟩
    · exact ⟨hb, .inr h⟩
  get := fun t rs d c w h hc => get4 t rs d c w h hc
  blocks := fun t rs d w h => blocks4 t rs d w h
  same := fun t u rs ms d o w h k => same4 t u rs ms d o w h k
  default := fun t rs d w h => default4 t rs d w h
  ranges := fun t rs d w h => ranges4 t rs d w h
  index := fun t rs d w h => index4 t rs d w h
  block := fun t rs d i w h hi => block4 t rs d i w h hi
  sameNil := fun t rs d w h => sameNil4 t rs d w h }
theorem trieK : TrieK T4 := {
  weak := trieC
  keep := fun h hs hk => h.keep hs hk
  build := fun v rs d w hv _ hd => build4 v rs d w hv hd }
end Go.Proofs.Ytehdeipeehaejaa
