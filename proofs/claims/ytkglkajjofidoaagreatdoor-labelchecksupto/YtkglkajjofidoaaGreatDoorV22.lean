/- TiTrD4 TiTrV4 TiTrS4 TiTrC4 -/
import Derived.Test.YtkglkajjofidoaaGreatDoorV17
import Derived.Deep.AppendLies
import Derived.Deep.DrawnRows
import Derived.Deep.OwnRows
import Derived.Deep.RegionHeld3
import Derived.Great.BuildSlice
set_option maxHeartbeats 4000000
set_option maxRecDepth 50000
namespace Go.Proofs.YtkglkajjofidoaaGreatDoor.Ti
open Go.Proofs.Tryz
open Go.RowKit
theorem Sz.cut {sz len l h m:Nat} {w:World} {ao:Option Addr} {cap:Nat} {us:List Value} (hs:Sz sz w (.slice ao len cap) len us) (h1:l<=h) (h2:h<=len) (h3:h<=m) (h4:m<=cap) :
  Sz sz w (sliced ao l h m sz) (h - l) ((us.drop (l * sz)).take ((h - l) * sz)):=by
 obtain ⟨b1,b2,b3⟩:=hs;have e1:(h - l) * sz+l * sz=h * sz:=(by rw [<- Nat.add_mul]; congr 1; omega);have e2:h * sz<=len * sz:=Nat.mul_le_mul_right _ h2;refine ⟨by simp; omega,by omega,?_⟩;rcases b3 with ⟨rfl,ao',cap',hv,hm,hnil⟩ | ⟨b,off,cap',hv,hl,hm,hc⟩
 ·simp only [Value.slice.injEq] at hv;obtain ⟨rfl,_,rfl⟩:=hv;refine .inl ⟨by omega,(if m=l then ao else ao.map (·.add (l * sz))),m - l,?_,by omega,fun hn=>?_⟩
  ·have:h - l=0:=(by omega);simp only [sliced,this]
  ·split at hn
   ·omega
   ·have:=hnil (by simpa using hn);omega
 ·simp only [Value.slice.injEq] at hv;obtain ⟨rfl,_,rfl⟩:=hv;by_cases he:h=l
  ·refine .inl ⟨by omega,(if m=l then some ⟨b,off,none⟩ else (some ⟨b,off,none⟩:Option Addr).map (·.add (l * sz))),m - l,?_,by omega,fun hn=>?_⟩
   ·have:h - l=0:=(by omega);simp only [sliced,this]
   ·split at hn <;> simp at hn
  ·refine .inr ⟨b,off+l * sz,m - l,?_,by omega,by omega,fun i hi=>?_⟩
   ·have:¬ m=l:=(by omega);simp only [sliced,this,if_false,Option.map_some,addr_add]
   ·rw [Nat.add_assoc,hc (l * sz+i) (by omega)];simp [List.getD,List.getElem?_take_of_lt hi,List.getElem?_drop]
theorem x9A (rs:List Tri.Rg) (k:Nat):(rcells rs).drop (k * 3)=rcells (rs.drop k):=by
 induction k generalizing rs with
 | zero=>simp
 | succ k ih =>
  cases rs with
  | nil=>simp [rcells]
  | cons r rs =>
   have:(k+1) * 3=3+k * 3:=(by omega);simp only [rcells,List.drop_succ_cons];rw [this,<- List.drop_drop,<- ih rs];rfl
theorem Sr.cut {w:World} {ao:Option Addr} {len cap l h m:Nat} {rs:List Tri.Rg} (hs:Sr w (.slice ao len cap) rs) (hl:len=rs.length) (h1:l<=h) (h2:h<=len) (h3:h<=m) (h4:m<=cap) :
  Sr w (sliced ao l h m 3) ((rs.drop l).take (h - l)):=by
 subst hl;have:=hs.2.cut h1 h2 h3 h4;rw [x9A,x9B] at this;have e:((rs.drop l).take (h - l)).length=h - l:=(by simp; omega);refine ⟨fun r hr=>hs.1 r (List.mem_of_mem_drop (List.mem_of_mem_take hr)),?_⟩;rw [e]; exact this
namespace Tri
theorem y6H {d c:Int} {rs:List Rg} (k:Nat) (h:∀ j,j<k->j<rs.length->hi (rs.getD j (0,0,0))<c):get d (rs.drop k) c=get d rs c:=by
 induction k generalizing rs with
 | zero=>rw [List.drop_zero]
 | succ k ih =>
  cases rs with
  | nil=>rfl
  | cons r rs =>
   have h0:=h 0 (by omega) (by simp);simp only [List.getD_cons_zero] at h0;rw [List.drop_succ_cons,x2y,if_neg (by omega)];refine ih fun j hj hl=>?_;have:=h (j+1) (by omega) (by simpa using hl);simpa using this
theorem y7P {b:Int} {rs:List Rg} (h:Val b rs) (k:Nat):Val b (rs.drop k):=by
 induction k generalizing rs b with
 | zero=>simpa using h
 | succ k ih =>
  cases rs with
  | nil=>trivial
  | cons r rs =>
   obtain ⟨h1,h2,h3,h4,h5,h6⟩:=h;rw [List.drop_succ_cons];exact (ih h6).mono (by omega)
end Tri
def x7s (w0 w:World) (rs:List Tri.Rg) (lo:Int) (e:Ending) (w':World):Prop :=
 w'=w/\∃ v' k,e=.returned v'/\Sr w0 v' (rs.drop k)/\k<=rs.length/\∀ j,j<k->Tri.hi (rs.getD j (0,0,0))<lo
theorem y4Y (v:Value) (rs:List Tri.Rg) (lo:Int) (w0 w:World) (hv:Sr w0 v rs) (aA:Bw w0 w) (br:Fi lo) :
  Calls prog 235 #[v,.int .i64 lo] w (x7s w0 w rs lo):=by
 obtain ⟨l1,l2⟩:=br;have a6:=hv.len;have HB:=O aA;clear aA;have HP:Hid (∀ u k,Sr w0 u (rs.drop k)->k<=rs.length->(∀ j,j<k->Tri.hi (rs.getD j (0,0,0))<lo)->x7s w0 w rs lo (.returned u) w):=fun u k h1 h2 h3=>⟨rfl,u,k,rfl,h1,h2,h3⟩;go_enter func235,ntmps235;go_wp2;go_loop [0] (fun u=>∃ k:Nat,Sr w0 u (rs.drop k)/\k<=rs.length/\∀ j,j<k->Tri.hi (rs.getD j (0,0,0))<lo) (fun u=>match u with | .slice _ n _=>n | _=>0)
 case atStart=>exact ⟨0,by simpa using hv,by omega,fun j hj=>by omega⟩
 case round =>
  clear hv;obtain ⟨k,hs,hk,hall⟩:=hrel;have HR:=O (V HP _ k hs hk hall);have bs:(rs.drop k).length=rs.length - k:=List.length_drop;rcases Nat.eq_zero_or_pos (rs.drop k).length with h0 | h0
  ·obtain ⟨ao,cap,rfl,c1,c2⟩:=hs.shape;rw [h0] at HR c1 ⊢;clear hs hall HP;go_wp2;go_ret;exact V HR
  ·have ah:=hs.1.at 0;have bh:=O hs;obtain ⟨b,off,cap,rfl,c1,c2,am⟩:=hs.place h0;obtain ⟨x0,x1,x2⟩:=am 0 h0;rw [<- (V HB).cell (x0a x1)] at x1;simp only [Nat.zero_mul,Nat.add_zero] at x0 x1 x2;have hcut:=(V bh).cut rfl (l:=1) (h:=(rs.drop k).length) (m:=cap) (by omega) (by omega) (by omega) (by omega)
   have e1:(((rs.drop k).drop 1).take ((rs.drop k).length - 1))=rs.drop (k+1):=by
    rw [List.drop_drop,List.take_of_length_le (by simp; omega)]
   have e2:(rs.drop k).getD 0 (0,0,0)=rs.getD k (0,0,0):=(by simp [List.getD,List.getElem?_drop]);rw [e1] at hcut;rw [e2] at x1 ah
   have HA:Hid (Tri.hi (rs.getD k (0,0,0))<lo->∀ j,j<k+1->Tri.hi (rs.getD j (0,0,0))<lo):=by
    intro hx j hj;by_cases h:j=k
    ·subst h; exact hx
    ·exact hall j (by omega)
   obtain ⟨_,⟨f1,f2⟩,_⟩:=ah;have hn1:1<=(rs.drop k).length:=h0;have hkl:k<rs.length:=(by omega);have HC:=O hcut;clear hs bh am hall hcut x0 x2 e1 e2 bs;generalize Tri.hi (rs.getD k (0,0,0))=h at *;generalize (rs.drop k).length=n at *;by_cases a:h<lo
   ·have bi:=O (V HA a);clear HA HR;go_wp2;go_round
    case rel=>exact ⟨k+1,V HC,by omega,V bi⟩
    case measure=>simp; omega
   ·clear HA HP;go_wp2;go_ret;exact V HR
end Go.Proofs.YtkglkajjofidoaaGreatDoor.Ti
namespace Go.Proofs.YtkglkajjofidoaaGreatDoor.Ti
open Go.Proofs.Tryz
open Go.RowKit
def Bk (w:World) (g:Nat) (zs:List Int):Prop:=w.heap[g]?=some (.cells (arrA zs) 109 (0,0))
theorem Bk.lt {w:World} {g:Nat} {zs:List Int} (h:Bk w g zs):g<w.heap.size:=(Array.getElem?_eq_some_iff.1 h).1
theorem Bk.cell {w:World} {g:Nat} {zs:List Int} (h:Bk w g zs) {i:Nat} (hi:i<zs.length):w.cell? ⟨g,i,none⟩=some (.int .u16 (zs.getD i 0)):=by
 unfold Bk at h;simp only [World.cell?,h];simp [arrA,List.getD,hi]
theorem Bk.frozen {w:World} {g:Nat} {zs:List Int} (h:Bk w g zs) (i:Nat):w.frozen? ⟨g,i,none⟩=false:=by
 unfold Bk at h;simp [World.frozen?,h]
theorem Bk.set {w:World} {g:Nat} {zs:List Int} (h:Bk w g zs) (i:Nat) (v:Int):Bk (w.setCell ⟨g,i,none⟩ (.int .u16 v)) g (zs.set i v):=by
 unfold Bk at h ⊢;rw [heap_setCell_same w g i _ _ _ h];simp [arrA,List.map_set]
theorem Bk.other {w:World} {g:Nat} {zs:List Int} (h:Bk w g zs) {a:Addr} (a8:g≠a.block) (v:Value):Bk (w.setCell a v) g zs:=by
 unfold Bk at h ⊢;rw [heap_setCell_other w a g v a8]; exact h
theorem Bk.box {w:World} {g:Nat} {zs:List Int} (h:Bk w g zs):Box w g zs:=fun j v hv=>by
 have hj:j<zs.length:=(by have:=(List.getElem?_eq_some_iff.1 hv).1; simpa using this);rw [Nat.zero_add,h.cell hj];rw [List.getElem?_map,List.getElem?_eq_getElem hj] at hv;simp only [Option.map_some,Option.some.injEq] at hv;rw [<- hv]; simp [List.getD,hj]
theorem Bk.new (w:World) (zs:List Int) (C:Array Value) (hC:C=arrA zs):Bk (w.alloc (.cells C 109)) w.heap.size zs:=by
 subst hC;exact heap_alloc_last w _
theorem Bk.alloc {w:World} {g:Nat} {zs:List Int} (h:Bk w g zs) (o:Obj):Bk (w.alloc o) g zs:=by
 have hl:=h.lt;unfold Bk at h ⊢;rw [Below.heap_alloc w o g hl]; exact h
theorem Bk.there {w:World} {g:Nat} {zs:List Int} (h:Bk w g zs):w.there g 0 zs.length:=fun j hj=>by
 rw [Nat.zero_add];exact ⟨by rw [h.cell hj]; rfl,h.frozen j⟩
theorem y4g:(prog.info? 109).map (·.size)=some 64:=by kernel_rfl
def Rb (w:World) (g:Nat) (l h x:Int):Prop:=w.heap[g]?=some (.cells #[.int .i64 l,.int .i64 h,.int .i64 x] 208 (0,0))
theorem Rb.cells {w:World} {g:Nat} {l h x:Int} (hr:Rb w g l h x):w.cell? ⟨g,0,none⟩=some (.int .i64 l)/\w.cell? ⟨g,1,none⟩=some (.int .i64 h)/\w.cell? ⟨g,2,none⟩=some (.int .i64 x) :=
 ⟨by rw [cell_of_row _ _ _ _ _ _ hr]; rfl,by rw [cell_of_row _ _ _ _ _ _ hr]; rfl,by rw [cell_of_row _ _ _ _ _ _ hr]; rfl⟩
theorem Rb.other {w:World} {g:Nat} {l h x:Int} (hr:Rb w g l h x) {a:Addr} (a8:g≠a.block) (v:Value):Rb (w.setCell a v) g l h x:=by
 unfold Rb at hr ⊢;rw [heap_setCell_other w a g v a8]; exact hr
namespace Tri
theorem y3X {b d c:Int} {rs:List Rg} (hv:Val b rs) (k:Nat) (hk:k<rs.length) (hc:c<lo (rs.getD k (0,0,0))):get d rs c=get d (rs.take k) c:=by
 induction rs generalizing b k with
 | nil=>simp at hk
 | cons r rs ih =>
  obtain ⟨h1,h2,h3,h4,h5,h6⟩:=hv
  cases k with
  | zero =>
   simp only [List.getD_cons_zero] at hc;have h7:Val (lo r) (r :: rs):=⟨Int.le_refl _,h2,h3,h4,h5,h6⟩;rw [x7Q h7 hc]; rfl
  | succ k =>
   simp only [List.take_succ_cons,x2y];rw [ih h6 k (by simpa using hk) (by simpa using hc)]
end Tri
theorem y6g (f:Int->Int) (p:Nat) (aa:Int) (h0:aa=(p:Int) * 64) (zs:List Int) (hl:zs.length=64) (h:∀ j:Nat,j<64->zs.getD j 0=f (aa+(j:Int))):zs=Tri.blk f p :=
 y9c f p zs hl fun j hj=>by rw [h j hj,show aa+(j:Int)=((64 * p+j:Nat):Int) by omega]
theorem z0E (v:Value) (rs:List Tri.Rg) (d:Int) (p:Nat) (w:World) (hv:Sr w v rs) (hval:Tri.Val 0 rs) (hd:0<=d/\d<=65535) (hp:p<17408) :
  Calls prog 236 #[v,.int .i64 ((p:Int) * 64),.int .i64 d] w (y2I w (Tri.blk (Tri.get d rs) p)):=by
 obtain ⟨bo,bp⟩:=hd;obtain ⟨aa,av⟩:∃ l:Int,l=(p:Int) * 64:=⟨_,rfl⟩;have HX:=O (y6g (Tri.get d rs) p aa av);have z1:0<=aa:=(by omega);have z2:aa<=1114048:=(by omega);rw [<- av];clear av;have HV:=O hval;have aN:=O hv;have a6:=hv.len;obtain ⟨ao,cap,rfl,aU,aV⟩:=hv.shape;have bb:Hid (∀ c,Tri.get d (rs.take 0) c=d):=fun c=>rfl;have aO:Hid (∀ c,Tri.get d (rs.take rs.length) c=Tri.get d rs c):=fun c=>(by rw [List.take_length]);have aP:Hid (∀ (k:Nat),k<rs.length->∀ c,c<Tri.lo (rs.getD k (0,0,0))->Tri.get d rs c=Tri.get d (rs.take k) c):=fun k hk c hc=>Tri.y3X hval k hk hc;clear hv hval;generalize Tri.blk (Tri.get d rs) p=res at *;go_enter func236,ntmps236;go_wp2;have hA:Bw w ((w.alloc (.cells #[.int .u16 0,.int .u16 0,.int .u16 0,.int .u16 0,.int .u16 0,.int .u16 0,.int .u16 0,.int .u16 0,.int .u16 0,.int .u16 0,.int .u16 0,.int .u16 0,.int .u16 0,.int .u16 0,.int .u16 0,.int .u16 0,.int .u16 0,.int .u16 0,.int .u16 0,.int .u16 0,.int .u16 0,.int .u16 0,.int .u16 0,.int .u16 0,.int .u16 0,.int .u16 0,.int .u16 0,.int .u16 0,.int .u16 0,.int .u16 0,.int .u16 0,.int .u16 0,.int .u16 0,.int .u16 0,.int .u16 0,.int .u16 0,.int .u16 0,.int .u16 0,.int .u16 0,.int .u16 0,.int .u16 0,.int .u16 0,.int .u16 0,.int .u16 0,.int .u16 0,.int .u16 0,.int .u16 0,.int .u16 0,.int .u16 0,.int .u16 0,.int .u16 0,.int .u16 0,.int .u16 0,.int .u16 0,.int .u16 0,.int .u16 0,.int .u16 0,.int .u16 0,.int .u16 0,.int .u16 0,.int .u16 0,.int .u16 0,.int .u16 0,.int .u16 0] 109)).alloc (.cells #[.int .u16 0,.int .u16 0,.int .u16 0,.int .u16 0,.int .u16 0,.int .u16 0,.int .u16 0,.int .u16 0,.int .u16 0,.int .u16 0,.int .u16 0,.int .u16 0,.int .u16 0,.int .u16 0,.int .u16 0,.int .u16 0,.int .u16 0,.int .u16 0,.int .u16 0,.int .u16 0,.int .u16 0,.int .u16 0,.int .u16 0,.int .u16 0,.int .u16 0,.int .u16 0,.int .u16 0,.int .u16 0,.int .u16 0,.int .u16 0,.int .u16 0,.int .u16 0,.int .u16 0,.int .u16 0,.int .u16 0,.int .u16 0,.int .u16 0,.int .u16 0,.int .u16 0,.int .u16 0,.int .u16 0,.int .u16 0,.int .u16 0,.int .u16 0,.int .u16 0,.int .u16 0,.int .u16 0,.int .u16 0,.int .u16 0,.int .u16 0,.int .u16 0,.int .u16 0,.int .u16 0,.int .u16 0,.int .u16 0,.int .u16 0,.int .u16 0,.int .u16 0,.int .u16 0,.int .u16 0,.int .u16 0,.int .u16 0,.int .u16 0,.int .u16 0] 109)):=((Below.refl _ w).alloc (l0r _) _).alloc (by simp) _;have aL:Bk ((w.alloc (.cells #[.int .u16 0,.int .u16 0,.int .u16 0,.int .u16 0,.int .u16 0,.int .u16 0,.int .u16 0,.int .u16 0,.int .u16 0,.int .u16 0,.int .u16 0,.int .u16 0,.int .u16 0,.int .u16 0,.int .u16 0,.int .u16 0,.int .u16 0,.int .u16 0,.int .u16 0,.int .u16 0,.int .u16 0,.int .u16 0,.int .u16 0,.int .u16 0,.int .u16 0,.int .u16 0,.int .u16 0,.int .u16 0,.int .u16 0,.int .u16 0,.int .u16 0,.int .u16 0,.int .u16 0,.int .u16 0,.int .u16 0,.int .u16 0,.int .u16 0,.int .u16 0,.int .u16 0,.int .u16 0,.int .u16 0,.int .u16 0,.int .u16 0,.int .u16 0,.int .u16 0,.int .u16 0,.int .u16 0,.int .u16 0,.int .u16 0,.int .u16 0,.int .u16 0,.int .u16 0,.int .u16 0,.int .u16 0,.int .u16 0,.int .u16 0,.int .u16 0,.int .u16 0,.int .u16 0,.int .u16 0,.int .u16 0,.int .u16 0,.int .u16 0,.int .u16 0] 109)).alloc (.cells #[.int .u16 0,.int .u16 0,.int .u16 0,.int .u16 0,.int .u16 0,.int .u16 0,.int .u16 0,.int .u16 0,.int .u16 0,.int .u16 0,.int .u16 0,.int .u16 0,.int .u16 0,.int .u16 0,.int .u16 0,.int .u16 0,.int .u16 0,.int .u16 0,.int .u16 0,.int .u16 0,.int .u16 0,.int .u16 0,.int .u16 0,.int .u16 0,.int .u16 0,.int .u16 0,.int .u16 0,.int .u16 0,.int .u16 0,.int .u16 0,.int .u16 0,.int .u16 0,.int .u16 0,.int .u16 0,.int .u16 0,.int .u16 0,.int .u16 0,.int .u16 0,.int .u16 0,.int .u16 0,.int .u16 0,.int .u16 0,.int .u16 0,.int .u16 0,.int .u16 0,.int .u16 0,.int .u16 0,.int .u16 0,.int .u16 0,.int .u16 0,.int .u16 0,.int .u16 0,.int .u16 0,.int .u16 0,.int .u16 0,.int .u16 0,.int .u16 0,.int .u16 0,.int .u16 0,.int .u16 0,.int .u16 0,.int .u16 0,.int .u16 0,.int .u16 0] 109)) w.heap.size Zs:=(Bk.new w Zs _ rfl).alloc _
 have aM:Bk ((w.alloc (.cells #[.int .u16 0,.int .u16 0,.int .u16 0,.int .u16 0,.int .u16 0,.int .u16 0,.int .u16 0,.int .u16 0,.int .u16 0,.int .u16 0,.int .u16 0,.int .u16 0,.int .u16 0,.int .u16 0,.int .u16 0,.int .u16 0,.int .u16 0,.int .u16 0,.int .u16 0,.int .u16 0,.int .u16 0,.int .u16 0,.int .u16 0,.int .u16 0,.int .u16 0,.int .u16 0,.int .u16 0,.int .u16 0,.int .u16 0,.int .u16 0,.int .u16 0,.int .u16 0,.int .u16 0,.int .u16 0,.int .u16 0,.int .u16 0,.int .u16 0,.int .u16 0,.int .u16 0,.int .u16 0,.int .u16 0,.int .u16 0,.int .u16 0,.int .u16 0,.int .u16 0,.int .u16 0,.int .u16 0,.int .u16 0,.int .u16 0,.int .u16 0,.int .u16 0,.int .u16 0,.int .u16 0,.int .u16 0,.int .u16 0,.int .u16 0,.int .u16 0,.int .u16 0,.int .u16 0,.int .u16 0,.int .u16 0,.int .u16 0,.int .u16 0,.int .u16 0] 109)).alloc (.cells #[.int .u16 0,.int .u16 0,.int .u16 0,.int .u16 0,.int .u16 0,.int .u16 0,.int .u16 0,.int .u16 0,.int .u16 0,.int .u16 0,.int .u16 0,.int .u16 0,.int .u16 0,.int .u16 0,.int .u16 0,.int .u16 0,.int .u16 0,.int .u16 0,.int .u16 0,.int .u16 0,.int .u16 0,.int .u16 0,.int .u16 0,.int .u16 0,.int .u16 0,.int .u16 0,.int .u16 0,.int .u16 0,.int .u16 0,.int .u16 0,.int .u16 0,.int .u16 0,.int .u16 0,.int .u16 0,.int .u16 0,.int .u16 0,.int .u16 0,.int .u16 0,.int .u16 0,.int .u16 0,.int .u16 0,.int .u16 0,.int .u16 0,.int .u16 0,.int .u16 0,.int .u16 0,.int .u16 0,.int .u16 0,.int .u16 0,.int .u16 0,.int .u16 0,.int .u16 0,.int .u16 0,.int .u16 0,.int .u16 0,.int .u16 0,.int .u16 0,.int .u16 0,.int .u16 0,.int .u16 0,.int .u16 0,.int .u16 0,.int .u16 0,.int .u16 0] 109)) (w.heap.size+1) Zs:=by
  have:=Bk.new (w.alloc (.cells #[.int .u16 0,.int .u16 0,.int .u16 0,.int .u16 0,.int .u16 0,.int .u16 0,.int .u16 0,.int .u16 0,.int .u16 0,.int .u16 0,.int .u16 0,.int .u16 0,.int .u16 0,.int .u16 0,.int .u16 0,.int .u16 0,.int .u16 0,.int .u16 0,.int .u16 0,.int .u16 0,.int .u16 0,.int .u16 0,.int .u16 0,.int .u16 0,.int .u16 0,.int .u16 0,.int .u16 0,.int .u16 0,.int .u16 0,.int .u16 0,.int .u16 0,.int .u16 0,.int .u16 0,.int .u16 0,.int .u16 0,.int .u16 0,.int .u16 0,.int .u16 0,.int .u16 0,.int .u16 0,.int .u16 0,.int .u16 0,.int .u16 0,.int .u16 0,.int .u16 0,.int .u16 0,.int .u16 0,.int .u16 0,.int .u16 0,.int .u16 0,.int .u16 0,.int .u16 0,.int .u16 0,.int .u16 0,.int .u16 0,.int .u16 0,.int .u16 0,.int .u16 0,.int .u16 0,.int .u16 0,.int .u16 0,.int .u16 0,.int .u16 0,.int .u16 0] 109)) Zs _ rfl;rwa [show (w.alloc (.cells #[.int .u16 0,.int .u16 0,.int .u16 0,.int .u16 0,.int .u16 0,.int .u16 0,.int .u16 0,.int .u16 0,.int .u16 0,.int .u16 0,.int .u16 0,.int .u16 0,.int .u16 0,.int .u16 0,.int .u16 0,.int .u16 0,.int .u16 0,.int .u16 0,.int .u16 0,.int .u16 0,.int .u16 0,.int .u16 0,.int .u16 0,.int .u16 0,.int .u16 0,.int .u16 0,.int .u16 0,.int .u16 0,.int .u16 0,.int .u16 0,.int .u16 0,.int .u16 0,.int .u16 0,.int .u16 0,.int .u16 0,.int .u16 0,.int .u16 0,.int .u16 0,.int .u16 0,.int .u16 0,.int .u16 0,.int .u16 0,.int .u16 0,.int .u16 0,.int .u16 0,.int .u16 0,.int .u16 0,.int .u16 0,.int .u16 0,.int .u16 0,.int .u16 0,.int .u16 0,.int .u16 0,.int .u16 0,.int .u16 0,.int .u16 0,.int .u16 0,.int .u16 0,.int .u16 0,.int .u16 0,.int .u16 0,.int .u16 0,.int .u16 0,.int .u16 0] 109)).heap.size=w.heap.size+1 by simp] at this
 generalize (w.alloc (.cells #[.int .u16 0,.int .u16 0,.int .u16 0,.int .u16 0,.int .u16 0,.int .u16 0,.int .u16 0,.int .u16 0,.int .u16 0,.int .u16 0,.int .u16 0,.int .u16 0,.int .u16 0,.int .u16 0,.int .u16 0,.int .u16 0,.int .u16 0,.int .u16 0,.int .u16 0,.int .u16 0,.int .u16 0,.int .u16 0,.int .u16 0,.int .u16 0,.int .u16 0,.int .u16 0,.int .u16 0,.int .u16 0,.int .u16 0,.int .u16 0,.int .u16 0,.int .u16 0,.int .u16 0,.int .u16 0,.int .u16 0,.int .u16 0,.int .u16 0,.int .u16 0,.int .u16 0,.int .u16 0,.int .u16 0,.int .u16 0,.int .u16 0,.int .u16 0,.int .u16 0,.int .u16 0,.int .u16 0,.int .u16 0,.int .u16 0,.int .u16 0,.int .u16 0,.int .u16 0,.int .u16 0,.int .u16 0,.int .u16 0,.int .u16 0,.int .u16 0,.int .u16 0,.int .u16 0,.int .u16 0,.int .u16 0,.int .u16 0,.int .u16 0,.int .u16 0] 109)).alloc (.cells #[.int .u16 0,.int .u16 0,.int .u16 0,.int .u16 0,.int .u16 0,.int .u16 0,.int .u16 0,.int .u16 0,.int .u16 0,.int .u16 0,.int .u16 0,.int .u16 0,.int .u16 0,.int .u16 0,.int .u16 0,.int .u16 0,.int .u16 0,.int .u16 0,.int .u16 0,.int .u16 0,.int .u16 0,.int .u16 0,.int .u16 0,.int .u16 0,.int .u16 0,.int .u16 0,.int .u16 0,.int .u16 0,.int .u16 0,.int .u16 0,.int .u16 0,.int .u16 0,.int .u16 0,.int .u16 0,.int .u16 0,.int .u16 0,.int .u16 0,.int .u16 0,.int .u16 0,.int .u16 0,.int .u16 0,.int .u16 0,.int .u16 0,.int .u16 0,.int .u16 0,.int .u16 0,.int .u16 0,.int .u16 0,.int .u16 0,.int .u16 0,.int .u16 0,.int .u16 0,.int .u16 0,.int .u16 0,.int .u16 0,.int .u16 0,.int .u16 0,.int .u16 0,.int .u16 0,.int .u16 0,.int .u16 0,.int .u16 0,.int .u16 0,.int .u16 0] 109)=wz at *;obtain ⟨g6,aW⟩:∃ g6,g6=w.heap.size:=⟨_,rfl⟩;obtain ⟨g7,aX⟩:∃ g7,g7=w.heap.size+1:=⟨_,rfl⟩;rw [<- aW] at aL;rw [<- aX] at aM;have h67:g6≠g7:=(by omega);have aD:w.heap.size<=g6:=(by omega);have au:w.heap.size<=g7:=(by omega);rw [<- aX,<- aW];clear aW aX;obtain ⟨Z,hZ⟩:∃ Z,Z=Zs:=⟨_,rfl⟩;rw [<- hZ] at aL aM;have bl:Z.length=64:=(by rw [hZ]; exact z0S);clear hZ;go_loopw [13] (fun i wr=>∃ (k:Nat) (zs:List Int),i=.int .i64 k/\k<=64/\zs.length=64/\Bk wr g7 zs/\Bk wr g6 Z/\Bw w wr/\∀ j,j<k->zs.getD j 0=d) (fun i _=>64 - (intOf i).toNat)
 case atStart=>exact ⟨0,Z,rfl,by omega,bl,aM,aL,hA,fun j hj=>by omega⟩
 case round =>
  clear hA aL aM;obtain ⟨k,zs,rfl,hk,ad,hz,ae,ab,hall⟩:=hrel;by_cases hlt:k<64
  ·have hc:=hz.cell (i:=k) (by omega);have hf:=hz.frozen k;have az:=hz.set k d;have af:=ae.other (a:=⟨g7,k,none⟩) h67 (.int .u16 d);have ar:=ab.setCell (p:=⟨g7,k,none⟩) au (.int .u16 d)
   have ac:Hid (∀ j,j<k+1->(zs.set k d).getD j 0=d):=by
    intro j hj;rw [x5r zs k j d (by omega)];split
    ·rfl
    ·exact hall j (by omega)
   have aG:(0:Int)<=(k:Int):=(by omega);have aH:(k:Int)<64:=(by omega);generalize zs.getD k 0=old at *;clear hall hz ae ab;go_wp2
   go_roundw
   case rel=>exact ⟨k+1,zs.set k d,by go_num,by omega,by simp [ad],az,af,ar,V ac⟩
   case measure=>simp [intOf]; omega
  ·obtain rfl:k=64:=(by omega);have ap:Hid (∀ j,j<64->zs.getD j 0=Tri.get d (rs.take 0) (aa+(j:Nat))):=fun j hj=>(by rw [hall j hj,(V bb)]);clear hall bb;go_wp2;go_loopw [11,12,25] (fun _ _ i wr=>∃ (k:Nat) (zs:List Int),i=.int .i64 k/\k<=rs.length/\zs.length=64/\Bk wr g7 zs/\Bk wr g6 Z/\Bw w wr/\∀ j,j<64->zs.getD j 0=Tri.get d (rs.take k) (aa+(j:Nat))) (fun _ _ i _=>rs.length - (intOf i).toNat)
   case atStart=>exact ⟨0,zs,rfl,by omega,ad,hz,ae,ab,V ap⟩
   case round =>
    clear hz ae ab ap ad;obtain ⟨k,zs,rfl,hk,ad,hz,ae,ab,hall⟩:=hrel;by_cases hlt:k<rs.length
    ·have bd:=fun c=>Tri.y6I (d:=d) (c:=c) (V HV) k hlt;have aq:=O (V aP k hlt);obtain ⟨b1,b2,b3,b4,b5⟩:=z2D (V HV) (Int.le_refl _) k hlt;obtain ⟨bx,a9,bk,aJ,_,_,am⟩:=(V aN).place (by omega);simp only [Value.slice.injEq] at aJ;obtain ⟨rfl,_,rfl⟩:=aJ;obtain ⟨c0,c1,c2⟩:=am k hlt;rw [<- ab.cell (x0a c0)] at c0;rw [<- ab.cell (x0a c1)] at c1;rw [<- ab.cell (x0a c2)] at c2;have aQ:=O bd;have aK:=O hall;clear am bd hall;generalize Tri.lo (rs.getD k (0,0,0))=lo at *;generalize Tri.hi (rs.getD k (0,0,0))=hi at *;generalize Tri.vl (rs.getD k (0,0,0))=vv at *;have ax:=ab.size;have ag:Rb (wr.alloc (.cells #[.int .i64 lo,.int .i64 hi,.int .i64 vv] 208)) wr.heap.size lo hi vv:=heap_alloc_last wr _;have hz:=hz.alloc (.cells #[.int .i64 lo,.int .i64 hi,.int .i64 vv] 208);have ae:=ae.alloc (.cells #[.int .i64 lo,.int .i64 hi,.int .i64 vv] 208);have an:Bw w (wr.alloc (.cells #[.int .i64 lo,.int .i64 hi,.int .i64 vv] 208)):=ab.alloc ax _;obtain ⟨gr,aF⟩:∃ gr,gr=wr.heap.size:=⟨_,rfl⟩;have hr7:gr≠g7:=(by have h1:=‹Bk wr g7 zs›.lt; omega);by_cases hbr:aa+64<=lo
     ·have ai:Hid (∀ j,j<64->zs.getD j 0=Tri.get d rs (aa+(j:Nat))):=fun j hj=>(by rw [V aK j hj,V aq _ (by omega)]);clear aK aQ aP aq aF hr7;have aw:=V HX zs ad (V ai);subst aw;clear ai HX;go_upto_region 17 with fail;generalize wr.alloc (.cells #[.int .i64 lo,.int .i64 hi,.int .i64 vv] 208)=wa at *;refine wp_region_list ?_;refine wpList_load_mid (by rfl) 109 (.tmp 7) (by rfl) g7 0 (by rfl) (zs.map (Value.int .u16)) _ hz.box underlying109 (by rfl) (x4T ad) ?_;have aR:Z.length=zs.length:=by omega
      have ay:wa.there g6 0 (zs.map (Value.int .u16)).toArray.size:=by
       have:=ae.there;rw [aR] at this;simpa using this
      refine wpList_store_mid (by rfl) 109 (.tmp 6) (.tmp 54) (by rfl) g6 0 (zs.map (Value.int .u16)).toArray (by rfl) (by rfl) ay (by rw [show (zs.map (Value.int .u16)).toArray.size=64 by simp [ad]]; exact y4g) (x6s zs) ?_;have al:wa.there g6 0 (zs.map (Value.int .u16)).length:=(by simpa using ay);have aI:=World.rangeAt_setCells_same wa g6 0 (zs.map (Value.int .u16)) al;have aT:Bw w (wa.setCells g6 0 (zs.map (Value.int .u16))):=x0z aD _ _ _ an;have aZ:=run_loadVar_mid (P:=prog) _ g6 0 109 (zs.map (Value.int .u16)) _ aI underlying109 (by rfl) (x4T ad);clear hz ae ay al aI;generalize wa.setCells g6 0 (zs.map (Value.int .u16))=wf at *;go_wp2;exact bodyPost_ret (v:=.agg (arrA zs)) (x2e rfl _ _ _ g6 _ (by rfl) aZ) rfl ⟨rfl,aT⟩
     ·clear aq aO HX;by_cases hmx:lo<aa
      ·skip;go_wp2;generalize wr.alloc (.cells #[.int .i64 lo,.int .i64 hi,.int .i64 vv] 208)=wa at *;rw [<- aF] at ag ⊢;clear aF;go_loopw [12] (fun vc wr=>∃ (c:Int) (zs:List Int),vc=.int .i64 c/\lo<=c/\aa<=c/\c<=1114112/\zs.length=64/\Bk wr g7 zs/\Bk wr g6 Z/\Rb wr gr lo hi vv/\Bw w wr/\∀ j,j<64->zs.getD j 0=if lo<=aa+(j:Nat)/\aa+(j:Nat)<c/\aa+(j:Nat)<=hi then vv else Tri.get d (rs.take k) (aa+(j:Nat))) (fun vc _=>(1114112 - intOf vc).toNat)
       case atStart=>exact ⟨aa,zs,rfl,by omega,by omega,by omega,ad,hz,ae,ag,an,fun j hj=>by rw [if_neg (by omega)]; exact V aK j hj⟩
       case round =>
        clear hz ae ag an ad c0 c1 c2;obtain ⟨c,zs,rfl,aU,aV,bm,ad,hz,ae,ag,ab,hall⟩:=hrel;obtain ⟨c0,c1,c2⟩:=ag.cells;by_cases hin:c<=hi/\c<aa+64
        ·obtain ⟨q1,q2⟩:=hin;obtain ⟨i,bn⟩:∃ i:Nat,c - aa=(i:Int):=⟨(c - aa).toNat,by omega⟩;have aY:i<64:=(by omega);have am:=hz.cell (i:=i) (by omega);have bq:=hz.frozen i;have az:=hz.set i vv;have af:=ae.other (a:=⟨g7,i,none⟩) h67 (.int .u16 vv);have aj:=ag.other (a:=⟨g7,i,none⟩) hr7 (.int .u16 vv);have ar:=ab.setCell (p:=⟨g7,i,none⟩) au (.int .u16 vv)
         have ac:Hid (∀ j,j<64->(zs.set i vv).getD j 0=if lo<=aa+(j:Nat)/\aa+(j:Nat)<c+1/\aa+(j:Nat)<=hi then vv else Tri.get d (rs.take k) (aa+(j:Nat))):=by
          intro j hj;rw [x5r zs i j vv (by omega),hall j hj];by_cases hji:j=i
          ·rw [if_pos hji,if_pos (by omega)]
          ·rw [if_neg hji];by_cases hx:lo<=aa+(j:Nat)/\aa+(j:Nat)<c/\aa+(j:Nat)<=hi
           ·rw [if_pos hx,if_pos (by omega)]
           ·rw [if_neg hx,if_neg (by omega)]
         have aG:(0:Int)<=(i:Int):=(by omega);have aH:(i:Int)<64:=(by omega);generalize zs.getD i 0=old at *;clear hall hz ae ag;by_cases hmn:aa+64<hi+1
         ·go_wp2
          go_roundw
          case rel=>exact ⟨c+1,zs.set i vv,by go_num,by omega,by omega,by omega,by simp [ad],az,af,aj,ar,V ac⟩
          case measure=>simp [intOf]; omega
         ·have a7:c<hi+1:=(by omega);go_wp2
          go_roundw
          case rel=>exact ⟨c+1,zs.set i vv,by go_num,by omega,by omega,by omega,by simp [ad],az,af,aj,ar,V ac⟩
          case measure=>simp [intOf]; omega
        ·have ac:Hid (∀ j,j<64->zs.getD j 0=Tri.get d (rs.take (k+1)) (aa+(j:Nat))):=by
          intro j hj;rw [hall j hj,(V aQ)];by_cases hx:lo<=aa+(j:Nat)/\aa+(j:Nat)<=hi
          ·rw [if_pos hx,if_pos (by omega)]
          ·rw [if_neg hx,if_neg (by omega)]
         clear hall;by_cases hmn:aa+64<hi+1
         ·have hgt':¬ (c<aa+64):=(by omega);go_wp2
          go_roundw
          case rel=>first | exact ⟨_,_,.int .i64 ((k+1:Nat):Int),⟨k+1,rfl,by omega,zs,ad,hz,by simpa using V ac⟩,rfl,rfl,by go_num⟩ | exact ⟨k+1,zs,by go_num,by omega,ad,hz,ae,ab,V ac⟩ | exact ⟨k+1,by go_num,by omega,zs,ad,hz,by simpa using V ac⟩ | exact ⟨k+1,by go_num,by omega,zs,ad,hz,ae,by simpa using V ac⟩
          case measure=>simp [intOf]; omega
         ·have hgt':¬ (c<hi+1):=(by omega);go_wp2
          go_roundw
          case rel=>first | exact ⟨_,_,.int .i64 ((k+1:Nat):Int),⟨k+1,rfl,by omega,zs,ad,hz,by simpa using V ac⟩,rfl,rfl,by go_num⟩ | exact ⟨k+1,zs,by go_num,by omega,ad,hz,ae,ab,V ac⟩ | exact ⟨k+1,by go_num,by omega,zs,ad,hz,by simpa using V ac⟩ | exact ⟨k+1,by go_num,by omega,zs,ad,hz,ae,by simpa using V ac⟩
          case measure=>simp [intOf]; omega
      ·skip;go_wp2;generalize wr.alloc (.cells #[.int .i64 lo,.int .i64 hi,.int .i64 vv] 208)=wa at *;rw [<- aF] at ag ⊢;clear aF;go_loopw [12] (fun vc wr=>∃ (c:Int) (zs:List Int),vc=.int .i64 c/\lo<=c/\aa<=c/\c<=1114112/\zs.length=64/\Bk wr g7 zs/\Bk wr g6 Z/\Rb wr gr lo hi vv/\Bw w wr/\∀ j,j<64->zs.getD j 0=if lo<=aa+(j:Nat)/\aa+(j:Nat)<c/\aa+(j:Nat)<=hi then vv else Tri.get d (rs.take k) (aa+(j:Nat))) (fun vc _=>(1114112 - intOf vc).toNat)
       case atStart=>exact ⟨lo,zs,rfl,by omega,by omega,by omega,ad,hz,ae,ag,an,fun j hj=>by rw [if_neg (by omega)]; exact V aK j hj⟩
       case round =>
        clear hz ae ag an ad c0 c1 c2;obtain ⟨c,zs,rfl,aU,aV,bm,ad,hz,ae,ag,ab,hall⟩:=hrel;obtain ⟨c0,c1,c2⟩:=ag.cells;by_cases hin:c<=hi/\c<aa+64
        ·obtain ⟨q1,q2⟩:=hin;obtain ⟨i,bn⟩:∃ i:Nat,c - aa=(i:Int):=⟨(c - aa).toNat,by omega⟩;have aY:i<64:=(by omega);have am:=hz.cell (i:=i) (by omega);have bq:=hz.frozen i;have az:=hz.set i vv;have af:=ae.other (a:=⟨g7,i,none⟩) h67 (.int .u16 vv);have aj:=ag.other (a:=⟨g7,i,none⟩) hr7 (.int .u16 vv);have ar:=ab.setCell (p:=⟨g7,i,none⟩) au (.int .u16 vv)
         have ac:Hid (∀ j,j<64->(zs.set i vv).getD j 0=if lo<=aa+(j:Nat)/\aa+(j:Nat)<c+1/\aa+(j:Nat)<=hi then vv else Tri.get d (rs.take k) (aa+(j:Nat))):=by
          intro j hj;rw [x5r zs i j vv (by omega),hall j hj];by_cases hji:j=i
          ·rw [if_pos hji,if_pos (by omega)]
          ·rw [if_neg hji];by_cases hx:lo<=aa+(j:Nat)/\aa+(j:Nat)<c/\aa+(j:Nat)<=hi
           ·rw [if_pos hx,if_pos (by omega)]
           ·rw [if_neg hx,if_neg (by omega)]
         have aG:(0:Int)<=(i:Int):=(by omega);have aH:(i:Int)<64:=(by omega);generalize zs.getD i 0=old at *;clear hall hz ae ag;by_cases hmn:aa+64<hi+1
         ·go_wp2
          go_roundw
          case rel=>exact ⟨c+1,zs.set i vv,by go_num,by omega,by omega,by omega,by simp [ad],az,af,aj,ar,V ac⟩
          case measure=>simp [intOf]; omega
         ·have a7:c<hi+1:=(by omega);go_wp2
          go_roundw
          case rel=>exact ⟨c+1,zs.set i vv,by go_num,by omega,by omega,by omega,by simp [ad],az,af,aj,ar,V ac⟩
          case measure=>simp [intOf]; omega
        ·have ac:Hid (∀ j,j<64->zs.getD j 0=Tri.get d (rs.take (k+1)) (aa+(j:Nat))):=by
          intro j hj;rw [hall j hj,(V aQ)];by_cases hx:lo<=aa+(j:Nat)/\aa+(j:Nat)<=hi
          ·rw [if_pos hx,if_pos (by omega)]
          ·rw [if_neg hx,if_neg (by omega)]
         clear hall;by_cases hmn:aa+64<hi+1
         ·have hgt':¬ (c<aa+64):=(by omega);go_wp2
          go_roundw
          case rel=>first | exact ⟨_,_,.int .i64 ((k+1:Nat):Int),⟨k+1,rfl,by omega,zs,ad,hz,by simpa using V ac⟩,rfl,rfl,by go_num⟩ | exact ⟨k+1,zs,by go_num,by omega,ad,hz,ae,ab,V ac⟩ | exact ⟨k+1,by go_num,by omega,zs,ad,hz,by simpa using V ac⟩ | exact ⟨k+1,by go_num,by omega,zs,ad,hz,ae,by simpa using V ac⟩
          case measure=>simp [intOf]; omega
         ·have hgt':¬ (c<hi+1):=(by omega);go_wp2
          go_roundw
          case rel=>first | exact ⟨_,_,.int .i64 ((k+1:Nat):Int),⟨k+1,rfl,by omega,zs,ad,hz,by simpa using V ac⟩,rfl,rfl,by go_num⟩ | exact ⟨k+1,zs,by go_num,by omega,ad,hz,ae,ab,V ac⟩ | exact ⟨k+1,by go_num,by omega,zs,ad,hz,by simpa using V ac⟩ | exact ⟨k+1,by go_num,by omega,zs,ad,hz,ae,by simpa using V ac⟩
          case measure=>simp [intOf]; omega
    ·obtain rfl:k=rs.length:=(by omega);have ai:Hid (∀ j,j<64->zs.getD j 0=Tri.get d rs (aa+(j:Nat))):=fun j hj=>(by rw [hall j hj,(V aO)]);clear hall aP aO;have aw:=V HX zs ad (V ai);subst aw;clear ai HX;go_upto_region 17 with fail;refine wp_region_list ?_;refine wpList_load_mid (by rfl) 109 (.tmp 7) (by rfl) g7 0 (by rfl) (zs.map (Value.int .u16)) _ hz.box underlying109 (by rfl) (x4T ad) ?_;have aR:Z.length=zs.length:=by omega
     have ay:wr.there g6 0 (zs.map (Value.int .u16)).toArray.size:=by
      have:=ae.there;rw [aR] at this;simpa using this
     refine wpList_store_mid (by rfl) 109 (.tmp 6) (.tmp 54) (by rfl) g6 0 (zs.map (Value.int .u16)).toArray (by rfl) (by rfl) ay (by rw [show (zs.map (Value.int .u16)).toArray.size=64 by simp [ad]]; exact y4g) (x6s zs) ?_;have al:wr.there g6 0 (zs.map (Value.int .u16)).length:=(by simpa using ay);have aI:=World.rangeAt_setCells_same wr g6 0 (zs.map (Value.int .u16)) al;have aT:Bw w (wr.setCells g6 0 (zs.map (Value.int .u16))):=x0z aD _ _ _ ab;have aZ:=run_loadVar_mid (P:=prog) _ g6 0 109 (zs.map (Value.int .u16)) _ aI underlying109 (by rfl) (x4T ad);clear hz ae ay al aI;generalize wr.setCells g6 0 (zs.map (Value.int .u16))=wf at *;go_wp2;exact bodyPost_ret (v:=.agg (arrA zs)) (x2e rfl _ _ _ g6 _ (by rfl) aZ) rfl ⟨rfl,aT⟩
end Go.Proofs.YtkglkajjofidoaaGreatDoor.Ti
namespace Go.Proofs.YtkglkajjofidoaaGreatDoor.Ti
open Go.Proofs.Tryz
open Go.RowKit
section
variable {P:Program} {ba:Array Oper} {o:Oper} {a:Act} {w w':World} {K:Act->World->Prop} {Q:Exit->Act->World->Prop} {E:Prop}
theorem x1D (aC:o.guard=none) (ty:TypeId) (x:Operand) (ho:o.op=.load ty x) (pv v:Value) (hx:a.eval x=pv) (ak:(Instr.loadAt ty pv).run P w=.ok v w) (h:K (a.put o.dst v) w) :
  if Region.wanted o (yielded ba a.tmps)=true then Oper.wp P o a w K Q else E:=by
 rw [if_pos (by simp [Region.wanted,aC])];unfold Oper.wp execOp;simp only [ho,hx,Sem.run_bind,ak,Result.andThen_ok];exact h
theorem x3K (aC:o.guard=none) (ty:TypeId) (x y:Operand) (ho:o.op=.store ty x y) (pv v:Value) (hx:a.eval x=pv) (hy:a.eval y=v) (ak:(Instr.storeAt ty pv v).run P w=.ok () w') (h:K (a.put o.dst undef) w') :
  if Region.wanted o (yielded ba a.tmps)=true then Oper.wp P o a w K Q else E:=by
 rw [if_pos (by simp [Region.wanted,aC])];unfold Oper.wp execOp;simp only [ho,hx,hy,Sem.run_bind,ak,Result.andThen_ok];exact h
theorem x1S (aC:o.guard=none) (t:TypeId) (x:Operand) (ho:o.op=.buildSlice t 1 #[(0,x)]) (u v:Value) (hx:a.eval x=u) (ak:(Instr.buildSlice t 1 #[(0,u)]).run P w=.ok v w') (h:K (a.put o.dst v) w') :
  if Region.wanted o (yielded ba a.tmps)=true then Oper.wp P o a w K Q else E:=by
 rw [if_pos (by simp [Region.wanted,aC])];unfold Oper.wp execOp;have e:(#[((0:Nat),x)].map fun (i,x)=>(i,a.eval x))=#[(0,u)]:=(by simp [hx]);simp only [ho,e,Sem.run_bind,ak,Result.andThen_ok];exact h
end
end Go.Proofs.YtkglkajjofidoaaGreatDoor.Ti
namespace Go.Proofs.YtkglkajjofidoaaGreatDoor.Ti
open Go.Proofs.Tryz
open Go.RowKit
def okv (n:Int):Bool:=decide (0<=n/\n<=65535)
theorem okv_lo {n:Int} (h:n<0):okv n=false:=by unfold okv; rw [d0f]; omega
theorem okv_hi {n:Int} (h:65535<n):okv n=false:=by unfold okv; rw [d0f]; omega
theorem y8u {n:Int} (h:¬ n<0) (h2:¬ 65535<n):okv n=true:=by unfold okv; rw [d0t]; omega
theorem y0z (n:Int) (w:World) (hn:Fi n):Calls prog 234 #[.int .i64 n] w fun e w'=>e=.returned (.bool (okv n))/\w'=w:=by
 obtain ⟨h1,h2⟩:=hn;by_cases a1:n<0
 ·rw [okv_lo a1];go_enter func234,ntmps234;go_wp2;go_ret;exact ⟨rfl,rfl⟩
 ·by_cases a2:65535<n
  ·rw [okv_hi a2];have a3:¬ n<=65535:=(by omega);go_enter func234,ntmps234;go_wp2;go_ret;exact ⟨rfl,rfl⟩
  ·rw [y8u a1 a2];have a3:n<=65535:=(by omega);go_enter func234,ntmps234;go_wp2;go_ret;exact ⟨rfl,rfl⟩
theorem z1t (l h x b:Int) (w:World) (hl:Fi l) (hh:Fi h) (hx:Fi x) (hb:Fi b):Calls prog 233 #[.agg #[.int .i64 l,.int .i64 h,.int .i64 x],.int .i64 b] w (y8O w (Tri.bad (some b) (l,h,x))):=by
 have HV:=O (fun w'=>y0z x w' hx);obtain ⟨l1,l2⟩:=hl;obtain ⟨h1,h2⟩:=hh;obtain ⟨x1,x2⟩:=hx;obtain ⟨b1,b2⟩:=hb;have hA:Bw w (w.alloc (.cells #[.int .i64 l,.int .i64 h,.int .i64 x] 208)):=(b0r).alloc (l0r _) _;by_cases a1:l<0
 ·rw [x4F (r:=(l,h,x)) (.inl a1)];clear HV;go_enter func233,ntmps233;go_wp2;go_ret;exact ⟨rfl,hA⟩
 ·by_cases a2:1114111<h
  ·rw [x4F (r:=(l,h,x)) (.inr (.inl a2))];clear HV;go_enter func233,ntmps233;go_wp2;go_ret;exact ⟨rfl,hA⟩
  ·by_cases a3:h<l
   ·rw [x4F (r:=(l,h,x)) (.inr (.inr a3))];clear HV;go_enter func233,ntmps233;go_wp2;go_ret;exact ⟨rfl,hA⟩
   ·have hn:¬ (Tri.lo (l,h,x)<0\/1114111<Tri.hi (l,h,x)\/Tri.hi (l,h,x)<Tri.lo (l,h,x)):=(by simp only [Tri.z1J,Tri.z1B]; omega);by_cases a4:x<0\/65535<x
    ·rw [y2W hn a4];have hk:okv x=false:=(by rcases a4 with h | h; exact okv_lo h; exact okv_hi h);rw [hk] at HV;go_enter func233,ntmps233;go_wp2_with fail;refine (V HV _).mono ?_;rintro e w1 ⟨rfl,rfl⟩;clear HV;go_wp2;go_ret;exact ⟨rfl,hA⟩
    ·have hk:okv x=true:=y8u (by omega) (by omega);rw [hk] at HV;by_cases a5:l<=b
     ·rw [y2V hn a4 a5];go_enter func233,ntmps233;go_wp2_with fail;refine (V HV _).mono ?_;rintro e w1 ⟨rfl,rfl⟩;clear HV;go_wp2;go_ret;exact ⟨rfl,hA⟩
     ·rw [y5Z hn a4 a5];go_enter func233,ntmps233;go_wp2_with fail;refine (V HV _).mono ?_;rintro e w1 ⟨rfl,rfl⟩;clear HV;go_wp2;go_ret;exact ⟨rfl,hA⟩
def prz (rs:List Tri.Rg):Nat->Int
 | 0=>-1
 | k+1=>Tri.hi (rs.getD k (0,0,0))
theorem y8W (rs:List Tri.Rg) (k:Nat) (r:Tri.Rg):Tri.bad (some (prz rs k)) r=Tri.bad (prv rs k) r:=by
 cases k with
 | zero =>
  unfold Tri.bad prz prv;split
  ·rfl
  ·split
   ·rfl
   ·simp only; rw [if_neg (by omega)]
 | succ k=>rfl
theorem x9k (v:Value) (rs:List Tri.Rg) (d:Int) (w:World) (hv:Sr w v rs) (hd:Fi d) :
  Calls prog 195 #[v,.int .i64 d] w (x1V w (Tri.check d rs)):=by
 have hl:=hv.len;have HV:=O (fun w'=>y0z d w' hd);obtain ⟨bo,bp⟩:=hd
 have aB:Hid (∀ r,r=Tri.x1o d rs.length (prv rs rs.length) (rs.drop rs.length)->∀ wr,Bw w wr->(okv d=false->x1V w r (.returned (.tuple #[.int .i64 (rs.length:Int),.int .i64 42])) wr)/\(okv d=true->x1V w r (.returned (.tuple #[.int .i64 0,.int .i64 0])) wr)):=by
  intro r hr wr hb;rw [List.drop_length] at hr;simp only [Tri.x1o] at hr;refine ⟨fun h=>x1V.mk (by rw [hr,if_pos (by unfold okv at h; have:=of_decide_eq_false h; omega)]) hb,fun h=>x1V.mk (by rw [hr,if_neg (by unfold okv at h; have:=o0d h; omega)]) hb⟩
 have HG:Hid (Tri.x1o d 0 (prv rs 0) (rs.drop 0)=Tri.check d rs):=(by rw [List.drop_zero]; rfl);have ah:=O hv.1;have aN:=O hv;obtain ⟨ao,cap,rfl,aU,aV⟩:=hv.shape;clear hv;generalize Tri.check d rs=res at *;go_enter func195,ntmps195;go_wp2;go_loopw [6,12] (fun b i wr=>∃ k:Nat,i=.int .i64 k/\b=.int .i64 (prz rs k)/\k<=rs.length/\Bw w wr/\res=Tri.x1o d k (prv rs k) (rs.drop k)) (fun _ i _=>rs.length - (intOf i).toNat)
 case atStart=>exact ⟨0,rfl,rfl,by omega,b0r,(V HG).symm⟩
 case round =>
  obtain ⟨k,rfl,rfl,hk,ab,aE⟩:=hrel;by_cases hlt:k<rs.length
  ·obtain ⟨bx,a9,bk,aJ,_,_,am⟩:=(V aN).place (by omega);simp only [Value.slice.injEq] at aJ;obtain ⟨rfl,_,rfl⟩:=aJ;obtain ⟨c0,c1,c2⟩:=am k hlt;rw [<- ab.cell (x0a c0)] at c0;rw [<- ab.cell (x0a c1)] at c1;rw [<- ab.cell (x0a c2)] at c2;have hr:=(V ah).at k
   have bf:Fi (prz rs k):=by
    cases k with
    | zero=>simp [prz,Fi]
    | succ k=>exact ((V ah).at k).2.1
   have HF:=O (fun w'=>z1t (Tri.lo (rs.getD k (0,0,0))) (Tri.hi (rs.getD k (0,0,0))) (Tri.vl (rs.getD k (0,0,0))) (prz rs k) w' hr.1 hr.2.1 hr.2.2 bf);have bg:(Tri.lo (rs.getD k (0,0,0)),Tri.hi (rs.getD k (0,0,0)),Tri.vl (rs.getD k (0,0,0)))=rs.getD k (0,0,0):=rfl;have be:prz rs (k+1)=Tri.hi (rs.getD k (0,0,0)):=rfl;rw [y1r hlt,<- y8W] at aE;rw [bg] at HF;have HS:=O aE;have HN:=O be;obtain ⟨p1,p2⟩:=bf;obtain ⟨⟨f1,f2⟩,⟨f3,f4⟩,f5,f6⟩:=hr;clear aE am be bg
   have HK:Hid (∀ x,x=Tri.bad (some (prz rs k)) (rs.getD k (0,0,0))->x=0\/x=40\/x=41\/x=42):=by
    intro x hx; subst hx; unfold Tri.bad; split
    ·simp
    ·split
     ·simp
     ·simp only; split <;> simp
   generalize Tri.bad (some (prz rs k)) (rs.getD k (0,0,0))=q at *;generalize Tri.lo (rs.getD k (0,0,0))=l at *;generalize Tri.hi (rs.getD k (0,0,0))=h at *;generalize Tri.vl (rs.getD k (0,0,0))=x at *;have ax:=ab.size;have an:Bw w (wr.alloc (.cells #[.int .i64 l,.int .i64 h,.int .i64 x] 208)):=ab.alloc ax _;have bc:(wr.alloc (.cells #[.int .i64 l,.int .i64 h,.int .i64 x] 208)).cell? ⟨wr.heap.size,1,none⟩=some (.int .i64 h):=(by simp);go_wp2_with fail;refine (V HF _).mono ?_;rintro e w1 ⟨rfl,aS⟩;have aA:Bw w w1:=an.trans (aS.mono an.size);rw [<- aS.cell (x0a bc)] at bc;clear HF aS an ab c0 c1 c2;by_cases hq:q=0
   ·subst hq;have bj:=O ((V HS).trans (if_pos rfl));clear HS HK;go_wp2
    go_roundw
    case rel=>exact ⟨k+1,by go_num,by rw [V HN],by omega,aA,V bj⟩
    case measure=>simp [intOf]; omega
   ·have HR:x1V w res (.returned (.tuple #[.int .i64 (k:Int),.int .i64 q])) w1:=x1V.mk ((V HS).trans (if_neg hq)) aA;have hq':(q != 0)=true:=(by simp [hq]);clear HS HK;go_wp2;go_ret2;exact HR
  ·obtain rfl:k=rs.length:=(by omega);have HE:=V aB _ aE _ ab;clear aE HG aB aN ah
   cases ho:okv d with
   | false =>
    rw [ho] at HV HE;have HF:=HE.1 rfl;clear HE;go_wp2_with fail;refine (V HV _).mono ?_;rintro e w1 ⟨rfl,rfl⟩;clear HV;go_wp2;go_ret2;exact HF
   | true =>
    rw [ho] at HV HE;have HF:=HE.2 rfl;clear HE;go_wp2_with fail;refine (V HV _).mono ?_;rintro e w1 ⟨rfl,rfl⟩;clear HV;go_wp2;go_ret2;exact HF
end Go.Proofs.YtkglkajjofidoaaGreatDoor.Ti
