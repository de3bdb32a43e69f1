/- TiTrD4 TiTrV4 TiTrS4 TiTrC4 -/
import Derived.Test.YtihhhjodonkkcaaGreatDoorX11
import Derived.Deep.AppendLies
import Derived.Deep.DrawnRows
import Derived.Deep.OwnRows
import Derived.Deep.RegionHeld3
import Derived.Great.BuildSlice
namespace Go.Proofs.YtihhhjodonkkcaaGreatDoor.Ti
open Go.RowKit
theorem Sz.cut {sz len l h m w ao cap} {us} (hs:Sz sz w (.slice ao len cap) len us) (h1:l≤h) (h2:h≤len) (h3:h≤m) (h4:m≤cap) :
  Sz sz w (sliced ao l h m sz) (h - l) ((us.drop (l * sz)).take ((h - l) * sz)):=by
 obtain ⟨b1,b2,b3⟩:=hs
 have e1:(h - l) * sz+l * sz=h * sz:=by rw [← Nat.add_mul]; congr 1; omega
 have e2:h * sz≤len * sz:=Nat.mul_le_mul_right _ h2
 refine ⟨by simp; omega,by omega,?_⟩
 rcases b3 with ⟨rfl,ao',cap',hv,hm,hnil⟩ | ⟨b,off,cap',hv,hl,hm,hc⟩
 ·simp only [Value.slice.injEq] at hv
  obtain ⟨rfl,_,rfl⟩:=hv
  refine .inl ⟨by omega,(if m=l then ao else ao.map (·.add (l * sz))),m - l,?_,by omega,fun hn=>?_⟩
  ·have:h - l=0:=by omega
   simp only [sliced,this]
  ·split at hn
   ·omega
   ·simp_all
 ·simp only [Value.slice.injEq] at hv
  obtain ⟨rfl,_,rfl⟩:=hv
  by_cases he:h=l
  ·refine .inl ⟨by omega,(if m=l then some ⟨b,off,none⟩ else (some ⟨b,off,none⟩:Option Addr).map (·.add (l * sz))),m - l,?_,by omega,fun hn=>?_⟩
   ·have:h - l=0:=by omega
    simp only [sliced,this]
   ·split at hn <;> simp at hn
  ·refine .inr ⟨b,off+l * sz,m - l,?_,by omega,by omega,fun i hi=>?_⟩
   ·have:¬ m=l:=by omega
    simp only [sliced,this,if_false,Option.map_some,addr_add]
   ·grind
theorem rcells_drop (rs:List Tri.Rg) k:(rcells rs).drop (k * 3)=rcells (rs.drop k):=by
 induction k generalizing rs with
 | zero=>simp
 | succ k ih =>
  cases rs with
  | nil=>simp [rcells]
  | cons r rs =>
   have:(k+1) * 3=3+k * 3:=by omega
   simp only [rcells,List.drop_succ_cons]
   rw [this,← List.drop_drop,← ih rs]
   rfl
theorem Sr.cut {w ao len cap l h m} {rs:List Tri.Rg} (hs:Sr w (.slice ao len cap) rs) (hl:len=rs.length) (h1:l≤h) (h2:h≤len) (h3:h≤m) (h4:m≤cap) :
  Sr w (sliced ao l h m 3) ((rs.drop l).take (h - l)):=by
 subst hl
 have:=hs.2.cut h1 h2 h3 h4
 rw [rcells_drop,rcells_take] at this
 have e:((rs.drop l).take (h - l)).length=h - l:=by simp; omega
 refine ⟨fun r hr=>hs.1 r (List.mem_of_mem_drop (List.mem_of_mem_take hr)),?_⟩
 rw [e]; exact this
namespace Tri
theorem get_drop {d c} {rs:List Rg} k (h:∀ j,j<k→j<rs.length→hi (rs.getD j (0,0,0))<c):get d (rs.drop k) c=get d rs c:=by
 induction k generalizing rs with
 | zero=>rw [List.drop_zero]
 | succ k ih =>
  cases rs with
  | nil=>rfl
  | cons r rs =>
   have h0:=h 0 (by omega) (by simp)
   simp only [List.getD_cons_zero] at h0
   rw [List.drop_succ_cons,get_cons,if_neg (by omega)]
   refine ih fun j hj hl=>?_
   have:=h (j+1) (by omega) (by simpa using hl)
   simpa using this
theorem val_drop {b} {rs:List Rg} (h:Val b rs) k:Val b (rs.drop k):=by
 induction k generalizing rs b with
 | zero=>simpa using h
 | succ k ih =>
  cases rs with
  | nil=>trivial
  | cons r rs =>
   obtain ⟨h1,h2,h3,h4,h5,h6⟩:=h
   rw [List.drop_succ_cons]
   exact (ih h6).mono (by omega)
end Tri
def ReachPost (w0 w:World) (rs:List Tri.Rg) (lo:Int) (e:Ending) (w':World):Prop :=
 w'=w∧∃ v' k,e=.returned v'∧Sr w0 v' (rs.drop k)∧k≤rs.length∧∀ j,j<k→Tri.hi (rs.getD j (0,0,0))<lo
set_option maxHeartbeats 400000 in
theorem reaching4 v (rs:List Tri.Rg) lo w0 w (hv:Sr w0 v rs) (hbw:Below w0.heap.size w0 w) (hlo:Fi lo) :
  Calls Tryz.prog 207 #[v,.int .i64 lo] w (ReachPost w0 w rs lo):=by
 obtain ⟨l1,l2⟩:=hlo
 have hlen:=hv.len
 have HB:=Hd hbw
 have HP:Hid (∀ u k,Sr w0 u (rs.drop k)→k≤rs.length→(∀ j,j<k→Tri.hi (rs.getD j (0,0,0))<lo)→ReachPost w0 w rs lo (.returned u) w):=fun u k h1 h2 h3=>⟨rfl,u,k,rfl,h1,h2,h3⟩
 go_enter Tryz.func207,Tryz.ntmps207
 go_wp2
 go_loop [0] (fun u=>∃ k:Nat,Sr w0 u (rs.drop k)∧k≤rs.length∧∀ j,j<k→Tri.hi (rs.getD j (0,0,0))<lo) (fun u=>match u with | .slice _ n _=>n | _=>0)
 case atStart=>exact ⟨0,by simpa using hv,by omega,fun j hj=>by omega⟩
 case round =>
  obtain ⟨k,hs,hk,hall⟩:=hrel
  have HR:=Hd ((Uh HP) _ k hs hk hall)
  have hsl:(rs.drop k).length=rs.length - k:=List.length_drop
  rcases Nat.eq_zero_or_pos (rs.drop k).length with h0 | h0
  ·obtain ⟨ao,cap,rfl,c1,c2⟩:=hs.shape
   rw [h0] at HR c1 ⊢
   go_wp2
   go_ret
   exact Uh HR
  ·have hfit:=hs.1.at 0
   have hs2:=Hd hs
   obtain ⟨b,off,cap,rfl,c1,c2,hcl⟩:=hs.place h0
   obtain ⟨x0,x1,x2⟩:=hcl 0 h0
   rw [← (Uh HB).cell (lt_of_cell? x1)] at x1
   simp only [Nat.zero_mul,Nat.add_zero] at x0 x1 x2
   have hcut:=(Uh hs2).cut rfl (l:=1) (h:=(rs.drop k).length) (m:=cap) (by omega) (by omega) (by omega) (by omega)
   have e1:(((rs.drop k).drop 1).take ((rs.drop k).length - 1))=rs.drop (k+1):=by
    rw [List.drop_drop,List.take_of_length_le (by simp; omega)]
   have e2:(rs.drop k).getD 0 (0,0,0)=rs.getD k (0,0,0):=by grind
   rw [e1] at hcut
   rw [e2] at x1 hfit
   have HA:Hid (Tri.hi (rs.getD k (0,0,0))<lo→∀ j,j<k+1→Tri.hi (rs.getD j (0,0,0))<lo):=by
    intro hx j hj
    by_cases h:j=k
    ·subst h; exact hx
    ·exact hall j (by omega)
   obtain ⟨_,⟨f1,f2⟩,_⟩:=hfit
   have hn1:1≤(rs.drop k).length:=h0
   have hkl:k<rs.length:=by omega
   have HC:=Hd hcut
   clear hs hs2 hcl hall hcut x0 x2 e1 e2 hsl
   generalize Tri.hi (rs.getD k (0,0,0))=h at *
   generalize (rs.drop k).length=n at *
   by_cases a:h<lo
   ·have HA2:=Hd ((Uh HA) a)
    go_wp2
    go_round
    case rel=>exact ⟨k+1,Uh HC,by omega,Uh HA2⟩
    case measure=>simp; omega
   ·clear HA HP
    go_wp2
    go_ret
    exact Uh HR
end Go.Proofs.YtihhhjodonkkcaaGreatDoor.Ti
namespace Go.Proofs.YtihhhjodonkkcaaGreatDoor.Ti
open Go.RowKit
def Bk (w:World) (g:Nat) (zs:List Int):Prop:=w.heap[g]?=some (.cells (arrA zs) 116 (0,0))
theorem Bk.lt {w g zs} (h:Bk w g zs):g<w.heap.size:=(Array.getElem?_eq_some_iff.1 h).1
theorem Bk.cell {w g zs} (h:Bk w g zs) {i} (hi:i<zs.length):w.cell? ⟨g,i,none⟩=some (.int .u16 (zs.getD i 0)):=by
 unfold Bk at h
 simp only [World.cell?,h]
 simp [arrA,List.getD,hi]
theorem Bk.frozen {w g zs} (h:Bk w g zs) i:w.frozen? ⟨g,i,none⟩=false:=by
 unfold Bk at h
 simp [World.frozen?,h]
theorem Bk.set {w g zs} (h:Bk w g zs) i v:Bk (w.setCell ⟨g,i,none⟩ (.int .u16 v)) g (zs.set i v):=by
 unfold Bk at h ⊢
 rw [heap_setCell_same w g i _ _ _ h]
 simp [arrA,List.map_set]
theorem Bk.other {w g zs} (h:Bk w g zs) {a} (hne:g≠a.block) v:Bk (w.setCell a v) g zs:=by
 unfold Bk at h ⊢
 rw [heap_setCell_other w a g v hne]; exact h
theorem Bk.box {w g zs} (h:Bk w g zs):Box w g zs:=fun j v hv=>by
 have hj:j<zs.length:=by grind
 rw [Nat.zero_add,h.cell hj]
 rw [List.getElem?_map,List.getElem?_eq_getElem hj] at hv
 simp only [Option.map_some,Option.some.injEq] at hv
 rw [← hv]; simp [List.getD,hj]
theorem Bk.new (w:World) zs C (hC:C=arrA zs):Bk (w.alloc (.cells C 116)) w.heap.size zs:=by
 subst hC
 exact heap_alloc_last w _
theorem Bk.alloc {w g zs} (h:Bk w g zs) o:Bk (w.alloc o) g zs:=by
 have hl:=h.lt
 unfold Bk at h ⊢
 rw [Below.heap_alloc w o g hl]; exact h
theorem Bk.there {w g zs} (h:Bk w g zs):w.there g 0 zs.length:=fun j hj=>by
 rw [Nat.zero_add]
 exact ⟨by rw [h.cell hj]; rfl,h.frozen j⟩
theorem infoBk:(Tryz.prog.info? 116).map (·.size)=some 64:=by kernel_rfl
def Rb (w:World) (g:Nat) (l h x:Int):Prop:=w.heap[g]?=some (.cells #[.int .i64 l,.int .i64 h,.int .i64 x] 218 (0,0))
theorem Rb.cells {w g l h x} (hr:Rb w g l h x):w.cell? ⟨g,0,none⟩=some (.int .i64 l)∧w.cell? ⟨g,1,none⟩=some (.int .i64 h)∧w.cell? ⟨g,2,none⟩=some (.int .i64 x) :=
 ⟨by rw [cell_of_row _ _ _ _ _ _ hr]; rfl,by rw [cell_of_row _ _ _ _ _ _ hr]; rfl,by rw [cell_of_row _ _ _ _ _ _ hr]; rfl⟩
theorem Rb.other {w g l h x} (hr:Rb w g l h x) {a} (hne:g≠a.block) v:Rb (w.setCell a v) g l h x:=by
 unfold Rb at hr ⊢
 rw [heap_setCell_other w a g v hne]; exact hr
namespace Tri
theorem get_front {b d c} {rs:List Rg} (hv:Val b rs) k (hk:k<rs.length) (hc:c<lo (rs.getD k (0,0,0))):get d rs c=get d (rs.take k) c:=by
 induction rs generalizing b k with
 | nil=>simp at hk
 | cons r rs ih =>
  obtain ⟨h1,h2,h3,h4,h5,h6⟩:=hv
  cases k with
  | zero =>
   simp only [List.getD_cons_zero] at hc
   have h7:Val (lo r) (r :: rs):=⟨Int.le_refl _,h2,h3,h4,h5,h6⟩
   rw [get_below h7 hc]; rfl
  | succ k =>
   simp only [List.take_succ_cons,get_cons]
   rw [ih h6 k (by simpa using hk) (by simpa using hc)]
end Tri
theorem blk_ext2 f (p:Nat) lo0 (h0:lo0=(p:Int) * 64) zs (hl:zs.length=64) (h:∀ j:Nat,j<64→zs.getD j 0=f (lo0+(j:Int))):zs=Tri.blk f p :=
 blk_ext f p zs hl fun j hj=>by rw [h j hj,show lo0+(j:Int)=((64 * p+j:Nat):Int) by omega]
abbrev z64:Array Value:=#[.int .u16 0,.int .u16 0,.int .u16 0,.int .u16 0,.int .u16 0,.int .u16 0,.int .u16 0,.int .u16 0,.int .u16 0,.int .u16 0,.int .u16 0,.int .u16 0,.int .u16 0,.int .u16 0,.int .u16 0,.int .u16 0,.int .u16 0,.int .u16 0,.int .u16 0,.int .u16 0,.int .u16 0,.int .u16 0,.int .u16 0,.int .u16 0,.int .u16 0,.int .u16 0,.int .u16 0,.int .u16 0,.int .u16 0,.int .u16 0,.int .u16 0,.int .u16 0,.int .u16 0,.int .u16 0,.int .u16 0,.int .u16 0,.int .u16 0,.int .u16 0,.int .u16 0,.int .u16 0,.int .u16 0,.int .u16 0,.int .u16 0,.int .u16 0,.int .u16 0,.int .u16 0,.int .u16 0,.int .u16 0,.int .u16 0,.int .u16 0,.int .u16 0,.int .u16 0,.int .u16 0,.int .u16 0,.int .u16 0,.int .u16 0,.int .u16 0,.int .u16 0,.int .u16 0,.int .u16 0,.int .u16 0,.int .u16 0,.int .u16 0,.int .u16 0]
theorem two_new (w:World):∃ wz,(w.alloc (.cells z64 116)).alloc (.cells z64 116)=wz∧Below w.heap.size w wz∧Bk wz w.heap.size Zs∧Bk wz (w.heap.size+1) Zs :=
 ⟨_,rfl,((Below.refl _ w).alloc (Nat.le_refl _) _).alloc (by simp) _,(Bk.new w Zs _ rfl).alloc _,by simpa using Bk.new (w.alloc (.cells z64 116)) Zs z64 rfl⟩
set_option maxRecDepth 50000 in
set_option maxHeartbeats 4000000 in
theorem values4 v (rs:List Tri.Rg) d (p:Nat) w (hv:Sr w v rs) (hval:Tri.Val 0 rs) (hd:0≤d∧d≤65535) (hp:p<17408) :
  Calls Tryz.prog 208 #[v,.int .i64 ((p:Int) * 64),.int .i64 d] w (ArrPost w (Tri.blk (Tri.get d rs) p)):=by
 obtain ⟨hd1,hd2⟩:=hd
 obtain ⟨lo0,hlo0⟩:∃ l:Int,l=(p:Int) * 64:=⟨_,rfl⟩
 have HX:=Hd (blk_ext2 (Tri.get d rs) p lo0 hlo0)
 have z1:0≤lo0:=by omega
 have z2:lo0≤1114048:=by omega
 rw [← hlo0]
 clear hlo0
 have HV:=Hd hval
 have hsr:=Hd hv
 have hlen:=hv.len
 obtain ⟨ao,cap,rfl,hc1,hc2⟩:=hv.shape
 have HG0:Hid (∀ c,Tri.get d (rs.take 0) c=d):=fun c=>rfl
 have HGE:Hid (∀ c,Tri.get d (rs.take rs.length) c=Tri.get d rs c):=fun c=>by rw [List.take_length]
 have HGF:Hid (∀ (k:Nat),k<rs.length→∀ c,c<Tri.lo (rs.getD k (0,0,0))→Tri.get d rs c=Tri.get d (rs.take k) c):=fun k hk c hc=>Tri.get_front hval k hk hc
 clear hv hval
 generalize Tri.blk (Tri.get d rs) p=res at *
 go_enter Tryz.func208,Tryz.ntmps208
 go_wp2
 obtain ⟨wz,hz,hA,hB6,hB7⟩:=two_new w
 rw [hz]
 clear hz
 obtain ⟨g6,hg6⟩:∃ g6,g6=w.heap.size:=⟨_,rfl⟩
 obtain ⟨g7,hg7⟩:∃ g7,g7=w.heap.size+1:=⟨_,rfl⟩
 rw [← hg6] at hB6
 rw [← hg7] at hB7
 have h67:g6≠g7:=by omega
 have hge6:w.heap.size≤g6:=by omega
 have hge7:w.heap.size≤g7:=by omega
 rw [← hg7,← hg6]
 clear hg6 hg7
 obtain ⟨Z,hZ⟩:∃ Z,Z=Zs:=⟨_,rfl⟩
 rw [← hZ] at hB6 hB7
 have hZl:Z.length=64:=by rw [hZ]; exact Zs_len
 clear hZ
 go_loopw [13] (fun i wr=>∃ (k:Nat) (zs:List Int),i=.int .i64 k∧k≤64∧zs.length=64∧Bk wr g7 zs∧Bk wr g6 Z∧Below w.heap.size w wr∧∀ j,j<k→zs.getD j 0=d) (fun i _=>64 - (intOf i).toNat)
 case atStart=>exact ⟨0,Z,rfl,by omega,hZl,hB7,hB6,hA,fun j hj=>by omega⟩
 case round =>
  clear hA hB6 hB7
  obtain ⟨k,zs,rfl,hk,hzl,hz,hz6,hbel,hall⟩:=hrel
  by_cases hlt:k<64
  ·have hc:=hz.cell (i:=k) (by omega)
   have hf:=hz.frozen k
   have hz2:=hz.set k d
   have hz62:=hz6.other (a:=⟨g7,k,none⟩) h67 (.int .u16 d)
   have hb2:=hbel.setCell (p:=⟨g7,k,none⟩) hge7 (.int .u16 d)
   have hal2:Hid (∀ j,j<k+1→(zs.set k d).getD j 0=d):=by
    intro j hj
    rw [set_at zs k j d (by omega)]
    split
    ·rfl
    ·exact hall j (by omega)
   have hin1:(0:Int)≤(k:Int):=by omega
   have hin2:(k:Int)<64:=by omega
   generalize zs.getD k 0=old at *
   clear hall hz hz6 hbel
   go_wp2
   go_roundw
   case rel=>exact ⟨k+1,zs.set k d,by go_num,by omega,by simp [hzl],hz2,hz62,hb2,Uh hal2⟩
   case measure=>simp [intOf]; omega
  ·obtain rfl:k=64:=by omega
   have hbase:Hid (∀ j,j<64→zs.getD j 0=Tri.get d (rs.take 0) (lo0+(j:Nat))):=fun j hj=>by rw [hall j hj,(Uh HG0)]
   clear hall HG0
   go_wp2
   go_loopw [11,12,25] (fun _ _ i wr=>∃ (k:Nat) (zs:List Int),i=.int .i64 k∧k≤rs.length∧zs.length=64∧Bk wr g7 zs∧Bk wr g6 Z∧Below w.heap.size w wr∧∀ j,j<64→zs.getD j 0=Tri.get d (rs.take k) (lo0+(j:Nat))) (fun _ _ i _=>rs.length - (intOf i).toNat)
   case atStart=>exact ⟨0,zs,rfl,by omega,hzl,hz,hz6,hbel,Uh hbase⟩
   case round =>
    clear hz hz6 hbel hbase hzl
    obtain ⟨k,zs,rfl,hk,hzl,hz,hz6,hbel,hall⟩:=hrel
    by_cases hlt:k<rs.length
    ·have hgt:=fun c=>Tri.get_take (d:=d) (c:=c) (Uh HV) k hlt
     have HGF2:=Hd ((Uh HGF) k hlt)
     obtain ⟨b1,b2,b3,b4,b5⟩:=val_at (Uh HV) (Int.le_refl _) k hlt
     obtain ⟨bx,offx,cpx,hvx,_,_,hcl⟩:=(Uh hsr).place (by omega)
     simp only [Value.slice.injEq] at hvx
     obtain ⟨rfl,_,rfl⟩:=hvx
     obtain ⟨c0,c1,c2⟩:=hcl k hlt
     rw [← hbel.cell (lt_of_cell? c0)] at c0
     rw [← hbel.cell (lt_of_cell? c1)] at c1
     rw [← hbel.cell (lt_of_cell? c2)] at c2
     have HGT:=Hd hgt
     have HAL:=Hd hall
     clear hcl hgt hall
     generalize Tri.lo (rs.getD k (0,0,0))=lo at *
     generalize Tri.hi (rs.getD k (0,0,0))=hi at *
     generalize Tri.vl (rs.getD k (0,0,0))=vv at *
     have hszw:=hbel.size
     have hrb:Rb (wr.alloc (.cells #[.int .i64 lo,.int .i64 hi,.int .i64 vv] 218)) wr.heap.size lo hi vv:=heap_alloc_last wr _
     have hz:=hz.alloc (.cells #[.int .i64 lo,.int .i64 hi,.int .i64 vv] 218)
     have hz6:=hz6.alloc (.cells #[.int .i64 lo,.int .i64 hi,.int .i64 vv] 218)
     have hba:Below w.heap.size w (wr.alloc (.cells #[.int .i64 lo,.int .i64 hi,.int .i64 vv] 218)):=hbel.alloc hszw _
     obtain ⟨gr,hgr⟩:∃ gr,gr=wr.heap.size:=⟨_,rfl⟩
     have hr7:gr≠g7:=by have h1:=‹Bk wr g7 zs›.lt; omega
     by_cases hbr:lo0+64≤lo
     ·have hfin:Hid (∀ j,j<64→zs.getD j 0=Tri.get d rs (lo0+(j:Nat))):=fun j hj=>by rw [(Uh HAL) j hj,(Uh HGF2) _ (by omega)]
      clear HAL HGT HGF HGF2 hgr hr7
      have hres:=(Uh HX) zs hzl (Uh hfin)
      subst hres
      clear hfin HX
      go_upto_region 17 with fail
      generalize wr.alloc (.cells #[.int .i64 lo,.int .i64 hi,.int .i64 vv] 218)=wa at *
      refine wp_region_list ?_
      refine wpList_load_mid (by rfl) 116 (.tmp 7) (by rfl) g7 0 (by rfl) (zs.map (Value.int .u16)) _ hz.box Tryz.underlying116 (by rfl) (infoBl hzl) ?_
      have h6l:Z.length=zs.length:=by omega
      have hth:wa.there g6 0 (zs.map (Value.int .u16)).toArray.size:=by
       have:=hz6.there
       rw [h6l] at this
       simpa using this
      refine wpList_store_mid (by rfl) 116 (.tmp 6) (.tmp 54) (by rfl) g6 0 (zs.map (Value.int .u16)).toArray (by rfl) (by rfl) hth (by rw [show (zs.map (Value.int .u16)).toArray.size=64 by simp [hzl]]; exact infoBk) (arrA_one zs) ?_
      have hth2:wa.there g6 0 (zs.map (Value.int .u16)).length:=by simpa using hth
      have hrg:=World.rangeAt_setCells_same wa g6 0 (zs.map (Value.int .u16)) hth2
      have hbF:Below w.heap.size w (wa.setCells g6 0 (zs.map (Value.int .u16))):=below_setCells4 hge6 _ _ _ hba
      have hld:=run_loadVar_mid (P:=Tryz.prog) _ g6 0 116 (zs.map (Value.int .u16)) _ hrg Tryz.underlying116 (by rfl) (infoBl hzl)
      clear hz hz6 hth hth2 hrg
      generalize wa.setCells g6 0 (zs.map (Value.int .u16))=wf at *
      go_wp2
      exact bodyPost_ret (v:=.agg (arrA zs)) (results_cellM rfl _ _ _ g6 _ (by rfl) hld) rfl ⟨rfl,hbF⟩
     ·clear HGF2 HGE HX
      by_cases hmx:lo<lo0
      ·skip
       go_wp2
       generalize wr.alloc (.cells #[.int .i64 lo,.int .i64 hi,.int .i64 vv] 218)=wa at *
       rw [← hgr] at hrb ⊢
       clear hgr
       go_loopw [12] (fun vc wr=>∃ (c:Int) (zs:List Int),vc=.int .i64 c∧lo≤c∧lo0≤c∧c≤1114112∧zs.length=64∧Bk wr g7 zs∧Bk wr g6 Z∧Rb wr gr lo hi vv∧Below w.heap.size w wr∧∀ j,j<64→zs.getD j 0=if lo≤lo0+(j:Nat)∧lo0+(j:Nat)<c∧lo0+(j:Nat)≤hi then vv else Tri.get d (rs.take k) (lo0+(j:Nat))) (fun vc _=>(1114112 - intOf vc).toNat)
       case atStart=>exact ⟨lo0,zs,rfl,by omega,by omega,by omega,hzl,hz,hz6,hrb,hba,fun j hj=>by rw [if_neg (by omega)]; exact (Uh HAL) j hj⟩
       case round =>
        clear hz hz6 hrb hba hzl c0 c1 c2
        obtain ⟨c,zs,rfl,hc1,hc2,hc3,hzl,hz,hz6,hrb,hbel,hall⟩:=hrel
        obtain ⟨c0,c1,c2⟩:=hrb.cells
        by_cases hin:c≤hi∧c<lo0+64
        ·obtain ⟨q1,q2⟩:=hin
         obtain ⟨i,hci⟩:∃ i:Nat,c - lo0=(i:Int):=⟨(c - lo0).toNat,by omega⟩
         have hi64:i<64:=by omega
         have hcl:=hz.cell (i:=i) (by omega)
         have hfr:=hz.frozen i
         have hz2:=hz.set i vv
         have hz62:=hz6.other (a:=⟨g7,i,none⟩) h67 (.int .u16 vv)
         have hrb2:=hrb.other (a:=⟨g7,i,none⟩) hr7 (.int .u16 vv)
         have hb2:=hbel.setCell (p:=⟨g7,i,none⟩) hge7 (.int .u16 vv)
         have hal2:Hid (∀ j,j<64→(zs.set i vv).getD j 0=if lo≤lo0+(j:Nat)∧lo0+(j:Nat)<c+1∧lo0+(j:Nat)≤hi then vv else Tri.get d (rs.take k) (lo0+(j:Nat))):=by
          intro j hj
          rw [set_at zs i j vv (by omega),hall j hj]
          by_cases hji:j=i
          ·rw [if_pos hji,if_pos (by omega)]
          ·rw [if_neg hji]
           by_cases hx:lo≤lo0+(j:Nat)∧lo0+(j:Nat)<c∧lo0+(j:Nat)≤hi
           ·rw [if_pos hx,if_pos (by omega)]
           ·rw [if_neg hx,if_neg (by omega)]
         have hin1:(0:Int)≤(i:Int):=by omega
         have hin2:(i:Int)<64:=by omega
         generalize zs.getD i 0=old at *
         clear hall hz hz6 hrb
         by_cases hmn:lo0+64<hi+1
         ·go_wp2
          go_roundw
          case rel=>exact ⟨c+1,zs.set i vv,by go_num,by omega,by omega,by omega,by simp [hzl],hz2,hz62,hrb2,hb2,Uh hal2⟩
          case measure=>simp [intOf]; omega
         ·have hmn2:c<hi+1:=by omega
          go_wp2
          go_roundw
          case rel=>exact ⟨c+1,zs.set i vv,by go_num,by omega,by omega,by omega,by simp [hzl],hz2,hz62,hrb2,hb2,Uh hal2⟩
          case measure=>simp [intOf]; omega
        ·have hal2:Hid (∀ j,j<64→zs.getD j 0=Tri.get d (rs.take (k+1)) (lo0+(j:Nat))):=by
          intro j hj
          rw [hall j hj,(Uh HGT)]
          by_cases hx:lo≤lo0+(j:Nat)∧lo0+(j:Nat)≤hi
          ·rw [if_pos hx,if_pos (by omega)]
          ·rw [if_neg hx,if_neg (by omega)]
         clear hall
         by_cases hmn:lo0+64<hi+1
         ·have hgt':¬ (c<lo0+64):=by omega
          go_wp2
          go_roundw
          case rel=>first | exact ⟨_,_,.int .i64 ((k+1:Nat):Int),⟨k+1,rfl,by omega,zs,hzl,hz,by simpa using Uh hal2⟩,rfl,rfl,by go_num⟩ | exact ⟨k+1,zs,by go_num,by omega,hzl,hz,hz6,hbel,Uh hal2⟩ | exact ⟨k+1,by go_num,by omega,zs,hzl,hz,by simpa using Uh hal2⟩ | exact ⟨k+1,by go_num,by omega,zs,hzl,hz,hz6,by simpa using Uh hal2⟩
          case measure=>simp [intOf]; omega
         ·have hgt':¬ (c<hi+1):=by omega
          go_wp2
          go_roundw
          case rel=>first | exact ⟨_,_,.int .i64 ((k+1:Nat):Int),⟨k+1,rfl,by omega,zs,hzl,hz,by simpa using Uh hal2⟩,rfl,rfl,by go_num⟩ | exact ⟨k+1,zs,by go_num,by omega,hzl,hz,hz6,hbel,Uh hal2⟩ | exact ⟨k+1,by go_num,by omega,zs,hzl,hz,by simpa using Uh hal2⟩ | exact ⟨k+1,by go_num,by omega,zs,hzl,hz,hz6,by simpa using Uh hal2⟩
          case measure=>simp [intOf]; omega
      ·skip
       go_wp2
       generalize wr.alloc (.cells #[.int .i64 lo,.int .i64 hi,.int .i64 vv] 218)=wa at *
       rw [← hgr] at hrb ⊢
       clear hgr
       go_loopw [12] (fun vc wr=>∃ (c:Int) (zs:List Int),vc=.int .i64 c∧lo≤c∧lo0≤c∧c≤1114112∧zs.length=64∧Bk wr g7 zs∧Bk wr g6 Z∧Rb wr gr lo hi vv∧Below w.heap.size w wr∧∀ j,j<64→zs.getD j 0=if lo≤lo0+(j:Nat)∧lo0+(j:Nat)<c∧lo0+(j:Nat)≤hi then vv else Tri.get d (rs.take k) (lo0+(j:Nat))) (fun vc _=>(1114112 - intOf vc).toNat)
       case atStart=>exact ⟨lo,zs,rfl,by omega,by omega,by omega,hzl,hz,hz6,hrb,hba,fun j hj=>by rw [if_neg (by omega)]; exact (Uh HAL) j hj⟩
       case round =>
        clear hz hz6 hrb hba hzl c0 c1 c2
        obtain ⟨c,zs,rfl,hc1,hc2,hc3,hzl,hz,hz6,hrb,hbel,hall⟩:=hrel
        obtain ⟨c0,c1,c2⟩:=hrb.cells
        by_cases hin:c≤hi∧c<lo0+64
        ·obtain ⟨q1,q2⟩:=hin
         obtain ⟨i,hci⟩:∃ i:Nat,c - lo0=(i:Int):=⟨(c - lo0).toNat,by omega⟩
         have hi64:i<64:=by omega
         have hcl:=hz.cell (i:=i) (by omega)
         have hfr:=hz.frozen i
         have hz2:=hz.set i vv
         have hz62:=hz6.other (a:=⟨g7,i,none⟩) h67 (.int .u16 vv)
         have hrb2:=hrb.other (a:=⟨g7,i,none⟩) hr7 (.int .u16 vv)
         have hb2:=hbel.setCell (p:=⟨g7,i,none⟩) hge7 (.int .u16 vv)
         have hal2:Hid (∀ j,j<64→(zs.set i vv).getD j 0=if lo≤lo0+(j:Nat)∧lo0+(j:Nat)<c+1∧lo0+(j:Nat)≤hi then vv else Tri.get d (rs.take k) (lo0+(j:Nat))):=by
          intro j hj
          rw [set_at zs i j vv (by omega),hall j hj]
          by_cases hji:j=i
          ·rw [if_pos hji,if_pos (by omega)]
          ·rw [if_neg hji]
           by_cases hx:lo≤lo0+(j:Nat)∧lo0+(j:Nat)<c∧lo0+(j:Nat)≤hi
           ·rw [if_pos hx,if_pos (by omega)]
           ·rw [if_neg hx,if_neg (by omega)]
         have hin1:(0:Int)≤(i:Int):=by omega
         have hin2:(i:Int)<64:=by omega
         generalize zs.getD i 0=old at *
         clear hall hz hz6 hrb
         by_cases hmn:lo0+64<hi+1
         ·go_wp2
          go_roundw
          case rel=>exact ⟨c+1,zs.set i vv,by go_num,by omega,by omega,by omega,by simp [hzl],hz2,hz62,hrb2,hb2,Uh hal2⟩
          case measure=>simp [intOf]; omega
         ·have hmn2:c<hi+1:=by omega
          go_wp2
          go_roundw
          case rel=>exact ⟨c+1,zs.set i vv,by go_num,by omega,by omega,by omega,by simp [hzl],hz2,hz62,hrb2,hb2,Uh hal2⟩
          case measure=>simp [intOf]; omega
        ·have hal2:Hid (∀ j,j<64→zs.getD j 0=Tri.get d (rs.take (k+1)) (lo0+(j:Nat))):=by
          intro j hj
          rw [hall j hj,(Uh HGT)]
          by_cases hx:lo≤lo0+(j:Nat)∧lo0+(j:Nat)≤hi
          ·rw [if_pos hx,if_pos (by omega)]
          ·rw [if_neg hx,if_neg (by omega)]
         clear hall
         by_cases hmn:lo0+64<hi+1
         ·have hgt':¬ (c<lo0+64):=by omega
          go_wp2
          go_roundw
          case rel=>first | exact ⟨_,_,.int .i64 ((k+1:Nat):Int),⟨k+1,rfl,by omega,zs,hzl,hz,by simpa using Uh hal2⟩,rfl,rfl,by go_num⟩ | exact ⟨k+1,zs,by go_num,by omega,hzl,hz,hz6,hbel,Uh hal2⟩ | exact ⟨k+1,by go_num,by omega,zs,hzl,hz,by simpa using Uh hal2⟩ | exact ⟨k+1,by go_num,by omega,zs,hzl,hz,hz6,by simpa using Uh hal2⟩
          case measure=>simp [intOf]; omega
         ·have hgt':¬ (c<hi+1):=by omega
          go_wp2
          go_roundw
          case rel=>first | exact ⟨_,_,.int .i64 ((k+1:Nat):Int),⟨k+1,rfl,by omega,zs,hzl,hz,by simpa using Uh hal2⟩,rfl,rfl,by go_num⟩ | exact ⟨k+1,zs,by go_num,by omega,hzl,hz,hz6,hbel,Uh hal2⟩ | exact ⟨k+1,by go_num,by omega,zs,hzl,hz,by simpa using Uh hal2⟩ | exact ⟨k+1,by go_num,by omega,zs,hzl,hz,hz6,by simpa using Uh hal2⟩
          case measure=>simp [intOf]; omega
    ·obtain rfl:k=rs.length:=by omega
     have hfin:Hid (∀ j,j<64→zs.getD j 0=Tri.get d rs (lo0+(j:Nat))):=fun j hj=>by rw [hall j hj,(Uh HGE)]
     clear hall HGF HGE
     have hres:=(Uh HX) zs hzl (Uh hfin)
     subst hres
     clear hfin HX
     go_upto_region 17 with fail
     refine wp_region_list ?_
     refine wpList_load_mid (by rfl) 116 (.tmp 7) (by rfl) g7 0 (by rfl) (zs.map (Value.int .u16)) _ hz.box Tryz.underlying116 (by rfl) (infoBl hzl) ?_
     have h6l:Z.length=zs.length:=by omega
     have hth:wr.there g6 0 (zs.map (Value.int .u16)).toArray.size:=by
      have:=hz6.there
      rw [h6l] at this
      simpa using this
     refine wpList_store_mid (by rfl) 116 (.tmp 6) (.tmp 54) (by rfl) g6 0 (zs.map (Value.int .u16)).toArray (by rfl) (by rfl) hth (by rw [show (zs.map (Value.int .u16)).toArray.size=64 by simp [hzl]]; exact infoBk) (arrA_one zs) ?_
     have hth2:wr.there g6 0 (zs.map (Value.int .u16)).length:=by simpa using hth
     have hrg:=World.rangeAt_setCells_same wr g6 0 (zs.map (Value.int .u16)) hth2
     have hbF:Below w.heap.size w (wr.setCells g6 0 (zs.map (Value.int .u16))):=below_setCells4 hge6 _ _ _ hbel
     have hld:=run_loadVar_mid (P:=Tryz.prog) _ g6 0 116 (zs.map (Value.int .u16)) _ hrg Tryz.underlying116 (by rfl) (infoBl hzl)
     clear hz hz6 hth hth2 hrg
     generalize wr.setCells g6 0 (zs.map (Value.int .u16))=wf at *
     go_wp2
     exact bodyPost_ret (v:=.agg (arrA zs)) (results_cellM rfl _ _ _ g6 _ (by rfl) hld) rfl ⟨rfl,hbF⟩
end Go.Proofs.YtihhhjodonkkcaaGreatDoor.Ti
namespace Go.Proofs.YtihhhjodonkkcaaGreatDoor.Ti
open Go.RowKit
section
variable {P:Program} {ops:Array Oper} {o:Oper} {a:Act} {w w':World} {K:Act→World→Prop} {Q:Exit→Act→World→Prop} {E:Prop}
theorem step_load (hgd:o.guard=none) ty (x:Operand) (ho:o.op=.load ty x) pv v (hx:a.eval x=pv) (hrun:(Instr.loadAt ty pv).run P w=.ok v w) (h:K (a.put o.dst v) w) :
  if Region.wanted o (yielded ops a.tmps)=true then Oper.wp P o a w K Q else E:=by
 rw [if_pos (by simp [Region.wanted,hgd])]
 unfold Oper.wp execOp
 simp only [ho,hx,Sem.run_bind,hrun,Result.andThen_ok]
 exact h
theorem step_store (hgd:o.guard=none) ty (x y:Operand) (ho:o.op=.store ty x y) pv v (hx:a.eval x=pv) (hy:a.eval y=v) (hrun:(Instr.storeAt ty pv v).run P w=.ok () w') (h:K (a.put o.dst undef) w') :
  if Region.wanted o (yielded ops a.tmps)=true then Oper.wp P o a w K Q else E:=by
 rw [if_pos (by simp [Region.wanted,hgd])]
 unfold Oper.wp execOp
 simp only [ho,hx,hy,Sem.run_bind,hrun,Result.andThen_ok]
 exact h
theorem step_build (hgd:o.guard=none) t (x:Operand) (ho:o.op=.buildSlice t 1 #[(0,x)]) u v (hx:a.eval x=u) (hrun:(Instr.buildSlice t 1 #[(0,u)]).run P w=.ok v w') (h:K (a.put o.dst v) w') :
  if Region.wanted o (yielded ops a.tmps)=true then Oper.wp P o a w K Q else E:=by
 rw [if_pos (by simp [Region.wanted,hgd])]
 unfold Oper.wp execOp
 have e:(#[((0:Nat),x)].map fun (i,x)=>(i,a.eval x))=#[(0,u)]:=by simp [hx]
 simp only [ho,e,Sem.run_bind,hrun,Result.andThen_ok]
 exact h
end
end Go.Proofs.YtihhhjodonkkcaaGreatDoor.Ti
namespace Go.Proofs.YtihhhjodonkkcaaGreatDoor.Ti
open Go.RowKit
def okv (n:Int):Bool:=decide (0≤n∧n≤65535)
theorem okv_lo {n} (h:n<0):okv n=false:=by unfold okv; rw [decide_eq_false]; omega
theorem okv_hi {n} (h:65535<n):okv n=false:=by unfold okv; rw [decide_eq_false]; omega
theorem okv_in {n} (h:¬ n<0) (h2:¬ 65535<n):okv n=true:=by unfold okv; rw [decide_eq_true]; omega
theorem isValue4 n w (hn:Fi n):Calls Tryz.prog 206 #[.int .i64 n] w fun e w'=>e=.returned (.bool (okv n))∧w'=w:=by
 obtain ⟨h1,h2⟩:=hn
 by_cases a1:n<0
 ·rw [okv_lo a1]
  go_enter Tryz.func206,Tryz.ntmps206
  go_wp2
  go_ret
  exact ⟨rfl,rfl⟩
 ·by_cases a2:65535<n
  ·rw [okv_hi a2]
   have a3:¬ n≤65535:=by omega
   go_enter Tryz.func206,Tryz.ntmps206
   go_wp2
   go_ret
   exact ⟨rfl,rfl⟩
  ·rw [okv_in a1 a2]
   have a3:n≤65535:=by omega
   go_enter Tryz.func206,Tryz.ntmps206
   go_wp2
   go_ret
   exact ⟨rfl,rfl⟩
theorem fault4 l h x b w (hl:Fi l) (hh:Fi h) (hx:Fi x) (hb:Fi b):Calls Tryz.prog 205 #[.agg #[.int .i64 l,.int .i64 h,.int .i64 x],.int .i64 b] w (IntPost w (Tri.bad (some b) (l,h,x))):=by
 have HV:=Hd (fun w'=>isValue4 x w' hx)
 obtain ⟨l1,l2⟩:=hl
 obtain ⟨h1,h2⟩:=hh
 obtain ⟨x1,x2⟩:=hx
 obtain ⟨b1,b2⟩:=hb
 have hA:Below w.heap.size w (w.alloc (.cells #[.int .i64 l,.int .i64 h,.int .i64 x] 218)):=(Below.refl _ _).alloc (Nat.le_refl _) _
 by_cases a1:l<0
 ·rw [bad_range (r:=(l,h,x)) (.inl a1)]
  go_enter Tryz.func205,Tryz.ntmps205
  go_wp2
  go_ret
  exact ⟨rfl,hA⟩
 ·by_cases a2:1114111<h
  ·rw [bad_range (r:=(l,h,x)) (.inr (.inl a2))]
   go_enter Tryz.func205,Tryz.ntmps205
   go_wp2
   go_ret
   exact ⟨rfl,hA⟩
  ·by_cases a3:h<l
   ·rw [bad_range (r:=(l,h,x)) (.inr (.inr a3))]
    go_enter Tryz.func205,Tryz.ntmps205
    go_wp2
    go_ret
    exact ⟨rfl,hA⟩
   ·have hn:¬ (Tri.lo (l,h,x)<0∨1114111<Tri.hi (l,h,x)∨Tri.hi (l,h,x)<Tri.lo (l,h,x)):=by simp only [Tri.lo_mk,Tri.hi_mk]; omega
    by_cases a4:x<0∨65535<x
    ·rw [bad_value hn a4]
     have hk:okv x=false:=by rcases a4 with h | h; exact okv_lo h; exact okv_hi h
     rw [hk] at HV
     go_enter Tryz.func205,Tryz.ntmps205
     go_wp2_with fail
     refine ((Uh HV) _).mono ?_
     rintro e w1 ⟨rfl,rfl⟩
     go_wp2
     go_ret
     exact ⟨rfl,hA⟩
    ·have hk:okv x=true:=okv_in (by omega) (by omega)
     rw [hk] at HV
     by_cases a5:l≤b
     ·rw [bad_order hn a4 a5]
      go_enter Tryz.func205,Tryz.ntmps205
      go_wp2_with fail
      refine ((Uh HV) _).mono ?_
      rintro e w1 ⟨rfl,rfl⟩
      go_wp2
      go_ret
      exact ⟨rfl,hA⟩
     ·rw [bad_some hn a4 a5]
      go_enter Tryz.func205,Tryz.ntmps205
      go_wp2_with fail
      refine ((Uh HV) _).mono ?_
      rintro e w1 ⟨rfl,rfl⟩
      go_wp2
      go_ret
      exact ⟨rfl,hA⟩
def prz (rs:List Tri.Rg):Nat→Int
 | 0=>-1
 | k+1=>Tri.hi (rs.getD k (0,0,0))
theorem bad_prz (rs:List Tri.Rg) k (r:Tri.Rg):Tri.bad (some (prz rs k)) r=Tri.bad (prv rs k) r:=by
 cases k with
 | zero =>
  unfold Tri.bad prz prv
  split
  ·rfl
  ·grind
 | succ k=>rfl
set_option maxHeartbeats 1000000 in
theorem firstFault4 v (rs:List Tri.Rg) d w (hv:Sr w v rs) (hd:Fi d) :
  Calls Tryz.prog 185 #[v,.int .i64 d] w (TwoPost w (Tri.check d rs)):=by
 have hl:=hv.len
 have HV:=Hd (fun w'=>isValue4 d w' hd)
 obtain ⟨hd1,hd2⟩:=hd
 have hend:Hid (∀ r,r=Tri.checkA d rs.length (prv rs rs.length) (rs.drop rs.length)→∀ wr,Below w.heap.size w wr→(okv d=false→TwoPost w r (.returned (.tuple #[.int .i64 (rs.length:Int),.int .i64 42])) wr)∧(okv d=true→TwoPost w r (.returned (.tuple #[.int .i64 0,.int .i64 0])) wr)):=by
  intro r hr wr hb
  rw [List.drop_length] at hr
  simp only [Tri.checkA] at hr
  refine ⟨fun h=>TwoPost.mk (by rw [hr,if_pos (by unfold okv at h; have:=of_decide_eq_false h; omega)]) hb,fun h=>TwoPost.mk (by rw [hr,if_neg (by unfold okv at h; have:=of_decide_eq_true h; omega)]) hb⟩
 have HG:Hid (Tri.checkA d 0 (prv rs 0) (rs.drop 0)=Tri.check d rs):=by rw [List.drop_zero]; rfl
 have hfit:=Hd hv.1
 have hsr:=Hd hv
 obtain ⟨ao,cap,rfl,hc1,hc2⟩:=hv.shape
 generalize Tri.check d rs=res at *
 go_enter Tryz.func185,Tryz.ntmps185
 go_wp2
 go_loopw [6,12] (fun b i wr=>∃ k:Nat,i=.int .i64 k∧b=.int .i64 (prz rs k)∧k≤rs.length∧Below w.heap.size w wr∧res=Tri.checkA d k (prv rs k) (rs.drop k)) (fun _ i _=>rs.length - (intOf i).toNat)
 case atStart=>exact ⟨0,rfl,rfl,by omega,Below.refl _ _,(Uh HG).symm⟩
 case round =>
  obtain ⟨k,rfl,rfl,hk,hbel,hgk⟩:=hrel
  by_cases hlt:k<rs.length
  ·obtain ⟨bx,offx,cpx,hvx,_,_,hcl⟩:=(Uh hsr).place (by omega)
   simp only [Value.slice.injEq] at hvx
   obtain ⟨rfl,_,rfl⟩:=hvx
   obtain ⟨c0,c1,c2⟩:=hcl k hlt
   rw [← hbel.cell (lt_of_cell? c0)] at c0
   rw [← hbel.cell (lt_of_cell? c1)] at c1
   rw [← hbel.cell (lt_of_cell? c2)] at c2
   have hr:=(Uh hfit).at k
   have hpz:Fi (prz rs k):=by
    cases k with
    | zero=>simp [prz,Fi]
    | succ k=>exact ((Uh hfit).at k).2.1
   have HF:=Hd (fun w'=>fault4 (Tri.lo (rs.getD k (0,0,0))) (Tri.hi (rs.getD k (0,0,0))) (Tri.vl (rs.getD k (0,0,0))) (prz rs k) w' hr.1 hr.2.1 hr.2.2 hpz)
   have hre:(Tri.lo (rs.getD k (0,0,0)),Tri.hi (rs.getD k (0,0,0)),Tri.vl (rs.getD k (0,0,0)))=rs.getD k (0,0,0):=rfl
   have hnx:prz rs (k+1)=Tri.hi (rs.getD k (0,0,0)):=rfl
   rw [check_step hlt,← bad_prz] at hgk
   rw [hre] at HF
   have HS:=Hd hgk
   have HN:=Hd hnx
   obtain ⟨p1,p2⟩:=hpz
   obtain ⟨⟨f1,f2⟩,⟨f3,f4⟩,f5,f6⟩:=hr
   have HK:Hid (∀ x,x=Tri.bad (some (prz rs k)) (rs.getD k (0,0,0))→x=0∨x=40∨x=41∨x=42):=by
    intro x hx; subst hx; unfold Tri.bad; split
    ·simp
    ·grind
   generalize Tri.bad (some (prz rs k)) (rs.getD k (0,0,0))=q at *
   generalize Tri.lo (rs.getD k (0,0,0))=l at *
   generalize Tri.hi (rs.getD k (0,0,0))=h at *
   generalize Tri.vl (rs.getD k (0,0,0))=x at *
   have hszw:=hbel.size
   have hba:Below w.heap.size w (wr.alloc (.cells #[.int .i64 l,.int .i64 h,.int .i64 x] 218)):=hbel.alloc hszw _
   have hc8:(wr.alloc (.cells #[.int .i64 l,.int .i64 h,.int .i64 x] 218)).cell? ⟨wr.heap.size,1,none⟩=some (.int .i64 h):=by simp
   go_wp2_with fail
   refine ((Uh HF) _).mono ?_
   rintro e w1 ⟨rfl,hb1⟩
   have hbw:Below w.heap.size w w1:=hba.trans (hb1.mono hba.size)
   rw [← hb1.cell (lt_of_cell? hc8)] at hc8
   by_cases hq:q=0
   ·subst hq
    have HS2:=Hd ((Uh HS).trans (if_pos rfl))
    go_wp2
    go_roundw
    case rel=>exact ⟨k+1,by go_num,by rw [Uh HN],by omega,hbw,Uh HS2⟩
    case measure=>simp [intOf]; omega
   ·have HR:TwoPost w res (.returned (.tuple #[.int .i64 (k:Int),.int .i64 q])) w1:=TwoPost.mk ((Uh HS).trans (if_neg hq)) hbw
    have hq':(q != 0)=true:=by simp [hq]
    go_wp2
    go_ret2
    exact HR
  ·obtain rfl:k=rs.length:=by omega
   have HE:=(Uh hend) _ hgk _ hbel
   cases ho:okv d with
   | false =>
    rw [ho] at HV HE
    have HF:=HE.1 rfl
    go_wp2_with fail
    refine ((Uh HV) _).mono ?_
    rintro e w1 ⟨rfl,rfl⟩
    go_wp2
    go_ret2
    exact HF
   | true =>
    rw [ho] at HV HE
    have HF:=HE.2 rfl
    go_wp2_with fail
    refine ((Uh HV) _).mono ?_
    rintro e w1 ⟨rfl,rfl⟩
    go_wp2
    go_ret2
    exact HF
end Go.Proofs.YtihhhjodonkkcaaGreatDoor.Ti
