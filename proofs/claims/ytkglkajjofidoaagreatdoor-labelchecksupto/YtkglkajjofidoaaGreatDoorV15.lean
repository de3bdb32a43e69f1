/- TbR7 TbS7 TbT7 TbU7 TbV7 TuA7 TuB7 TuC7 -/
import Derived.Test.YtkglkajjofidoaaGreatDoorV14
import Derived.Test.YtkglkajjofidoaaGreatDoorV10
import Derived.DeepKeys4
import Derived.WideKeyEntry
import Derived.Deep.AppendLies
import Derived.Deep.RegionHeld3
set_option maxHeartbeats 4000000
set_option maxRecDepth 20000
namespace Go.Proofs.YtkglkajjofidoaaGreatDoor
open Go.Proofs.Tryz
open Go.RowKit
structure Run where
 lo:Int
 hi:Int
 s:Int
def Run.ok (x:Run):Prop:=RunOk x.lo x.hi x.s
def Run.val (x:Run):Value:=runV x.lo x.hi x.s
def Run.none:Run:=⟨0,0,0⟩
def Run.meets (x y:Run):Bool:=y0J x.lo x.hi x.s y.lo y.hi y.s
theorem y8q (s hi:Int) (hs:0<=s) (p:Int->Bool):∀ (n:Nat) (c:Int),mA s hi p n c=true↔∃ k:Nat,k<n/\c+k * s<=hi/\p (c+k * s)=true
 | 0,c=>by simp [mA]
 | n+1,c=>by
  rw [mA];have e:∀ k:Nat,c+((k+1:Nat):Int) * s=c+s+k * s:=fun k=>(by push_cast; rw [Int.add_mul]; omega);split
  ·next h =>
   constructor
   ·intro h; cases h
   ·rintro ⟨k,_,h2,_⟩;have:=Int.mul_nonneg (show (0:Int)<=k by omega) hs;omega
  ·next h =>
   split
   ·next hp=>exact ⟨fun _=>⟨0,by omega,by simp; omega,by simpa using hp⟩,fun _=>rfl⟩
   ·next hp =>
    rw [y8q s hi hs p n];constructor
    ·rintro ⟨k,h1,h2,h3⟩;exact ⟨k+1,by omega,by rw [e]; exact h2,by rw [e]; exact h3⟩
    ·rintro ⟨k,h1,h2,h3⟩
     cases k with
     | zero=>exact absurd (by simpa using h3) hp
     | succ k=>rw [e] at h2 h3; exact ⟨k,by omega,h2,h3⟩
theorem y6E {lo hi s c c0:Int} (h:RunOk lo hi s) (hc:c0=fromI lo s c):lo<=c0/\c<=c0/\s∣c0 - lo/\∀ x,lo<=x->c<=x->s∣x - lo->c0<=x:=by
 obtain ⟨_,_,_,s0,_⟩:=h;unfold fromI at hc;split at hc
 ·subst hc; exact ⟨by omega,by assumption,by simp,fun x a _ _=>a⟩
 ·next hle =>
  have e:=Int.emod_add_mul_ediv (c - lo) s;have m0:=Int.emod_nonneg (c - lo) (show s≠0 by omega);have m1:=Int.emod_lt_of_pos (c - lo) (show 0<s by omega);by_cases hz:(c - lo) % s=0
  ·have aN:(s - (c - lo) % s) % s=0:=(by rw [hz]; simp);rw [aN] at hc;subst hc;refine ⟨by omega,by omega,?_,fun x _ b _=>by omega⟩;rw [show c+0 - lo=c - lo by omega];exact Int.dvd_of_emod_eq_zero hz
  ·have aN:(s - (c - lo) % s) % s=s - (c - lo) % s:=Int.emod_eq_of_lt (by omega) (by omega);rw [aN] at hc;subst hc
   have hd:s∣c+(s - (c - lo) % s) - lo:=by
    rw [show c+(s - (c - lo) % s) - lo=s * ((c - lo) / s)+s * 1 by omega,<- Int.mul_add];exact Int.dvd_mul_right _ _
   refine ⟨by omega,by omega,hd,fun x a b d=>?_⟩;obtain ⟨j,hj⟩:=Int.dvd_sub hd d;rcases Int.lt_or_le 0 j with h' | h'
   ·have:s * 1<=s * j:=Int.mul_le_mul_of_nonneg_left (by omega) (by omega);omega
   ·have:=Int.mul_nonpos_of_nonneg_of_nonpos (show 0<=s by omega) h';omega
theorem y4w {x y:Run} (hx:x.ok) (hy:y.ok):x.meets y=true↔∃ c,Cn.x6H x.lo x.hi x.s c/\Cn.x6H y.lo y.hi y.s c:=by
 have key:∀ {a b:Run},a.ok->b.ok->(mA a.s a.hi (hasB b.lo b.hi b.s) b.s.toNat (fromI a.lo a.s b.lo)=true↔∃ c,Cn.x6H a.lo a.hi a.s c/\Cn.x6H b.lo b.hi b.s c):=by
  intro a b ha hb;obtain ⟨f1,f2,f3,f4⟩:=y6E (c:=b.lo) ha rfl;obtain ⟨a0,a1,a2,a3,a4⟩:=ha;obtain ⟨b0,b1,b2,b3,b4⟩:=hb;rw [y8q a.s a.hi (by omega)];generalize fromI a.lo a.s b.lo=c0 at *;rw [Cn.y0S (N:=b.s.toNat) (c0:=c0) (by omega) (by omega) (by omega) f1 f2 f3 f4];constructor
  ·rintro ⟨k,h1,h2,h3⟩;unfold hasB at h3;obtain ⟨_,_,_,g4,_,g6⟩:=o0d h3;exact ⟨k,h1,h2,g4,Int.dvd_of_emod_eq_zero g6⟩
  ·rintro ⟨k,h1,h2,h3,h4⟩;have:=Int.mul_nonneg (show (0:Int)<=k by omega) (show 0<=a.s by omega);exact ⟨k,h1,h2,d0t ⟨by omega,by omega,by omega,h3,by omega,Int.emod_eq_zero_of_dvd h4⟩⟩
 unfold Run.meets y0J;split
 ·next h =>
  constructor
  ·intro h; cases h
  ·rintro ⟨c,⟨c1,c2,_⟩,c3,c4,_⟩; omega
 ·split
  ·rw [key hy hx];exact ⟨fun ⟨c,a,b⟩=>⟨c,b,a⟩,fun ⟨c,a,b⟩=>⟨c,b,a⟩⟩
  ·exact key hx hy
def runR (r:Rec):Run:=⟨r.lo,r.hi,stepP r⟩
theorem x7k {r:Rec} (h:Cn.right r=0) (hk:r.kind≠15):(runR r).ok:=by
 have h1:=Cn.x0o h hk;have h2:=Cn.right_step h
 have:stepP r=Cn.step r:=by
  unfold stepP Cn.step at *;split
  ·next h4=>rw [if_pos h4] at h2; omega
  ·rfl
 exact ⟨h1.1,h1.2.1,h1.2.2,by show 1<=stepP r; omega,by show stepP r<=64; omega⟩
theorem x4x {r:Rec} (h:Cn.right r=0):stepP r=Cn.step r:=by
 have h2:=Cn.right_step h;unfold stepP Cn.step at *;split
 ·next h4=>rw [if_pos h4] at h2; omega
 ·rfl
theorem x4G {a b:Rec} (ha:Cn.right a=0) (hb:Cn.right b=0) (hf:Cn.fam a.kind=Cn.fam b.kind) (hk:a.kind≠15) (aD:b.kind≠15):Cn.clash a b=(runR b).meets (runR a):=by
 rw [Bool.eq_iff_iff,Cn.x1z ha hb hf hk aD,y4w (x7k hb aD) (x7k ha hk)];constructor
 ·rintro ⟨c,h1,h2⟩;refine ⟨c,?_,?_⟩
  ·have:=(Cn.x0A hb aD c).1 h2;rw [<- x4x hb] at this;exact this
  ·have:=(Cn.x0A ha hk c).1 h1;rw [<- x4x ha] at this;exact this
 ·rintro ⟨c,h1,h2⟩;refine ⟨c,(Cn.x0A ha hk c).2 ?_,(Cn.x0A hb aD c).2 ?_⟩
  ·rw [<- x4x ha]; exact h2
  ·rw [<- x4x hb]; exact h1
structure RnAt (w:World) (b o:Nat) (x:Run):Prop where
 lo:w.cell? ⟨b,o,none⟩=some (.int .i64 x.lo)
 hi:w.cell? ⟨b,o+1,none⟩=some (.int .i64 x.hi)
 s:w.cell? ⟨b,o+2,none⟩=some (.int .i64 x.s)
theorem RnAt.below {w w':World} {b o:Nat} {x:Run} (h:RnAt w b o x) (hb:Bw w w'):RnAt w' b o x :=
 ⟨by rw [hb.cell (x0a h.lo)]; exact h.lo,by rw [hb.cell (x0a h.hi)]; exact h.hi,by rw [hb.cell (x0a h.s)]; exact h.s⟩
def Rns (w:World) (v:Value) (xs:List Run):Prop:=xs.length<=1000000000 /\
 ((xs=[]/\∃ ao cap,v=.slice ao 0 cap/\cap<=9223372036854775807) \/
  ∃ b off cap,v=.slice (some ⟨b,off,none⟩) xs.length cap/\xs.length<=cap/\cap<=9223372036854775807/\∀ i,i<xs.length->RnAt w b (off+i * 3) (xs.getD i Run.none))
theorem Rns.below {w w':World} {v:Value} {xs:List Run} (h:Rns w v xs) (hb:Bw w w'):Rns w' v xs:=by
 obtain ⟨h1,h3⟩:=h;refine ⟨h1,?_⟩;rcases h3 with h3 | ⟨b,off,cap,hv,hl,hm,hc⟩
 ·exact .inl h3
 ·exact .inr ⟨b,off,cap,hv,hl,hm,fun i hi=>(hc i hi).below hb⟩
theorem Rns.shape {w:World} {v:Value} {xs:List Run} (h:Rns w v xs):∃ ao cap,v=.slice ao xs.length cap/\xs.length<=cap/\cap<=9223372036854775807:=by
 rcases h.2 with ⟨rfl,ao,cap,hv,hm⟩ | ⟨b,off,cap,hv,hl,hm,_⟩
 ·exact ⟨ao,cap,hv,by simp,hm⟩
 ·exact ⟨_,cap,hv,hl,hm⟩
theorem Rns.place {w:World} {v:Value} {xs:List Run} (h:Rns w v xs) (ay:0<xs.length):∃ b off cap,v=.slice (some ⟨b,off,none⟩) xs.length cap/\xs.length<=cap/\cap<=9223372036854775807/\∀ i,i<xs.length->RnAt w b (off+i * 3) (xs.getD i Run.none):=by
 rcases h.2 with ⟨rfl,_⟩ | h
 ·simp at ay
 ·exact h
def fbN (p:Run->Bool):Nat->List Run->Int
 | _,[]=>-1
 | i,r :: l=>if p r then (i:Int) else fbN p (i+1) l
theorem y9v {p:Run->Bool} {rs:List Run} {k:Nat} {x:Int} (hk:k<rs.length) (h:x=fbN p k (rs.drop k)) (hp:p (rs.getD k Run.none)=true):x=(k:Int):=by
 rw [h,List.drop_eq_getElem_cons hk,fbN,if_pos];simpa [List.getD,hk] using hp
theorem y6z {p:Run->Bool} {rs:List Run} {k:Nat} {x:Int} (hk:k<rs.length) (h:x=fbN p k (rs.drop k)) (hp:p (rs.getD k Run.none)=false):x=fbN p (k+1) (rs.drop (k+1)):=by
 rw [h,List.drop_eq_getElem_cons hk,fbN,if_neg];have:p rs[k]=false:=(by simpa [List.getD,hk] using hp);simp [this]
theorem y9u {p:Run->Bool} {rs:List Run} {x:Int} (h:x=fbN p rs.length (rs.drop rs.length)):x=-1:=by
 rw [h,List.drop_length,fbN]
theorem y3F (p:Run->Bool):∀ (l:List Run) (i:Nat),decide (0<=fbN p i l)=l.any p
 | [],i=>rfl
 | r :: l,i=>by
  rw [fbN,List.any_cons]
  cases hp:p r with
  | true=>simp
  | false=>simpa using y3F p l (i+1)
theorem x3P:∀ args w,(callFunc 174 args).run prog w=.ok (.enter 174 args) w:=enters_of func174 (by kernel_rfl) rfl
def NIn (w:World) (v:Value) (xs:List Run) (W:World):Prop:=Rns W v xs/\Below w.heap.size w W
theorem NIn.on {w W W':World} {v:Value} {xs:List Run} (h:NIn w v xs W) (hb:Bw W W'):NIn w v xs W':=⟨h.1.below hb,h.2.trans (hb.mono h.2.size)⟩
theorem x6J (x:Run) (v:Value) (xs:List Run) (w:World) (hv:Rns w v xs) (hx:x.ok) (aA:∀ y∈xs,y.ok) :
  Calls prog 213 #[v,.func (.func 174) #[x.val] #[]] w (IntB w (fbN (fun y=>x.meets y) 0 xs)):=by
 have eg:=x3P;have aO:Hid (NIn w v xs w):=⟨hv,b0r⟩;have HP:Hid (∀ k W,k<xs.length->Calls prog 174 #[x.val,(xs.getD k Run.none).val] W (x0d W (x.meets (xs.getD k Run.none)))):=fun k W hk=>y4v _ _ _ _ _ _ W hx (aA _ (by simp [List.getD,hk]));have aP:Hid (fbN (fun y=>x.meets y) 0 xs=fbN (fun y=>x.meets y) 0 (xs.drop 0)):=(by rw [List.drop_zero]; rfl);have aI:=hv.1;obtain ⟨ao,cap,rfl,h1,h2⟩:=hv.shape;clear hv hx aA;unfold Run.val runV at *;generalize hq:fbN (fun y=>x.meets y) 0 xs=z at *;clear hq;go_enter func213,ntmps213;go_wp2;go_loopw [5,8] (fun _ i wr=>∃ k:Nat,i=.int .i64 k/\k<=xs.length/\z=fbN (fun y=>x.meets y) k (xs.drop k)/\NIn w (.slice ao xs.length cap) xs wr) (fun _ i _=>xs.length - (intOf i).toNat)
 case atStart=>exact ⟨0,rfl,by omega,V aP,V aO⟩
 case round =>
  obtain ⟨k,rfl,hk,hr,av⟩:=hrel;clear aP aO;by_cases hlt:k<xs.length
  ·obtain ⟨b,off,al,he,hc1,hc2,hc⟩:=av.1.place (by omega);obtain ⟨rfl,rfl⟩:ao=some ⟨b,off,none⟩/\cap=al:=(by simpa using he);obtain ⟨x0,x1,x2⟩:=hc k hlt;have HV:=O (V HP k wr hlt);have HH:Hid (x.meets (xs.getD k Run.none)=true->z=(k:Int)):=fun h=>y9v hlt hr h;have HN:Hid (x.meets (xs.getD k Run.none)=false->z=fbN (fun y=>x.meets y) (k+1) (xs.drop (k+1))):=fun h=>y6z hlt hr h;have aB:=O av;clear hr av hc he HP;generalize x.meets (xs.getD k Run.none)=y at HV HH HN;generalize (xs.getD k Run.none).lo=lo at *;generalize (xs.getD k Run.none).hi=hi at *;generalize (xs.getD k Run.none).s=st at *
   cases y with
   | true =>
    obtain rfl:=V HH rfl;clear HH HN;go_wp2_with (go_at_fn 174; refine (V HV).mono ?_; rintro e w1 ⟨rfl,aq⟩);have HF:=O ((V aB).on aq).2;clear HV aB;go_ret;exact ⟨rfl,V HF⟩
   | false =>
    have aT:=O (V HN rfl);clear HH HN;go_wp2_with (go_at_fn 174; refine (V HV).mono ?_; rintro e w1 ⟨rfl,aq⟩);have HF:=O ((V aB).on aq);clear HV aB;go_round
    case rel=>exact ⟨k+1,by go_num,by omega,V aT,V HF⟩
    case measure=>simp [intOf]; omega
  ·obtain rfl:k=xs.length:=(by omega);obtain rfl:=y9u hr;have HF:=O av.2;clear hr av HP;go_wp2;go_ret;exact ⟨rfl,V HF⟩
theorem x3Z (x:Run) (v:Value) (xs:List Run) (w:World) (hv:Rns w v xs) (hx:x.ok) (aA:∀ y∈xs,y.ok) :
  Calls prog 173 #[v,.func (.func 174) #[x.val] #[]] w (x0d w (xs.any fun y=>x.meets y)):=by
 have K:=O (x6J x v xs w hv hx aA);rw [<- y3F _ xs 0];obtain ⟨ao,cap,rfl,h1,h2⟩:=hv.shape;clear hv hx aA;generalize fbN (fun y=>x.meets y) 0 xs=z at *;unfold Run.val runV at *;go_enter func173,ntmps173;go_wp2_with fail;refine (V K).mono ?_;rintro e w1 ⟨rfl,aq⟩;clear K;go_wp2;go_ret;exact ⟨rfl,aq⟩
open Go.RowKit Go.MapKept Go.WideMaps
open Go.ChangeMaps (setBlock)
open Go.WideElems (findIdx_arr findIdx_born)
theorem x4r:laidOutB prog=true:=by kernel_rfl
theorem pairLaw:KeyLaw prog 261:=deep_law_laid x4r (m:=3) (by decide) (o0d (by kernel_rfl)) (by kernel_rfl) (by kernel_rfl)
def pk (a b:ByteArray):Value:=.agg #[.string a,.string b]
theorem y3j:prog.cellsOf 261=2:=by kernel_rfl
theorem y3l:prog.cellsOf 9=1:=by kernel_rfl
theorem y4m:prog.keyType 261=true:=by kernel_rfl
def Sh (a:ByteArray):Prop:=a.size<=1000
theorem x2a {a:ByteArray} (h:Sh a) (D:Nat):prog.keyLits (D+1) 9 [.string a]=some [.string a.data.toList]:=by
 rw [Program.keyLits.eq_def];simp only [underlying9];rw [if_pos (by unfold Sh at h; unfold maxLen; omega)]
theorem y1N {a b:ByteArray} (ha:Sh a) (hb:Sh b) (D:Nat):prog.keyLits (D+2) 261 [.string a,.string b]=some [.string a.data.toList,.string b.data.toList]:=by
 rw [Program.keyLits.eq_def];simp only [underlying261,y3j,y3l];rw [if_pos (show [Value.string a,Value.string b].length=2 from rfl)];have e:List.range 2=[0,1]:=rfl;rw [e];simp [List.mapM_cons,x2a ha D,x2a hb D]
theorem y4S {a b:ByteArray} (ha:Sh a) (hb:Sh b):∃ l,keyOf prog 261 (pk a b)=some l:=by
 have hf:(pk a b).formed prog 261=true:=by
  simp [pk,Value.formed,underlying261,y3j]
 obtain ⟨n,hn⟩:∃ n,prog.types.size+1=n+2:=⟨prog.types.size - 1,by have:0<prog.types.size:=o0d (by kernel_rfl); omega⟩;refine ⟨.string (keyBytes [.string a.data.toList,.string b.data.toList]),?_⟩;unfold keyOf;simp only [underlying261,y4m,hf,Bool.and_self,if_true,hn];show (prog.keyLits (n+2) 261 [.string a,.string b]).map _=_;rw [y1N ha hb n];rfl
theorem y8x {a b a' b':ByteArray} (h:pk a b=pk a' b'):a=a'/\b=b':=by
 unfold pk at h;simpa using h
structure MObj (es:Array MapEntry) (aa:Nat) (c:ByteArray->ByteArray->Int):Prop where
 st:Stamped es aa
 keys:∀ x∈es.toList,∃ a b,x.key=pk a b/\x.val=.int .i64 (c a b)/\Sh a/\Sh b
 none:∀ a b,(∀ x∈es.toList,x.key≠pk a b)->c a b=0
def MAt (w:World) (r:Nat) (c:ByteArray->ByteArray->Int):Prop:=∃ es aa,w.heap[r]?=some (.map es aa)/\MObj es aa c
theorem MObj.ks {es:Array MapEntry} {aa:Nat} {c:ByteArray->ByteArray->Int} (h:MObj es aa c):∀ x∈es.toList,∃ l,keyOf prog 261 x.key=some l:=fun x hx=>by
 obtain ⟨a,b,e,_,ha,hb⟩:=h.keys x hx;rw [e];exact y4S ha hb
theorem x7l {w:World} {r:Nat} {es:Array MapEntry} {aa:Nat} {c:ByteArray->ByteArray->Int} (hb:w.heap[r]?=some (.map es aa)) (h:MObj es aa c) {a b:ByteArray} (ha:Sh a) (ai:Sh b) :
  (Instr.lookup 185 (.map (some r)) (pk a b) false).run prog w=.ok (.int .i64 (c a b)) w:=by
 obtain ⟨l,hl⟩:=y4S ha ai;rcases pairLaw.find w hl es.toList h.ks with ⟨h1,h2⟩ | ⟨j,e0,h1,h2,h3⟩
 ·rw [h.none a b h2];simp [Instr.lookup,run_underlying underlying185,MapKept.run_getObj_map hb,pairLaw.check w _ hl,h1,Result.andThen]
 ·obtain ⟨a',b',e1,e2,_,_⟩:=h.keys e0 (List.mem_of_getElem? h2);obtain ⟨rfl,rfl⟩:=y8x (e1.symm.trans h3);simp [Instr.lookup,run_underlying underlying185,MapKept.run_getObj_map hb,pairLaw.check w _ hl,h1,Result.andThen,e2]
theorem x5e {f:MapEntry->MapEntry}:∀ (l:List MapEntry) (j:Nat) (e0:MapEntry),l[j]?=some e0->f e0=e0->l.modify j f=l
 | [],j,e0,h,_=>by simp at h
 | x :: l,0,e0,h,hf=>by simp at h; subst h; simp [hf]
 | x :: l,j+1,e0,h,hf=>by simp at h; simp [x5e l j e0 h hf]
def incr (c:ByteArray->ByteArray->Int) (a b:ByteArray):ByteArray->ByteArray->Int:=fun x y=>if x=a/\y=b then c a b+1 else c x y
theorem y5m {w:World} {r:Nat} {es:Array MapEntry} {aa:Nat} {c:ByteArray->ByteArray->Int} (hb:w.heap[r]?=some (.map es aa)) (h:MObj es aa c) {a b:ByteArray} (ha:Sh a) (ai:Sh b) :
  ∃ (st:Nat) (ad:Array MapEntry) (ab:Nat),(Instr.mapEntry 185 (.map (some r)) (pk a b)).run prog w=.ok (.tuple #[.int .i64 (c a b),goInt st]) (setBlock w r (.map ad ab))/\MObj ad ab c /\
   ∀ W:World,W.heap[r]?=some (.map ad ab)->∃ es' clock',(Instr.entryStore 185 (.map (some r)) (goInt st) (.int .i64 (c a b+1))).run prog W=.ok () (setBlock W r (.map es' clock'))/\MObj es' clock' (incr c a b):=by
 obtain ⟨l,hl⟩:=y4S ha ai;obtain ⟨s1,s2,s3⟩:=h.st;rcases pairLaw.find w hl es.toList h.ks with ⟨h1,h2⟩ | ⟨j,e0,h1,h2,h3⟩
 ·have hz:=h.none a b h2
  have ag:(es.push ⟨pk a b,.int .i64 0,aa⟩).findIdx? (fun e=>((e.born:Nat):Int)==((aa:Nat):Int))=some es.size:=by
   rw [findIdx_arr]
   have:=findIdx_born (l:=(es.push ⟨pk a b,.int .i64 0,aa⟩).toList) (j:=es.size) (e0:=⟨pk a b,.int .i64 0,aa⟩) (by
    simp only [Array.toList_push,List.map_append,List.map_cons,List.map_nil];refine List.nodup_append.2 ⟨s2,by simp,fun a ha c hc e1=>?_⟩;simp only [List.mem_singleton] at hc;obtain ⟨x,hx,rfl⟩:=List.mem_map.1 ha;have:=s1 x hx
    omega) (by simp)
   simpa using this
  refine ⟨aa,es.push ⟨pk a b,.int .i64 0,aa⟩,aa+1,?_,⟨stamped_push h.st h2,fun x hx=>?_,fun a' b' hn=>?_⟩,fun W hW=>⟨(es.push ⟨pk a b,.int .i64 0,aa⟩).modify es.size (fun e=>{ e with val:=.int .i64 (c a b+1) }),aa+1,?_,?_⟩⟩
  ·rw [hz];simp [Instr.mapEntry,run_underlying underlying185,MapKept.run_getObj_map hb,pairLaw.check w false hl,h1,MapKept.run_setObj_map _ hb,Result.andThen,setBlock]
  ·simp only [Array.toList_push,List.mem_append,List.mem_singleton] at hx;rcases hx with hx | rfl
   ·exact h.keys x hx
   ·exact ⟨a,b,rfl,by rw [hz],ha,ai⟩
  ·exact h.none a' b' fun x hx=>hn x (by simp [hx])
  ·simp [Instr.entryStore,MapKept.run_getObj_map hW,MapKept.run_setObj_map _ hW,ag,Result.andThen,setBlock,goInt,asInt,asIntOf]
  ·have hm:((es.push ⟨pk a b,.int .i64 0,aa⟩).modify es.size (fun e=>{ e with val:=.int .i64 (c a b+1) })).toList=es.toList++[⟨pk a b,.int .i64 (c a b+1),aa⟩]:=by
    rw [Array.toList_modify,Array.toList_push,<- Array.length_toList];exact Go.WideElems.modify_last _ _ _
   refine ⟨stamped_modify (stamped_push h.st h2) _ _ (fun _ _=>rfl) (fun _ _ _=>rfl),fun x hx=>?_,fun a' b' hn=>?_⟩
   ·rw [hm] at hx;simp only [List.mem_append,List.mem_singleton] at hx;rcases hx with hx | rfl
    ·obtain ⟨a',b',e1,e2,e3,e4⟩:=h.keys x hx;refine ⟨a',b',e1,?_,e3,e4⟩;unfold incr;rw [if_neg,e2];rintro ⟨rfl,rfl⟩;exact h2 x hx e1
    ·exact ⟨a,b,rfl,by unfold incr; rw [if_pos ⟨rfl,rfl⟩],ha,ai⟩
   ·rw [hm] at hn;unfold incr;rw [if_neg]
    ·exact h.none a' b' fun x hx=>hn x (by simp [hx])
    ·rintro ⟨rfl,rfl⟩;exact hn ⟨pk a' b',.int .i64 (c a' b'+1),aa⟩ (by simp) rfl
 ·have ax:=List.mem_of_getElem? h2;obtain ⟨a',b',e1,e2,_,_⟩:=h.keys e0 ax;obtain ⟨rfl,rfl⟩:=y8x (e1.symm.trans h3);have hj:es[j]?=some e0:=by rw [<- Array.getElem?_toList]; exact h2
  have az:es.modify j (fun e=>{ e with key:=pk a' b' })=es:=by
   apply Array.toList_inj.1;rw [Array.toList_modify];exact x5e es.toList j e0 h2 (by rw [<- h3])
  have ag:es.findIdx? (fun e=>((e.born:Nat):Int)==((e0.born:Nat):Int))=some j:=by
   rw [findIdx_arr];exact findIdx_born s2 h2
  refine ⟨e0.born,es,aa,?_,h,fun W hW=>⟨es.modify j (fun e=>{ e with val:=.int .i64 (c a' b'+1) }),aa,?_,?_⟩⟩
  ·have aZ:=pairLaw.stays w hl;simp [Instr.mapEntry,run_underlying underlying185,MapKept.run_getObj_map hb,pairLaw.check w false hl,h1,MapKept.run_setObj_map _ hb,Result.andThen,setBlock,hj,h3,aZ,e2,az]
  ·simp [Instr.entryStore,MapKept.run_getObj_map hW,MapKept.run_setObj_map _ hW,ag,Result.andThen,setBlock,goInt,asInt,asIntOf]
  ·refine ⟨stamped_modify h.st _ _ (fun _ _=>rfl) (fun _ _ _=>rfl),fun x hx=>?_,fun a1 b1 hn=>?_⟩
   ·rw [Array.toList_modify] at hx;obtain ⟨i,hi,rfl⟩:=List.getElem_of_mem hx;rw [List.length_modify] at hi;rw [List.getElem_modify];by_cases hij:j=i
    ·subst hij
     have:es.toList[j]=e0:=by
      have:=List.getElem?_eq_getElem hi;rw [h2] at this;exact (Option.some.inj this).symm
     rw [if_pos rfl,this];exact ⟨a',b',h3,by unfold incr; rw [if_pos ⟨rfl,rfl⟩],ha,ai⟩
    ·rw [if_neg hij];obtain ⟨x1,y1,f1,f2,f3,f4⟩:=h.keys es.toList[i] (List.getElem_mem hi);refine ⟨x1,y1,f1,?_,f3,f4⟩;unfold incr;rw [if_neg,f2];rintro ⟨rfl,rfl⟩
     have aj:j<es.toList.length:=by
      rcases Nat.lt_or_ge j es.toList.length with hh | hh
      ·exact hh
      ·rw [List.getElem?_eq_none hh] at h2; cases h2
     have:es.toList[j]=e0:=by
      have:=List.getElem?_eq_getElem aj;rw [h2] at this;exact (Option.some.inj this).symm
     have hk:(es.toList.map (·.key))[j]'(by simpa using aj)=(es.toList.map (·.key))[i]'(by simpa using hi):=by
      simp only [List.getElem_map,this,f1,h3]
     rcases Nat.lt_or_gt_of_ne hij with hlt | hlt
     ·exact (List.pairwise_iff_getElem.1 s3 j i (by simpa using aj) (by simpa using hi) hlt) hk
     ·exact (List.pairwise_iff_getElem.1 s3 i j (by simpa using hi) (by simpa using aj) hlt) hk.symm
   ·unfold incr;rw [if_neg]
    ·refine h.none a1 b1 fun x hx he=>?_
     have:pk a1 b1∈(es.modify j (fun e=>{ e with val:=.int .i64 (c a' b'+1) })).toList.map (·.key):=by
      rw [modify_keys j (fun e=>{ e with val:=.int .i64 (c a' b'+1) }) (fun _ _=>rfl)];exact List.mem_map.2 ⟨x,hx,he⟩
     obtain ⟨y,hy,aM⟩:=List.mem_map.1 this;exact hn y hy aM
    ·rintro ⟨rfl,rfl⟩
     have:pk a1 b1∈(es.modify j (fun e=>{ e with val:=.int .i64 (c a1 b1+1) })).toList.map (·.key):=by
      rw [modify_keys j (fun e=>{ e with val:=.int .i64 (c a1 b1+1) }) (fun _ _=>rfl)];exact List.mem_map.2 ⟨e0,ax,h3⟩
     obtain ⟨y,hy,aM⟩:=List.mem_map.1 this;exact hn y hy aM
open Go.RowKit Go.MapKept Go.WideMaps
open Go.ChangeMaps (setBlock)
theorem x3t (B:Nat) (w:World) (r:Nat) (o:Obj) (h:B<=r):Below B w (setBlock w r o):=by
 refine ⟨rfl,rfl,rfl,?_,fun k hk=>?_⟩
 ·show w.heap.size<=(w.heap.setIfInBounds r o).size;simp
 ·show (w.heap.setIfInBounds r o)[k]?=w.heap[k]?;rw [Array.getElem?_setIfInBounds_ne (by omega)]
theorem x9M (w:World) (r:Nat) (o:Obj) (h:r<w.heap.size):(setBlock w r o).heap[r]?=some o:=by
 show (w.heap.setIfInBounds r o)[r]?=some o;simp [h]
theorem x1G (w:World) {r k:Nat} (o:Obj) (h:k≠r):(setBlock w r o).heap[k]?=w.heap[k]?:=by
 show (w.heap.setIfInBounds r o)[k]?=w.heap[k]?;rw [Array.getElem?_setIfInBounds_ne (fun e=>h e.symm)]
theorem cell_far {w:World} {r L i:Nat} {v:Value} (o:Obj) (h:L≠r) (hc:w.cell? ⟨L,i,none⟩=some v):(setBlock w r o).cell? ⟨L,i,none⟩=some v:=by
 unfold World.cell? at *;rw [x1G w o h];exact hc
structure But (r:Nat) (w w':World):Prop where
 size:w'.heap.size=w.heap.size
 far:∀ k,k≠r->w'.heap[k]?=w.heap[k]?
 below:∀ B,B<=r->Below B w w'
def MixB (w:World) (r:Nat) (c:ByteArray->ByteArray->Int) (a b:ByteArray) (e:Ending) (w':World):Prop:=e=.returned (.bool (decide (0<c a b)))/\MAt w' r (incr c a b)/\But r w w'
theorem y4y (L r:Nat) (a b:ByteArray) (c:ByteArray->ByteArray->Int) (w:World) (hL:w.cell? ⟨L,11,none⟩=some (.map (some r))) (aR:L≠r) (hm:MAt w r c) (ha:Sh a) (hb:Sh b) (hc:0<=c a b/\c a b<=100000) :
  Calls prog 172 #[.pointer (some ⟨L,0,none⟩),.string a,.string b] w (MixB w r c a b):=by
 obtain ⟨es,aa,h0,ah⟩:=hm
 have hr:r<w.heap.size:=by
  rcases Nat.lt_or_ge r w.heap.size with hh | hh
  ·exact hh
  ·rw [Array.getElem?_eq_none hh] at h0; cases h0
 have aF:w.drew.heap[r]?=some (.map es aa):=h0;obtain ⟨st,ad,ab,e1,aS,e2⟩:=y5m aF ah ha hb;have an:(setBlock w.drew r (.map ad ab)).heap[r]?=some (.map ad ab):=x9M _ _ _ hr;obtain ⟨ae,ac,e3,aJ⟩:=e2 _ an;have ap:(setBlock (setBlock w.drew r (.map ad ab)) r (.map ae ac)).heap[r]?=some (.map ae ac):=x9M _ _ _ (by simpa [setBlock] using hr);have l0:=x7l aF ah ha hb;have l1:=x7l an aS ha hb;have l2:=x7l ap aJ ha hb;have aE:w.drew.cell? ⟨L,11,none⟩=some (.map (some r)):=hL;have aC:=cell_far (.map ad ab) aR aE;have aQ:=cell_far (.map ae ac) aR aC
 have am:But r w (setBlock (setBlock w.drew r (.map ad ab)) r (.map ae ac)):=⟨by simp [setBlock],fun k hk=>by rw [x1G _ _ hk,x1G _ _ hk]; rfl,fun B hB=>by
  have h1:Below B w w.drew:=⟨rfl,rfl,rfl,l0r _,fun _ _=>rfl⟩
  exact (h1.trans (x3t B w.drew r _ hB)).trans (x3t B _ r _ hB)⟩
 have HF:MixB w r c a b (.returned (.bool (decide (0<c a b)))) (setBlock (setBlock w.drew r (.map ad ab)) r (.map ae ac)):=⟨rfl,⟨ae,ac,ap,aJ⟩,am⟩;have aw:incr c a b a b=c a b+1:=(by unfold incr; rw [if_pos ⟨rfl,rfl⟩]);rw [aw] at l2;unfold pk goInt at *;generalize hn:c a b=n at *;have hw:IntKind.i64.wrap (n+1)=n+1:=IntWalk.i64_in _ ⟨by omega,by omega⟩;have hgt:decide (1<n+1)=decide (0<n):=decide_eq_decide.2 (by omega);clear h0 ah hr aF e2 aS aJ an ap am aw hn;generalize ap:setBlock (setBlock w.drew r (.map ad ab)) r (.map ae ac)=W2 at *;generalize an:setBlock w.drew r (.map ad ab)=W1 at *;clear an ap;go_enter func172,ntmps172;go_wp2;refine wp_region_held_drew (S:=fun w'=>w'.cell? ⟨L,11,none⟩=some (.map (some r))) (by kernel_rfl) (aE) (fun hHeld=>?_);refine tk9 0 (.pointer (some ⟨L,0,none⟩)) ?_;refine tk9 1 (.pointer (some ⟨L,0,none⟩)) ?_;refine tk9 2 (.pointer (some ⟨L,11,none⟩)) ?_;refine tk9 3 (.map (some r)) ?_;refine tk9 4 (.string a) ?_;refine tk9 5 (.string b) ?_;refine tk9 6 (.agg #[.string a,.string b]) ?_;refine wpAnyH_ready (rs:=[7,9]) (by kernel_rfl) (by simp) ?_;refine AllReadyH.cons (o:=⟨some 14,_,_,_,_,_⟩) rfl (fun K hK=>?_) (AllReadyH.cons (o:=⟨some 16,_,_,_,_,_⟩) rfl (fun K hK=>?_) AllReadyH.nil)
 ·go_simp;refine hK.out _ _ ?_ (fun hHeld=>?_)
  ·exact aE
  clear hK K
  try simp only [Act.put,sa9,sb9,sc9]
  refine tk9 8 (.int .i64 (n+1)) ?_;refine rd9 9 fun K hK=>?_;go_simp;refine hK.out _ _ ?_ (fun hHeld=>?_)
  ·exact aC
  clear hK K
  try simp only [Act.put,sa9,sb9,sc9]
  refine tk9 10 (.int .i64 (st:Int)) ?_;refine rd9 11 fun K hK=>?_;go_simp;refine hK.out _ _ ?_ (fun hHeld=>?_)
  ·exact aQ
  clear hK K
  try simp only [Act.put,sa9,sb9,sc9]
  refine wpAnyH_done (by kernel_rfl) ?_ _;go_wp2;go_ret;exact HF
 ·go_simp;refine hK.out _ _ ?_ (fun hHeld=>?_)
  ·exact aC
  clear hK K
  try simp only [Act.put,sa9,sb9,sc9]
  refine tk9 10 (.int .i64 (st:Int)) ?_;refine rd9 7 fun K hK=>?_;go_simp;refine hK.out _ _ ?_ (fun hHeld=>?_)
  ·exact aC
  clear hK K
  try simp only [Act.put,sa9,sb9,sc9]
  refine tk9 8 (.int .i64 (n+1)) ?_;refine rd9 11 fun K hK=>?_;go_simp;refine hK.out _ _ ?_ (fun hHeld=>?_)
  ·exact aQ
  clear hK K
  try simp only [Act.put,sa9,sb9,sc9]
  refine wpAnyH_done (by kernel_rfl) ?_ _;go_wp2;go_ret;exact HF
def x1p:List Run->List Value
 | []=>[]
 | x :: l=>.int .i64 x.lo :: .int .i64 x.hi :: .int .i64 x.s :: x1p l
theorem x6f:∀ (l:List Run) (x:Run),x1p (l++[x])=x1p l++[.int .i64 x.lo,.int .i64 x.hi,.int .i64 x.s]
 | [],x=>rfl
 | y :: l,x=>by simp [x1p,x6f l x]
theorem x8b:∀ (l:List Run) (i:Nat),i<l.length->(x1p l)[i * 3]?=some (.int .i64 (l.getD i Run.none).lo)/\(x1p l)[i * 3+1]?=some (.int .i64 (l.getD i Run.none).hi)/\(x1p l)[i * 3+2]?=some (.int .i64 (l.getD i Run.none).s)
 | [],i,h=>by simp at h
 | x :: l,0,_=>by simp [x1p]
 | x :: l,i+1,h=>by
  have:=x8b l i (by simpa using h);rw [show (i+1) * 3=i * 3+1+1+1 by omega];simpa [x1p] using this
def Ln (w:World) (B:Nat) (v:Value) (xs:List Run):Prop:=xs.length<=100000/\w.ownsRow B 199 3 v xs.length (x1p xs)
theorem Ln.rns {w:World} {B:Nat} {v:Value} {xs:List Run} (h:Ln w B v xs):Rns w v xs:=by
 obtain ⟨h1,h2,h3⟩:=h;refine ⟨by omega,?_⟩;rcases h3 with ⟨rfl,h0⟩ | ⟨g,cap,cur,rfl,_,hg,hn,hc,hs,ht⟩
 ·exact .inl ⟨List.eq_nil_of_length_eq_zero h0,Option.none,0,rfl,by omega⟩
 ·refine .inr ⟨g,0,cap,rfl,hn,by unfold maxLen at hc; omega,fun i hi=>?_⟩
  have key:∀ j (v:Value),(x1p xs)[j]?=some v->w.cell? ⟨g,j,Option.none⟩=some v:=fun j v hv=>by
   rw [<- ht] at hv
   have aj:j<xs.length * 3:=by
    rcases Nat.lt_or_ge j (xs.length * 3) with hh | hh
    ·exact hh
    ·rw [List.getElem?_eq_none (by rw [List.length_take]; omega)] at hv; cases hv
   rw [List.getElem?_take_of_lt aj,Array.getElem?_toList] at hv;have hj:j<cur.size:=(by rw [hs]; omega);rw [cell_of (j:=j) hg hj];simpa [Array.getD,hj,Array.getElem?_eq_getElem hj] using hv
  obtain ⟨a1,a2,a3⟩:=x8b xs i hi;exact ⟨by rw [Nat.zero_add]; exact key _ _ a1,by rw [Nat.zero_add]; exact key _ _ a2,by rw [Nat.zero_add]; exact key _ _ a3⟩
theorem x3T {w:World} {B e sz n:Nat} {v:Value} {us:List Value} (h:w.ownsRow B e sz v n us) {k:Nat} (hk:v.ownBlock=some k):k<w.heap.size/\B<=k:=by
 rcases h.2 with ⟨rfl,_⟩ | ⟨g,cap,cur,rfl,hb,hg,_⟩
 ·cases hk
 ·cases hk;refine ⟨?_,hb⟩;rcases Nat.lt_or_ge g w.heap.size with hh | hh
  ·exact hh
  ·rw [Array.getElem?_eq_none hh] at hg; cases hg
theorem alloc_at (w:World) (o:Obj):(w.alloc o).heap[w.heap.size]?=some o:=by
 show (w.heap.push o)[w.heap.size]?=_;simp
structure LG (w:World) (B L r:Nat) (vs:Nat->Value) (fs:Nat->List Run) (c:ByteArray->ByteArray->Int):Prop where
 bl:B<=L
 br:B<=r
 lr:L≠r
 blk:∃ cur,w.heap[L]?=some (.cells cur 189 (0,0))/\cur.size=12/\(∀ f,f<11->cur.getD f undef=vs f)/\cur.getD 11 undef=.map (some r)
 map:MAt w r c
 rows:∀ f,f<11->Ln w B (vs f) (fs f)
 far:∀ f,f<11->∀ k,(vs f).ownBlock=some k->k≠L/\k≠r
 apart:∀ f g,f<11->g<11->f≠g->∀ k,(vs f).ownBlock=some k->(vs g).ownBlock≠some k
theorem lt_of_block {w:World} {k:Nat} {o:Obj} (h:w.heap[k]?=some o):k<w.heap.size:=by
 rcases Nat.lt_or_ge k w.heap.size with hh | hh
 ·exact hh
 ·rw [Array.getElem?_eq_none hh] at h; cases h
theorem LG.keep {w W:World} {B L r:Nat} {vs:Nat->Value} {fs:Nat->List Run} {c:ByteArray->ByteArray->Int} (h:LG w B L r vs fs c) (hk:∀ k,k<w.heap.size->W.heap[k]?=w.heap[k]?):LG W B L r vs fs c:=by
 obtain ⟨cur,h1,h2,h3,h4⟩:=h.blk;obtain ⟨es,aa,h5,h6⟩:=h.map
 exact ⟨h.bl,h.br,h.lr,⟨cur,by rw [hk L (lt_of_block h1)]; exact h1,h2,h3,h4⟩,⟨es,aa,by rw [hk r (lt_of_block h5)]; exact h5,h6⟩,
  fun f hf=>⟨(h.rows f hf).1,x0t (h.rows f hf).2 fun g hg=>hk g (x3T (h.rows f hf).2 hg).1⟩,h.far,h.apart⟩
theorem LG.on {w W:World} {B L r:Nat} {vs:Nat->Value} {fs:Nat->List Run} {c:ByteArray->ByteArray->Int} (h:LG w B L r vs fs c) (hb:Bw w W):LG W B L r vs fs c:=h.keep hb.block
theorem LG.cell {w:World} {B L r:Nat} {vs:Nat->Value} {fs:Nat->List Run} {c:ByteArray->ByteArray->Int} (h:LG w B L r vs fs c) {f:Nat} (hf:f<11):w.cell? ⟨L,f,none⟩=some (vs f):=by
 obtain ⟨cur,h1,h2,h3,h4⟩:=h.blk;rw [cell_of (j:=f) h1 (by omega),h3 f hf]
theorem LG.mcell {w:World} {B L r:Nat} {vs:Nat->Value} {fs:Nat->List Run} {c:ByteArray->ByteArray->Int} (h:LG w B L r vs fs c):w.cell? ⟨L,11,none⟩=some (.map (some r)):=by
 obtain ⟨cur,h1,h2,h3,h4⟩:=h.blk;rw [cell_of (j:=11) h1 (by omega),h4]
def upd {α:Type} (g:Nat->α) (f:Nat) (v:α):Nat->α:=fun k=>if k=f then v else g k
theorem upd_same {α:Type} (g:Nat->α) (f:Nat) (v:α):upd g f v f=v:=if_pos rfl
theorem x1k {α:Type} (g:Nat->α) {f k:Nat} (v:α) (h:k≠f):upd g f v k=g k:=if_neg h
theorem LG.mixed {w W:World} {B L r:Nat} {vs:Nat->Value} {fs:Nat->List Run} {c c':ByteArray->ByteArray->Int} (h:LG w B L r vs fs c) (hm:MAt W r c') (hb:But r w W):LG W B L r vs fs c':=by
 obtain ⟨cur,h1,h2,h3,h4⟩:=h.blk
 exact ⟨h.bl,h.br,h.lr,⟨cur,by rw [hb.far L h.lr]; exact h1,h2,h3,h4⟩,hm,
  fun f hf=>⟨(h.rows f hf).1,x0t (h.rows f hf).2 fun g hg=>hb.far g (h.far f hf g hg).2⟩,h.far,h.apart⟩
theorem LG.more {w W w8:World} {B L r:Nat} {vs:Nat->Value} {fs:Nat->List Run} {c:ByteArray->ByteArray->Int} {f gg cap:Nat} {x:Run} (h:LG w B L r vs fs c) (hf:f<11) (aI:(fs f).length<100000)
  (hW:∀ k,k<w.heap.size->W.heap[k]?=w.heap[k]?) (hsz:w.heap.size<=W.heap.size) (hg:W.grownBy w8 (vs f).ownBlock) (aG:(vs f).ownBlock=some gg\/gg=W.heap.size)
  (aK:w8.ownsRow B 199 3 (.slice (some ⟨gg,0,none⟩) ((fs f).length+1) cap) ((fs f).length+1) (x1p (fs f)++[.int .i64 x.lo,.int .i64 x.hi,.int .i64 x.s])) :
  LG (w8.setCell ⟨L,f,none⟩ (.slice (some ⟨gg,0,none⟩) ((fs f).length+1) cap)) B L r (upd vs f (.slice (some ⟨gg,0,none⟩) ((fs f).length+1) cap)) (upd fs f (fs f++[x])) c:=by
 obtain ⟨cur,h1,h2,h3,h4⟩:=h.blk;obtain ⟨es,aa,h5,h6⟩:=h.map;have hL:=lt_of_block h1;have hr:=lt_of_block h5;have aX:some L≠(vs f).ownBlock:=fun e=>(h.far f hf L e.symm).1 rfl;have aY:some r≠(vs f).ownBlock:=fun e=>(h.far f hf r e.symm).2 rfl
 have au:gg≠L:=by
  rcases aG with e | e
  ·exact (h.far f hf gg e).1
  ·omega
 have aH:gg≠r:=by
  rcases aG with e | e
  ·exact (h.far f hf gg e).2
  ·omega
 have k8:∀ k,k<w.heap.size->some k≠(vs f).ownBlock->w8.heap[k]?=w.heap[k]?:=fun k hk hn=>(hg.block k (by omega) hn).trans (hW k hk);have aU:w8.heap[L]?=some (.cells cur 189 (0,0)):=(k8 L hL aX).trans h1;have af:∀ k,k≠L->(w8.setCell ⟨L,f,none⟩ (.slice (some ⟨gg,0,none⟩) ((fs f).length+1) cap)).heap[k]?=w8.heap[k]?:=fun k hk=>x0g _ hk;refine ⟨h.bl,h.br,h.lr,⟨_,x0f aU _,by simpa using h2,fun g hg'=>?_,?_⟩,⟨es,aa,by rw [af r (fun e=>h.lr e.symm),k8 r hr aY]; exact h5,h6⟩,fun g hg'=>?_,fun g hg' k hk=>?_,fun g1 g2 hg1 hg2 ay k hk=>?_⟩
 ·by_cases e:g=f
  ·subst e;rw [upd_same];simp [Array.getD,h2,show g<12 by omega]
  ·rw [x1k _ _ e,<- h3 g hg'];simp [Array.getD,h2,show g<12 by omega,Array.getElem_setIfInBounds_ne _ (fun e'=>e e'.symm)]
 ·rw [<- h4];simp [Array.getD,h2,Array.getElem_setIfInBounds_ne _ (show f≠11 by omega)]
 ·by_cases e:g=f
  ·subst e;rw [upd_same,upd_same];refine ⟨by simp; omega,?_⟩;rw [x6f,show (fs g++[x]).length=(fs g).length+1 by simp]
   exact x0t aK fun k hk=>by
    have:gg=k:=(by simpa [Value.ownBlock] using hk);subst this;exact af gg au
  ·rw [x1k _ _ e,x1k _ _ e];refine ⟨(h.rows g hg').1,x0t (h.rows g hg').2 fun k hk=>?_⟩;rw [af k (h.far g hg' k hk).1];exact k8 k (x3T (h.rows g hg').2 hk).1 (fun e'=>h.apart g f hg' hf e k hk e'.symm)
 ·by_cases e:g=f
  ·subst e;rw [upd_same] at hk;have:gg=k:=(by simpa [Value.ownBlock] using hk);subst this;exact ⟨au,aH⟩
  ·rw [x1k _ _ e] at hk;exact h.far g hg' k hk
 ·have ar:∀ g,g<11->g≠f->(vs g).ownBlock≠some gg:=fun g hg' hn e=>by
   rcases aG with e' | e'
   ·exact h.apart g f hg' hf hn gg e e'
   ·have:=(x3T (h.rows g hg').2 e).1;omega
  by_cases e1:g1=f
  ·subst e1;rw [upd_same] at hk;have:gg=k:=(by simpa [Value.ownBlock] using hk);subst this;rw [x1k _ _ (fun e=>ay e.symm)];exact ar g2 hg2 (fun e=>ay e.symm)
  ·rw [x1k _ _ e1] at hk;by_cases e2:g2=f
   ·subst e2;rw [upd_same];intro e;have:gg=k:=(by simpa [Value.ownBlock] using e);subst this;exact ar g1 hg1 e1 hk
   ·rw [x1k _ _ e2];exact h.apart g1 g2 hg1 hg2 ay k hk
theorem Rown.far7 {w W:World} {B:Nat} {v:Value} {ps:List (Rec × Value)} (h:Rown w B v ps) (hk:∀ k,B<=k->k<w.heap.size->W.heap[k]?=w.heap[k]?):Rown W B v ps :=
 ⟨x0t h.1 fun g hg=>hk g (x3T h.1 hg).2 (x3T h.1 hg).1,fun p hp=>(h.2 p hp).keep fun g hg=>hk g (x3T (h.2 p hp).2.2 hg).2 (x3T (h.2 p hp).2.2 hg).1⟩
theorem Rown.on7 {w W:World} {B:Nat} {v:Value} {ps:List (Rec × Value)} (h:Rown w B v ps) (hb:Bw w W):Rown W B v ps:=h.far7 fun k _ hk=>hb.block k hk
def putR (W:World) (g off:Nat) (q:Rec × Value):World:=(((((((W.setCell ⟨g,off,none⟩ (.int .i64 q.1.kind)).setCell ⟨g,off+1,none⟩ (.int .i64 q.1.lo)).setCell ⟨g,off+2,none⟩ (.int .i64 q.1.hi)).setCell ⟨g,off+3,none⟩ (.int .i64 q.1.n)).setCell ⟨g,off+4,none⟩ q.2).setCell ⟨g,off+5,none⟩ (.string q.1.name)).setCell ⟨g,off+6,none⟩ (.string q.1.other)).setCell ⟨g,off+7,none⟩ (.float .f64 q.1.wt)
def set8 (c:Array Value) (off:Nat) (q:Rec × Value):Array Value:=(((((((c.setIfInBounds off (.int .i64 q.1.kind)).setIfInBounds (off+1) (.int .i64 q.1.lo)).setIfInBounds (off+2) (.int .i64 q.1.hi)).setIfInBounds (off+3) (.int .i64 q.1.n)).setIfInBounds (off+4) q.2).setIfInBounds (off+5) (.string q.1.name)).setIfInBounds (off+6) (.string q.1.other)).setIfInBounds (off+7) (.float .f64 q.1.wt)
theorem y5o (c:Array Value) (off:Nat) (q:Rec × Value):(set8 c off q).size=c.size:=by simp [set8]
theorem y5n (c:Array Value) (off:Nat) (q:Rec × Value) (h:off+8<=c.size) (k:Nat):(set8 c off q)[k]?=if off<=k/\k<off+8 then (x0u q)[k - off]? else c[k]?:=by
 unfold set8;by_cases hk:off<=k/\k<off+8
 ·rw [if_pos hk];obtain ⟨j,rfl⟩:∃ j,k=off+j:=⟨k - off,by omega⟩;rw [Nat.add_sub_cancel_left];obtain rfl | rfl | rfl | rfl | rfl | rfl | rfl | rfl:j=0\/j=1\/j=2\/j=3\/j=4\/j=5\/j=6\/j=7:=by omega
  all_goals simp [Array.getElem?_setIfInBounds,x0u]; try omega
 ·rw [if_neg hk];simp only [Array.getElem?_setIfInBounds];rw [if_neg (by omega),if_neg (by omega),if_neg (by omega),if_neg (by omega),if_neg (by omega),if_neg (by omega),if_neg (by omega),if_neg (by omega)]
theorem y4U {W:World} {g off:Nat} {cur:Array Value} {e:TypeId} (h:W.heap[g]?=some (.cells cur e (0,0))) (q:Rec × Value):(putR W g off q).heap[g]?=some (.cells (set8 cur off q) e (0,0)):=by
 have h7:=x0f (j:=off+7) (x0f (j:=off+6) (x0f (j:=off+5) (x0f (j:=off+4) (x0f (j:=off+3) (x0f (j:=off+2) (x0f (j:=off+1) (x0f (j:=off) h (.int .i64 q.1.kind)) (.int .i64 q.1.lo)) (.int .i64 q.1.hi)) (.int .i64 q.1.n)) q.2) (.string q.1.name)) (.string q.1.other)) (.float .f64 q.1.wt);unfold putR set8;exact h7
theorem x7c {W:World} {g off k:Nat} (q:Rec × Value) (h:k≠g):(putR W g off q).heap[k]?=W.heap[k]?:=by
 unfold putR;rw [x0g _ h,x0g _ h,x0g _ h,x0g _ h,x0g _ h,x0g _ h,x0g _ h,x0g _ h]
theorem x6j {w W:World} {B g off:Nat} (h:Below B w W) (hg:B<=g) (q:Rec × Value):Below B w (putR W g off q) :=
 x0c (x0c (x0c (x0c (x0c (x0c (x0c (x0c h hg _) hg _) hg _) hg _) hg _) hg _) hg _) hg _
theorem Rown.cells8 {w:World} {B g cap i:Nat} {ps:List (Rec × Value)} (h:Rown w B (.slice (some ⟨g,0,none⟩) ps.length cap) ps) (hi:i<ps.length) :
  ∃ (r:Rec) (ao:Option Addr) (ak cp:Nat),ps[i]=(r,.slice ao ak cp)/\w.cell? ⟨g,i * 8,none⟩=some (.int .i64 r.kind)/\w.cell? ⟨g,i * 8+1,none⟩=some (.int .i64 r.lo)/\w.cell? ⟨g,i * 8+2,none⟩=some (.int .i64 r.hi)/\w.cell? ⟨g,i * 8+3,none⟩=some (.int .i64 r.n)/\w.cell? ⟨g,i * 8+4,none⟩=some (.slice ao ak cp)/\w.cell? ⟨g,i * 8+5,none⟩=some (.string r.name)/\w.cell? ⟨g,i * 8+6,none⟩=some (.string r.other)/\w.cell? ⟨g,i * 8+7,none⟩=some (.float .f64 r.wt)/\∀ j,w.frozen? ⟨g,j,none⟩=false:=by
 obtain ⟨ao,cp,hv,_,_⟩:=(h.2 ps[i] (List.getElem_mem hi)).sk.shape
 have hc:∀ j u,j<8->(x0u ps[i])[j]?=some u->w.cell? ⟨g,i * 8+j,none⟩=some u:=by
  intro j u hj hu;have e:=h.1.cells (g:=g) rfl (i * 8+j) u (by rw [x1j ps i j hi hj]; simpa [List.getD,hi] using hu);rw [addr_add,Nat.zero_add] at e;exact e
 refine ⟨ps[i].1,ao,_,cp,Prod.ext rfl hv,hc 0 _ (by omega) rfl,hc 1 _ (by omega) rfl,hc 2 _ (by omega) rfl,hc 3 _ (by omega) rfl,hv ▸ hc 4 _ (by omega) rfl,hc 5 _ (by omega) rfl,hc 6 _ (by omega) rfl,hc 7 _ (by omega) rfl,fun j=>?_⟩;rcases h.1.2 with ⟨e,_⟩ | ⟨g',al,cur,e,_,hh,_⟩
 ·cases e
 ·simp only [Value.slice.injEq,Option.some.injEq,Addr.mk.injEq,and_true,true_and] at e;rw [e.1];exact x0e hh
section
variable {P:Program} {a5:Array Oper} {o:Oper} {a:Act} {w w':World} {K:Act->World->Prop} {Q:Exit->Act->World->Prop} {E:Prop}
theorem x9R (aW:o.guard=none) (ty:TypeId) (x y:Operand) (ho:o.op=.store ty x y) (pv v:Value) (hx:a.eval x=pv) (hy:a.eval y=v) (aL:(Instr.storeAt ty pv v).run P w=.ok () w') (h:K (a.put o.dst undef) w') :
  if Region.wanted o (yielded a5 a.tmps)=true then Oper.wp P o a w K Q else E:=by
 rw [if_pos (by simp [Region.wanted,aW])];unfold Oper.wp execOp;simp only [ho,hx,hy,Sem.run_bind,aL,Result.andThen_ok];exact h
end
theorem z2u {W:World} {g off:Nat} {cur:Array Value} (h:W.heap[g]?=some (.cells cur 50 (0,0))) (hs:off+8<=cur.size) (r:Rec) (ao:Option Addr) (ak cp:Nat) :
  (Instr.storeAt 50 (.pointer (some ⟨g,off,none⟩)) (recV r (.slice ao ak cp))).run prog W=.ok () (putR W g off (r,.slice ao ak cp)):=by
 have h1:=x0f (j:=off) h (.int .i64 r.kind);have h2:=x0f (j:=off+1) h1 (.int .i64 r.lo);have h3:=x0f (j:=off+2) h2 (.int .i64 r.hi);have h4:=x0f (j:=off+3) h3 (.int .i64 r.n);have h5:=x0f (j:=off+4) h4 (.slice ao ak cp);have h6:=x0f (j:=off+5) h5 (.string r.name);have h7:=x0f (j:=off+6) h6 (.string r.other);have c0:=cell_of (j:=off) h (by omega);have c1:=cell_of (j:=off+1) h1 (by simp; omega);have c2:=cell_of (j:=off+2) h2 (by simp; omega);have c3:=cell_of (j:=off+3) h3 (by simp; omega);have c4:=cell_of (j:=off+4) h4 (by simp; omega);have c5:=cell_of (j:=off+5) h5 (by simp; omega);have c6:=cell_of (j:=off+6) h6 (by simp; omega);have c7:=cell_of (j:=off+7) h7 (by simp; omega);have f0:=x0e (j:=off) h;have f1:=x0e (j:=off+1) h1;have f2:=x0e (j:=off+2) h2;have f3:=x0e (j:=off+3) h3;have f4:=x0e (j:=off+4) h4;have f5:=x0e (j:=off+5) h5;have f6:=x0e (j:=off+6) h6;have f7:=x0e (j:=off+7) h7;have aV:∀ W a m,(store a (.float .f64 r.wt) m).run prog W=stored prog W a (.float .f64 r.wt) m:=fun W a m=>run_store prog W a _ m rfl;unfold recV putR;simp [Instr.storeAt,go_sem,Tryz.sizeOf50,Addr.add,aV,stored,c0,c1,c2,c3,c4,c5,c6,c7,f0,f1,f2,f3,f4,f5,f6,f7]
