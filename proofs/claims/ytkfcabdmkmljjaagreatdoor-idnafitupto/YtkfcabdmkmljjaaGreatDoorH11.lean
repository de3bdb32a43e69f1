/- Lemmas. -/
import Derived.Test.YtkfcabdmkmljjaaGreatDoorH10
import Derived.Deep.QuietTactic
import Derived.BigQuiet
set_option maxHeartbeats 8000000
set_option maxRecDepth 20000
namespace Go.Proofs.YtkfcabdmkmljjaaGreatDoor
open Go.Proofs.Tryz
open Go.RowKit
section
variable{p:Prop}
theorem n2G(h:p:=by unfold runV;go_enter func226,ntmps226;go_wp2;go_ret;exact⟨rfl,f⟩):p:=h
theorem v7z(h:p:=by unfold weiB;rw[e];exact if_pos rfl):p:=h
theorem t0a(h:p:=by have H:=V HF 61 _ ((V HV).symm.trans M7L) hA;clear HV HF HC hA hB;go_wp2;go_ret;exact H):p:=h
theorem P4I(h:p:=by go_wp2;go_ret;exact H):p:=h
theorem R5R(h:p:=by have:=t.lh;have:=t.h1;exact f6J):p:=h
end
def plB(r:Rec):Bool:=if r.kind=4 then x4v r else if r.kind=5\/r.kind=7\/r.kind=8\/r.kind=13 then decide (r.lo=r.hi)&&Cn.scalar r.lo else if r.kind=15 then decide (r.lo=0/\r.hi=0)else x3N r
def okB(r:Rec):Bool:=plB r&&(tarB r.kind r&&(numB r.kind r&&(namB r.kind r&&weiB r.kind r)))
theorem z7P{k:Int}{n:Nat}(h:k=n)(F:n<16):Cn.rowK k=Cn.rowT n:=by
 subst h;unfold Cn.rowK;rw[if_neg f6J,Int.toNat_natCast]
theorem y3H{r}{q:Row9}(e:Cn.rowK r.kind=q)(Z:q.least=0)(D:q.most=0):tarB r.kind r=decide (r.to.length=0):=by
 unfold tarB;rw[e,Z,D,Bool.eq_iff_iff,Bool.and_eq_true,decide_eq_true_eq,decide_eq_true_eq];constructor
 ·rintro⟨h,_⟩;omega
 ·grind
theorem x3V{r}{q:Row9}{a b:Nat}(e:Cn.rowK r.kind=q)(Z:q.least=a)(D:q.most=b):tarB r.kind r=Cn.list r.to a b:=by
 unfold tarB Cn.list;rw[e,Z,D];congr 1;rw[decide_eq_decide];omega
theorem y3I{r}{q:Row9}(e:Cn.rowK r.kind=q)(Z:q.low=0)(D:q.high=0):numB r.kind r=decide (r.n=0):=by
 unfold numB;rw[e,Z,D,decide_eq_decide];omega
theorem x8Z{r}{q:Row9}{a b}(e:Cn.rowK r.kind=q)(Z:q.low=a)(D:q.high=b):numB r.kind r=decide (a<=r.n/\r.n<=b):=by
 unfold numB;rw[e,Z,D]
theorem y7A{r}{q:Row9}(e:Cn.rowK r.kind=q)(Z:q.scr=0):namB r.kind r=(decide (r.name.size=0)&&decide (r.other.size=0)):=by
 unfold namB;rw[e,Z,if_neg e8M,if_neg e8M]
theorem z2d{r}{q:Row9}(e:Cn.rowK r.kind=q)(Z:q.wei=false):weiB r.kind r=decide (r.wt=0):=by
 unfold weiB;rw[e,Z,if_neg e8M]
theorem z7W r:decide (0<=r.lo/\r.lo<=r.hi/\r.hi<=1114111)=x3N r:=by
 unfold x3N;rw[decide_eq_decide];omega
theorem z4n{r}(S:Cn.list r.to 1 1=true)(L:x3N r=true):decide (r.to.getD 0 0+r.hi-r.lo<=1114111/\(r.to.getD 0 0+r.hi-r.lo<55296\/57343<r.to.getD 0 0))=x4v r:=by
 obtain⟨Z,D⟩:(1<=r.to.length/\r.to.length<=1)/\r.to.all Cn.scalar=true:=by
  unfold Cn.list at S;rw[Bool.and_eq_true]at S;exact⟨o0d S.1,S.2⟩
 obtain⟨a,g⟩:∃a,r.to=[a]:=List.length_eq_one_iff.1 f6J;have F:0<=r.lo/\r.lo<=1114111/\0<=r.hi/\r.hi<=1114111/\r.lo<=r.hi:=o0d L;have C:Cn.scalar a=true:=(by grind);have A:0<=a/\a<=1114111/\¬(55296<=a/\a<=57343):=o0d C;unfold x4v;rw[L,g];show decide (a+r.hi-r.lo<=1114111/\(a+r.hi-r.lo<55296\/57343<a))=(true&&(decide (1=1)&&(Cn.scalar a&&(Cn.scalar (a+r.hi-r.lo)&&(decide (a<55296)==decide (a+r.hi-r.lo<55296))))));rw[C];have B:a<=a+r.hi-r.lo:=f6J;simp only[Bool.true_and,decide_true];unfold Cn.scalar;rw[Bool.eq_iff_iff,Bool.and_eq_true,decide_eq_true_eq,decide_eq_true_eq,beq_iff_eq,decide_eq_decide];omega
theorem z1b r b:(x3N r&&(decide (r.lo=r.hi)&&Cn.scalar r.lo&&b))=(decide (r.lo=r.hi)&&Cn.scalar r.lo&&b):=by
 by_cases h:r.lo=r.hi
 ·cases hs:Cn.scalar r.lo with
  | false=>simp
  | true =>
   have:0<=r.lo/\r.lo<=1114111/\¬(55296<=r.lo/\r.lo<=57343):=o0d hs;have s:x3N r=true:=d0t f6J;rw[s];simp
 ·rw[d0f h];simp
theorem y6N r(h:x3N r=false):x4v r=false:=by
 unfold x4v;rw[h];rfl
theorem z7V r b:(x3N r&&(decide (r.lo=r.hi)&&(Cn.scalar r.lo&&b)))=(decide (r.lo=r.hi)&&(Cn.scalar r.lo&&b)):=by
 have:=z1b r b;rwa [Bool.and_assoc]at this
theorem z7O{r}(h:r.kind=15):Cn.right r=if okB r=true then 0 else 61:=by
 have e:Cn.rowK r.kind=Cn.rowT 15:=z7P h e8N;have D:¬Cn.fam r.kind=0:=(by rw[h];exact e8N);have P:=y3H e rfl rfl;have E:=y3I e rfl rfl;have N:namB r.kind r=(Cn.nameL r.name&&(Cn.nameL r.other&&decide (r.name≠r.other))):=(by unfold namB;rw[e];exact(if_neg e8N).trans (if_pos rfl));have I:weiB r.kind r=Cn.weight r.wt:=v7z;have U:plB r=(decide (r.lo=0/\r.hi=0)):=(by unfold plB;rw[if_neg f6J,if_neg f6J,if_pos h]);unfold okB;rw[P,E,N,I,U];unfold Cn.right;rw[if_neg D];rw[if_pos h];unfold Cn.bare;have S:(r.lo=0/\r.hi=0/\(((false||decide (r.n=0))&&(false||decide (r.to.length=0))&&(true||decide (r.name.size=0))&&(true||decide (r.other.size=0))&&(true||decide (r.wt=0)))=true)/\Cn.nameL r.name=true/\Cn.nameL r.other=true/\r.name≠r.other/\Cn.weight r.wt=true)↔(decide (r.lo=0/\r.hi=0)&&(decide (r.to.length=0)&&(decide (r.n=0)&&((Cn.nameL r.name&&(Cn.nameL r.other&&decide (r.name≠r.other)))&&Cn.weight r.wt))))=true:=(by grind);by_cases y:(decide (r.lo=0/\r.hi=0)&&(decide (r.to.length=0)&&(decide (r.n=0)&&((Cn.nameL r.name&&(Cn.nameL r.other&&decide (r.name≠r.other)))&&Cn.weight r.wt))))=true
 ·rw[if_pos y,if_pos (S.2 y)]
 ·grind
theorem right_eq r(z:¬Cn.fam r.kind=0):Cn.right r=if okB r=true then 0 else 61:=by
 have G:1<=r.kind/\r.kind<=15:=by
  unfold Cn.fam at z;split at z
  ·exact absurd rfl z
  ·omega
 obtain h | h | h | h | h | h | h | h | h | h | h | h | h | h | h:r.kind=15\/r.kind=4\/r.kind=1\/r.kind=2\/r.kind=3\/r.kind=5\/r.kind=6\/r.kind=7\/r.kind=8\/r.kind=9\/r.kind=10\/r.kind=11\/r.kind=12\/r.kind=13\/r.kind=14:=f6J
 ·exact z7O h
 all_goals
  have e:=congrArg Cn.rowK h
  first| have P:=y3H e rfl rfl | have P:=x3V (a:=1) (b:=24) e rfl rfl | have P:=x3V (a:=0) (b:=24) e rfl rfl | have P:=x3V (a:=1) (b:=1) e rfl rfl | have P:=x3V (a:=1) (b:=2) e rfl rfl | have P:=x3V (a:=2) (b:=2) e rfl rfl
  first| have E:=y3I e rfl rfl | have E:=x8Z (a:=1) (b:=64) e rfl rfl | have E:=x8Z (a:=1) (b:=254) e rfl rfl | have E:=x8Z (a:=0) (b:=10) e rfl rfl | have E:=x8Z (a:=0) (b:=5) e rfl rfl
  first| have N:=y7A e rfl | have N:namB r.kind r=(Cn.nameL r.name&&decide (r.other.size=0)):=by unfold namB;rw[e];exact if_pos rfl
  first| have I:=z2d e rfl | have I:weiB r.kind r=Cn.weight r.wt:=v7z
  first| have U:plB r=x3N r:=by unfold plB;rw[if_neg f6J,if_neg f6J,if_neg f6J] | have U:plB r=(decide (r.lo=r.hi)&&Cn.scalar r.lo):=by unfold plB;rw[if_neg f6J,if_pos f6J] | have U:plB r=x4v r:=by unfold plB;rw[if_pos h]
  unfold okB;rw[P,E,N,I,U];unfold Cn.right;rw[if_neg z];simp only[h,Int.reduceEq,or_self,or_true,or_false,reduceIte];rw[z7W];unfold Cn.bare;have S:∀x y:Bool,x=y->(if x=true then(0:Int)else 61)=if y=true then 0 else 61:=fun x y J=>(by rw[J]);refine S _ _ ?_;simp only[Bool.true_or,Bool.false_or,Bool.and_true,Bool.true_and,Bool.and_assoc,z7V]
 rotate_left
 all_goals try ac_rfl
 cases hsp:x3N r with
 | false=>rw[y6N r hsp];rfl
 | true =>
  cases hl:Cn.list r.to 1 1 with
  | false=>simp
  | true =>
   rw[z4n hl hsp];simp only[Bool.true_and];ac_rfl
theorem x3i(T fp:Nat) r vt w
  (KSH:∀W,Calls prog 193 #[.int .i64 r.kind] W (fun e w'=>e=.returned (.iface T (.agg #[.int .i64 r.kind]))/\Bw W w'))
  (KF:∀W,Bw w W->Calls prog 195 #[shV r.kind] W (IntB W (Cn.fam r.kind)))
  (m0 : ∀ W, (method 502 T (.agg #[.int .i64 r.kind]) "endonym/table.family").run Tryz.prog W = .ok (195, .agg #[.int .i64 r.kind]) W)
  (m1 : ∀ W, (method 502 T (.agg #[.int .i64 r.kind]) "endonym/table.placed").run Tryz.prog W = .ok (fp, .agg #[.int .i64 r.kind]) W)
  (m2 : ∀ W, (method 502 T (.agg #[.int .i64 r.kind]) "endonym/table.targeted").run Tryz.prog W = .ok (339, .agg #[.int .i64 r.kind]) W)
  (m3 : ∀ W, (method 502 T (.agg #[.int .i64 r.kind]) "endonym/table.numbered").run Tryz.prog W = .ok (336, .agg #[.int .i64 r.kind]) W)
  (m4 : ∀ W, (method 502 T (.agg #[.int .i64 r.kind]) "endonym/table.named").run Tryz.prog W = .ok (334, .agg #[.int .i64 r.kind]) W)
  (m5 : ∀ W, (method 502 T (.agg #[.int .i64 r.kind]) "endonym/table.weighed").run Tryz.prog W = .ok (340, .agg #[.int .i64 r.kind]) W)
  (eg:∀args W,(callFunc fp args).run prog W=.ok (.enter fp args) W)
  b1 b2 b3 b4 b5
  (K1:∀W,Bw w W->Calls prog fp #[shV r.kind,recV r vt] W (x0g W b1))
  (K2:∀W,Bw w W->Calls prog 339 #[shV r.kind,recV r vt] W (x0g W b2))
  (K3:∀W,Bw w W->Calls prog 336 #[shV r.kind,recV r vt] W (x0g W b3))
  (K4:∀W,Bw w W->Calls prog 334 #[shV r.kind,recV r vt] W (x0g W b4))
  (K5:∀W,Bw w W->Calls prog 340 #[shV r.kind,recV r vt] W (x0g W b5))
  : Calls prog 178 #[recV r vt] w (IntB w (if Cn.fam r.kind=0 then 60 else if(b1&&(b2&&(b3&&(b4&&b5))))=true then 0 else 61)):=by
 obtain⟨Q,hQ⟩:∃Q,w.alloc (.cells #[.int .i64 r.kind,.int .i64 r.lo,.int .i64 r.hi,.int .i64 r.n,vt,.string r.name,.string r.other,.float .f64 r.wt] 60)=Q:=⟨_,rfl⟩;have hb0:Bw w Q:=hQ ▸ (b0r).alloc (l0r _) _;have hsz:Q.heap.size=w.heap.size+1:=by rw[<- hQ];exact M7L
 have hbx:Q.heap[w.heap.size]?=some (.cells #[.int .i64 r.kind,.int .i64 r.lo,.int .i64 r.hi,.int .i64 r.n,vt,.string r.name,.string r.other,.float .f64 r.wt] 60 (0,0)):=by
  rw[<- hQ];exact R0n
 have HC:=O fun W (hW:Bw Q W)=>And.intro (bthen hb0 hW) (cells8 ((hW.block _ f6J).trans hbx));obtain⟨Vx,hV⟩:∃Vx:Int,(if Cn.fam r.kind=0 then 60 else if(b1&&(b2&&(b3&&(b4&&b5))))=true then 0 else 61)=Vx:=⟨_,rfl⟩;rw[hV];have HV:=O hV;have HF:Hid (∀z W,Vx=z->Bw Q W->IntB w Vx (.returned (.int .i64 z)) W):=fun z W e hW=>⟨n5N,bthen hb0 hW⟩;have hA:=Below.refl Q.heap.size Q;replace KSH:=O KSH;replace KF:=O KF;replace K1:=O K1;replace K2:=O K2;replace K3:=O K3;replace K4:=O K4;replace K5:=O K5;clear hV hb0 hsz hbx;unfold recV shV at *;generalize Cn.fam r.kind=fr at *;generalize r.kind=kd at *;generalize r.n=n,r.lo=lo at *;generalize r.hi=hi,r.name=nm at *;generalize r.other=ot,r.wt=wt at *;subst hQ;go_enter func178,ntmps178;go_wp2_with fail;refine c1m (V KSH _) fun wr b=>?_;replace hA:=bthen hA b;clear b KSH;obtain⟨hB,x0,x1,x2,x3,x4,x5,x6,x7⟩:=V HC _ hA;go_wp2_with fail;refine c1m (V KF _ hB) fun wr b=>?_;replace hA:=bthen hA b;clear b KF hB x0 x1 x2 x3 x4 x5 x6 x7;obtain⟨hB,x0,x1,x2,x3,x4,x5,x6,x7⟩:=V HC _ hA;by_cases h0:fr=0
 ·subst h0;have H:=V HF 60 _ ((V HV).symm.trans (if_pos rfl)) hA;clear HV HF HC hA hB;exact P4I
 have q0:(fr==0)=false:=b0f h0;replace HV:=O ((V HV).symm.trans (if_neg h0)).symm;go_wp2_with fail;refine c1m (V K1 _ hB) fun wr b=>?_;replace hA:=bthen hA b;clear b K1 hB x0 x1 x2 x3 x4 x5 x6 x7;obtain⟨hB,x0,x1,x2,x3,x4,x5,x6,x7⟩:=V HC _ hA;cases b1
 ·exact t0a
 go_wp2_with fail;refine c1m (V K2 _ hB) fun wr b=>?_;replace hA:=bthen hA b;clear b K2 hB x0 x1 x2 x3 x4 x5 x6 x7;obtain⟨hB,x0,x1,x2,x3,x4,x5,x6,x7⟩:=V HC _ hA;cases b2
 ·exact t0a
 go_wp2_with fail;refine c1m (V K3 _ hB) fun wr b=>?_;replace hA:=bthen hA b;clear b K3 hB x0 x1 x2 x3 x4 x5 x6 x7;obtain⟨hB,x0,x1,x2,x3,x4,x5,x6,x7⟩:=V HC _ hA;cases b3
 ·exact t0a
 go_wp2_with fail;refine c1m (V K4 _ hB) fun wr b=>?_;replace hA:=bthen hA b;clear b K4 hB x0 x1 x2 x3 x4 x5 x6 x7;obtain⟨hB,x0,x1,x2,x3,x4,x5,x6,x7⟩:=V HC _ hA;cases b4
 ·exact t0a
 go_wp2_with fail;refine c1m (V K5 _ hB) fun wr b=>?_;replace hA:=bthen hA b;clear b K5 hB x0 x1 x2 x3 x4 x5 x6 x7;obtain⟨hB,x0,x1,x2,x3,x4,x5,x6,x7⟩:=V HC _ hA;cases b5
 ·exact t0a
 have H:=V HF 0 _ ((V HV).symm.trans M7L) hA;clear HV HF HC hA hB;go_wp2;go_ret;exact H
theorem y5F:∀args w,(callFunc 348 args).run prog w=.ok (.enter 348 args) w:=f0h
theorem y5G:∀args w,(callFunc 352 args).run prog w=.ok (.enter 352 args) w:=f0h
theorem y2v:∀args w,(callFunc 355 args).run prog w=.ok (.enter 355 args) w:=f0h
theorem y5E:∀args w,(callFunc 347 args).run prog w=.ok (.enter 347 args) w:=f0h
def z8L:Prop:=∀(r:Rec) (vt:Value) (w:World),Glob w->RecFit r->Sk .i32 w vt r.to->Calls prog 178 #[recV r vt] w (IntB w (Cn.right r))
theorem z0O:z8L:=by
 intro r t w C z L
 have e:Cn.right r=if Cn.fam r.kind=0 then 60 else if(plB r&&(tarB r.kind r&&(numB r.kind r&&(namB r.kind r&&weiB r.kind r))))=true then 0 else 61:=by
  by_cases R:Cn.fam r.kind=0
  ·rw[if_pos R];unfold Cn.right;rw[if_pos R]
  ·rw[if_neg R,right_eq r R];rfl
 rw[e];have P:∀W,Bw w W->Calls prog 195 #[shV r.kind] W (IntB W (Cn.fam r.kind)):=fun W h=>x4u r.kind W (C.on h) z.kind;have j:∀W,Bw w W->Calls prog 339 #[shV r.kind,recV r t] W (x0g W (tarB r.kind r)):=fun W h=>y1P r.kind r t W (C.on h) z.kind (L.below h);have k:∀W,Bw w W->Calls prog 336 #[shV r.kind,recV r t] W (x0g W (numB r.kind r)):=fun W h=>y1l r.kind r t W (C.on h) z.kind z.n;have E:∀W,Bw w W->Calls prog 334 #[shV r.kind,recV r t] W (x0g W (namB r.kind r)):=fun W h=>y9V r.kind r t W (C.on h) z.kind;have F:∀W,Bw w W->Calls prog 340 #[shV r.kind,recV r t] W (x0g W (weiB r.kind r)):=fun W h=>y3w r.kind r t W (C.on h) z.kind z.wt;by_cases H:r.kind=4
 ·have A:plB r=x4v r:=(by unfold plB;rw[if_pos H]);have d:shape r.kind=.iface 320 (.agg #[.int .i64 r.kind]):=(by unfold shape shV;rw[if_pos H]);rw[A];exact x3i 320 348 r t w (fun W=>d ▸ x1m r.kind W z.kind) P (x7S _) (x7U _) (x5M _) (x5K _) (x9D _) (x7b _) y5F _ _ _ _ _ (fun W h=>x4V r.kind r t W z (L.below h)) j k E F
 ·by_cases K:r.kind=5\/r.kind=7\/r.kind=8\/r.kind=13
  ·have A:plB r=(decide (r.lo=r.hi)&&Cn.scalar r.lo):=(by unfold plB;rw[if_neg H,if_pos K]);have d:shape r.kind=.iface 321 (.agg #[.int .i64 r.kind]):=(by unfold shape shV;rw[if_neg H,if_pos K]);rw[A];exact x3i 321 352 r t w (fun W=>d ▸ x1m r.kind W z.kind) P (x9C _) (x9G _) (x7a _) (x6Y _) (y1f _) (x7X _) y5G _ _ _ _ _ (fun W _=>x5P r.kind r t W z) j k E F
  ·by_cases X:r.kind=15
   ·have A:plB r=decide (r.lo=0/\r.hi=0):=(by unfold plB;rw[if_neg H,if_neg K,if_pos X]);have d:shape r.kind=.iface 322 (.agg #[.int .i64 r.kind]):=(by unfold shape shV;rw[if_neg H,if_neg K,if_pos X]);rw[A];exact x3i 322 355 r t w (fun W=>d ▸ x1m r.kind W z.kind) P (x9B _) (x9F _) (x6Z _) (x6X _) (y1e _) (x7W _) y2v _ _ _ _ _ (fun W _=>x5O r.kind r t W z) j k E F
   ·have A:plB r=x3N r:=(by unfold plB;rw[if_neg H,if_neg K,if_neg X]);have d:shape r.kind=.iface 318 (.agg #[.int .i64 r.kind]):=(by unfold shape shV;rw[if_neg H,if_neg K,if_neg X]);rw[A];exact x3i 318 347 r t w (fun W=>d ▸ x1m r.kind W z.kind) P (x7T _) (x7V _) (x5N _) (x5L _) (x9E _) (x7c _) y5E _ _ _ _ _ (fun W _=>x2e r.kind r t W z) j k E F
def firstW(rs:List Rec):Nat×Int:=if 4096<rs.length then(0,3)else match Cn.x0X 0 rs with | some x=>x | Option.none=>(0,0)
def x5T(rs:List Rec)(k:Nat):Nat×Int:=match Cn.x0X k (rs.drop k)with | some x=>x | Option.none=>(0,0)
theorem q1g{rs k}(G:k<rs.length)(h:Cn.right (rs.getD k Cn.none)≠0):x5T rs k=(k,Cn.right (rs.getD k Cn.none)):=by
 have e:rs.getD k Cn.none=rs[k]:=(by grind);rw[e]at h ⊢;unfold x5T;rw[List.drop_eq_getElem_cons G,Cn.x0X,if_neg h]
theorem z8k{rs k}(G:k<rs.length)(h:Cn.right (rs.getD k Cn.none)=0):x5T rs k=x5T rs (k+1):=by
 have e:rs.getD k Cn.none=rs[k]:=(by grind);rw[e]at h;unfold x5T;rw[List.drop_eq_getElem_cons G,Cn.x0X,if_pos h]
theorem q1f rs:x5T rs rs.length=(0,0):=by
 unfold x5T;rw[List.drop_length,Cn.x0X]
def y3B(w:World)(x:Nat×Int)(e:Ending)(w':World):Prop:=e=.returned (.tuple #[.int .i64 (x.1:Int),.int .i64 x.2])/\Below w.heap.size w w'
theorem x7O v rs w(C:Glob w)(N:Rcs w v rs):Calls prog 133 #[v] w (y3B w (firstW rs)):=by
 have d:=N.1;by_cases T:4096<rs.length
 ·have e:firstW rs=(0,3):=(by unfold firstW;rw[if_pos T]);rw[e];obtain⟨B,M,rfl,_,_⟩:=N.shape;go_enter func133,ntmps133;go_wp2;go_ret2;exact⟨rfl,b0r⟩
 ·have x:Hid (firstW rs=x5T rs 0):=by
   show firstW rs=x5T rs 0;unfold firstW x5T;rw[if_neg T,List.drop_zero]
  have L:Hid (RIn w v rs w):=⟨N,b0r⟩;have HG:=O (fun W (h:Bw w W)=>C.on h);obtain⟨B,M,rfl,Z,D⟩:=N.shape;generalize firstW rs=R at *;go_enter func133,ntmps133;go_wp2;go_loopw[4,5,6,12] (fun _ _ _ i wr=>∃k:Nat,i=.int .i64 k/\k<=rs.length/\R=x5T rs k/\RIn w (.slice B rs.length M) rs wr) (fun _ _ _ i _=>rs.length-(intOf i).toNat)
  case atStart=>exact⟨0,rfl,f6J,V x,V L⟩
  case round =>
   obtain⟨k,rfl,G,J,o⟩:=hrel;by_cases E:k<rs.length
   ·obtain⟨b,P,A,q,l,ae,I⟩:=o.1.place f6J;obtain⟨rfl,rfl⟩:B=some ⟨b,P,none⟩/\M=A:=W3O;have s:=o.1.fit E;obtain⟨g,S,p,K,⟨t,j,sk⟩,x5,u,x7⟩:=I k E;have f:Hid (Cn.right (rs.getD k Cn.none)=0->R=x5T rs (k+1)):=fun h=>J.trans (z8k E h);have r:Hid (Cn.right (rs.getD k Cn.none)≠0->R=(k,Cn.right (rs.getD k Cn.none))):=fun h=>J.trans (q1g E h);have KR:Hid (∀W,Bw wr W->Calls prog 178 #[recV (rs.getD k Cn.none) t] W (IntB W (Cn.right (rs.getD k Cn.none)))):=fun W h=>z0O _ t W (V HG W (o.on h).2) s (sk.below h);have ab:=O o;obtain⟨Y,tc,rfl,_,_⟩:=sk.shape;unfold recV at KR;generalize Cn.right (rs.getD k Cn.none)=y at KR r f;generalize(rs.getD k Cn.none).kind=kd,(rs.getD k Cn.none).lo=lo,(rs.getD k Cn.none).hi=hi,(rs.getD k Cn.none).n=n at *;generalize(rs.getD k Cn.none).name=nm,(rs.getD k Cn.none).other=ot,(rs.getD k Cn.none).wt=wt,(rs.getD k Cn.none).to.length=tl at *;have z:∀W a m,(store a (.float .f64 wt) m).run prog W=stored prog W a (.float .f64 wt) m:=fun W a m=>run_store prog W a _ m rfl;go_wp2_with fail;refine(V KR _ ((b0r).alloc (l0r _) _)).mono ?_;rintro e Q ⟨rfl,F⟩;have H:=bthen ((Below.refl wr.heap.size wr).alloc (l0r _) _) F;by_cases hy:y=0
    ·have c:=O (V f hy);subst hy;have X:=O ((V ab).on H);go_wp2;go_round
     case rel=>exact⟨k+1,g2A,f6J,V c,V X⟩
     case measure=>exact g7T
    ·obtain rfl:=V r hy;have af:(y==0)=false:=b0f hy;have ag:(y != 0)=true:=(by simp[hy]);have X:=O ((V ab).on H).2;go_wp2;go_ret2;exact⟨rfl,V X⟩
   ·obtain rfl:k=rs.length:=f6J;obtain rfl:=J.trans (q1f rs);have U:=O o.2;go_wp2;go_ret2;exact t8u
structure RunOk(lo hi s:Int):Prop where
 l0:0<=lo
 lh:lo<=hi
 h1:hi<=1114111
 s0:1<=s
 s1:s<=64
def fromI(lo s c:Int):Int:=if c<=lo then lo else c+(s-(c-lo)%s)%s
theorem z2W lo hi s c w(h:RunOk lo hi s)(I:0<=c/\c<=1114111):Calls prog 263 #[runV lo hi s,.int .i64 c] w (IntB w (fromI lo s c)):=by
 have Y:Bw w (w.alloc (.cells #[.int .i64 lo,.int .i64 hi,.int .i64 s] 264)):=(b0r).alloc (l0r _) _;obtain⟨b,C,Z,f,U⟩:=h;obtain⟨X,y⟩:=I;unfold runV fromI;by_cases i:c<=lo
 ·rw[if_pos i];have d:=d0t i;go_enter func263,ntmps263;exact T1F
 ·rw[if_neg i];have d:=d0f i;have k:=Int.emod_nonneg (c-lo) (f6J:s≠0);have u:=Int.emod_lt_of_pos (c-lo) (f6J:0<s);have A:=Int.emod_nonneg (s-(c-lo)%s) (f6J:s≠0);have T:=Int.emod_lt_of_pos (s-(c-lo)%s) (f6J:0<s);have P:(c-lo).tmod s=(c-lo)%s:=Int.tmod_eq_emod_of_nonneg f6J;have E:(s-(c-lo)%s).tmod s=(s-(c-lo)%s)%s:=Int.tmod_eq_emod_of_nonneg f6J;have Q:IntKind.i64.wrap (c-lo)=c-lo:=IntWalk.i64_in _ ⟨f6J,f6J⟩;have t:IntKind.i64.wrap (s-(c-lo)%s)=s-(c-lo)%s:=IntWalk.i64_in _ ⟨f6J,f6J⟩;have G:IntKind.i64.wrap ((c-lo)%s)=(c-lo)%s:=IntWalk.i64_in _ ⟨f6J,f6J⟩;have D:IntKind.i64.wrap ((s-(c-lo)%s)%s)=(s-(c-lo)%s)%s:=IntWalk.i64_in _ ⟨f6J,f6J⟩;have B:IntKind.i64.wrap (c+(s-(c-lo)%s)%s)=c+(s-(c-lo)%s)%s:=IntWalk.i64_in _ ⟨f6J,f6J⟩;have q:(s==0)=false:=b0f f6J;go_enter func263,ntmps263;go_wp2;go_quiet(fail);go_wp2;go_ret;have N:(s-(c-lo)%s)%s=-((c-lo)%s)%s:=f0k;refine⟨?_,bthen Y (x0i ⟨_,rfl⟩)⟩;show Ending.returned (.int .i64 (wrap64 (c+-((c-lo)%s)%s)))=_;rw[<- N,IntWalk.wrap64_in _ ⟨f6J,f6J⟩]
def mA(s hi:Int)(p:Int->Bool):Nat->Int->Bool
 | 0,_=>false
 | k+1,c=>if hi<c then false else if p c then true else mA s hi p k (c+s)
def y4w(lo hi s lo' hi' s':Int):Bool :=
 if hi<lo'\/hi'<lo then false
 else if s<s' then mA s' hi' (hasB lo hi s) s.toNat (fromI lo' s' lo)
 else mA s hi (hasB lo' hi' s') s'.toNat (fromI lo s lo')
theorem x8y ol oh os il ih is w A(h:RunOk ol oh os)(t:RunOk il ih is)(q1:¬ih<ol)(s:¬oh<il)(Y:(A=#[runV il ih is,runV ol oh os]/\is<os)\/(A=#[runV ol oh os,runV il ih is]/\¬os<is)):Calls prog 226 A w (x0g w (mA os oh (hasB il ih is) is.toNat (fromI ol os il))):=by
 have d:=d0f q1;have g:=d0f s;have m:=x2F w (.cells #[.int .i64 ol,.int .i64 oh,.int .i64 os] 264) (.cells #[.int .i64 il,.int .i64 ih,.int .i64 is] 264);have ae:=O (z2W ol oh os il ((w.alloc (.cells #[.int .i64 ol,.int .i64 oh,.int .i64 os] 264)).alloc (.cells #[.int .i64 il,.int .i64 ih,.int .i64 is] 264)) h ⟨t.l0,R5R⟩);have v:Hid (∀c W,-10<=c/\c<=2000000->Calls prog 194 #[.agg #[.int .i64 il,.int .i64 ih,.int .i64 is],.int .i64 c] W (x0g W (hasB il ih is c))):=fun c W hc=>y9f il ih is c W ⟨by have:=t.l0;exact f6J,R5R⟩ ⟨by have:=t.l0;have:=t.lh;exact f6J,by have:=t.h1;exact f6J⟩ ⟨by have:=t.s0;exact f6J,by have:=t.s1;exact f6J⟩ ⟨f6J,f6J⟩
 have L:Hid (∀W,Below ((w.alloc (.cells #[.int .i64 ol,.int .i64 oh,.int .i64 os] 264)).alloc (.cells #[.int .i64 il,.int .i64 ih,.int .i64 is] 264)).heap.size ((w.alloc (.cells #[.int .i64 ol,.int .i64 oh,.int .i64 os] 264)).alloc (.cells #[.int .i64 il,.int .i64 ih,.int .i64 is] 264)) W->W.cell? ⟨w.heap.size,1,none⟩=some (.int .i64 oh)/\W.cell? ⟨w.heap.size,2,none⟩=some (.int .i64 os)):=fun W t=>by
  have h0:((w.alloc (.cells #[.int .i64 ol,.int .i64 oh,.int .i64 os] 264)).alloc (.cells #[.int .i64 il,.int .i64 ih,.int .i64 is] 264)).heap[w.heap.size]?=some (.cells #[.int .i64 ol,.int .i64 oh,.int .i64 os] 264 (0,0)):=by
   show((w.heap.push _).push _)[w.heap.size]?=_;rw[Array.getElem?_push_lt (by simp)];simp
  have D:W.heap[w.heap.size]?=_:=(t.block _ P8P).trans h0;exact⟨cell_of (j:=1) D (by simp),cell_of (j:=2) D (by simp)⟩
 have o:Hid (∀W,Below ((w.alloc (.cells #[.int .i64 ol,.int .i64 oh,.int .i64 os] 264)).alloc (.cells #[.int .i64 il,.int .i64 ih,.int .i64 is] 264)).heap.size ((w.alloc (.cells #[.int .i64 ol,.int .i64 oh,.int .i64 os] 264)).alloc (.cells #[.int .i64 il,.int .i64 ih,.int .i64 is] 264)) W->W.cell? ⟨w.heap.size+1,0,none⟩=some (.int .i64 il)/\W.cell? ⟨w.heap.size+1,1,none⟩=some (.int .i64 ih)/\W.cell? ⟨w.heap.size+1,2,none⟩=some (.int .i64 is)):=fun W t=>⟨x0l (j:=0) t rfl,x0l (j:=1) t rfl,x0l (j:=2) t rfl⟩;obtain⟨N,r⟩:∃N:Nat,is=(N:Int):=⟨is.toNat,by have:=t.s0;exact f6J⟩;have af:N<=64:=(by have:=t.s1;exact f6J);have ht:is.toNat=N:=f6J
 have C:0<=fromI ol os il/\fromI ol os il<=1114300:=by
  obtain⟨a0,a1,P,a3,a4⟩:=h;obtain⟨b0,b1,u,z,b4⟩:=t;unfold fromI;split
  ·omega
  ·have:=Int.emod_nonneg (os-(il-ol)%os) (f6J:os≠0);have:=Int.emod_lt_of_pos (os-(il-ol)%os) (f6J:0<os);omega
 have aj:0<=oh/\oh<=1114111:=⟨by have:=h.l0;have:=h.lh;exact f6J,h.h1⟩;have ai:1<=os/\os<=64:=⟨h.s0,h.s1⟩;rw[ht];have f:=O r;clear h t ht r;generalize hfm:fromI ol os il=X at *;clear hfm;generalize hhas:hasB il ih is=p at *;clear hhas;generalize hr0:mA os oh p N X=R at *;have a:=O hr0.symm;clear hr0;rcases Y with⟨rfl,hs⟩ | ⟨rfl,hs⟩
 all_goals
  first
  | have l:=d0t hs
  | have l:=d0f hs
  unfold runV at *;go_enter func226,ntmps226;go_wp2_with fail;refine c0m ae fun Q F=>?_;have y2:=(V o Q F).2.2;rw[V f]at y2;have m:=bthen m F;have L:=O (fun W (t:Bw Q W)=>V L W (bthen F t));have o:=O (fun W (t:Bw Q W)=>V o W (bthen F t));clear ae F f;go_wp2;go_loopw[5,31] (fun n Z wr=>∃(k:Nat) (c:Int),n=.int .i64 c/\Z=.int .i64 k/\k<=N/\0<=c/\c<=1114300/\R=mA os oh p (N-k) c/\Bw Q wr) (fun _ Z _=>N-(intOf Z).toNat)
  case atStart=>exact⟨0,X,rfl,rfl,f6J,C.1,C.2,V a,b0r⟩
  case round =>
   obtain⟨k,c,rfl,rfl,hk,K,ag,J,hB⟩:=hrel;clear a y2;by_cases E:k<N
   ·obtain⟨M,B⟩:∃M,N-k=M+1:=⟨N-k-1,f6J⟩;rw[B,mA]at J;obtain⟨S,x2⟩:=V L wr hB;obtain⟨i,z1,q⟩:=V o wr hB;by_cases ab:oh<c
    ·rw[if_pos ab]at J;subst J;have dg:=d0t ab;have U:x0g w false (.returned (.bool false)) wr:=⟨rfl,bthen m hB⟩;clear v L o hB B;exact m2N
    ·rw[if_neg ab]at J;have dg:=d0f ab;have b:=O (V v c wr ⟨f6J,f6J⟩);have I:=O hB;clear v hB
     cases hp:p c with
     | true =>
      rw[hp,if_pos rfl]at J;subst J;rw[hp]at b;clear B L o;go_wp2_with fail;refine c0m b fun w2 H=>?_;have U:x0g w true (.returned (.bool true)) w2:=⟨rfl,bthen (bthen m (V I)) H⟩;clear b H I S x2 i z1 q;go_wp2;go_ret;exact U
     | false =>
      rw[hp,if_neg e8Q]at J;rw[hp]at b;have x:Hid (R=mA os oh p (N-(k+1)) (c+os)):=(by rw[(f6J:N-(k+1)=M)];exact J);have G:Hid (∀W,Bw wr W->W.cell? ⟨w.heap.size,2,none⟩=some (.int .i64 os)):=fun W t=>(V L W (bthen (V I) t)).2;clear B L o J;go_wp2_with fail;refine c0m b fun w2 H=>?_;have y:=V G w2 H;have T:=O (bthen (V I) H);have hw:IntKind.i64.wrap (c+os)=c+os:=IntWalk.i64_in _ ⟨f6J,f6J⟩;clear b H I G S x2 i z1 q;go_wp2;go_round
      case rel=>exact⟨k+1,c+os,g2A,g2A,f6J,f6J,f6J,V x,V T⟩
      case measure=>exact g7W
   ·have e0:N-k=0:=f6J;rw[e0,mA]at J;subst J;have U:x0g w false (.returned (.bool false)) wr:=⟨rfl,bthen m hB⟩;clear v L o hB;exact m2N
theorem y9O lo hi s lo' hi' s' w(h:RunOk lo hi s)(t:RunOk lo' hi' s'):Calls prog 226 #[runV lo hi s,runV lo' hi' s'] w (x0g w (y4w lo hi s lo' hi' s')):=by
 have f:=x2F w (.cells #[.int .i64 lo,.int .i64 hi,.int .i64 s] 264) (.cells #[.int .i64 lo',.int .i64 hi',.int .i64 s'] 264);unfold y4w;by_cases g:hi<lo'
 ·rw[if_pos (.inl g)];have d:=d0t g;exact n2G
 ·have d:=d0f g;by_cases I:hi'<lo
  ·rw[if_pos (.inr I)];have B:=d0t I;exact n2G
  ·rw[if_neg f6J];have B:=d0f I;by_cases L:s<s'
   ·rw[if_pos L];exact x8y _ _ _ _ _ _ w _ t h g I (.inl ⟨rfl,L⟩)
   ·rw[if_neg L];exact x8y _ _ _ _ _ _ w _ h t I g (.inr ⟨rfl,L⟩)
