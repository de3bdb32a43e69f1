/- Cn7 Rc7 Rf7 Rg7 Rh7 Ri7 Rj7 Rk7 Rl7 Rm7 -/
import Derived.Test.YtkglkajjofidoaaGreatDoorV1
import Derived.Deep.QuietTactic
import Derived.BigQuiet
import Derived.Deep.RegionWith
set_option maxHeartbeats 8000000
set_option maxRecDepth 8000
namespace Go.Proofs.YtkglkajjofidoaaGreatDoor
open Go.Proofs.Tryz
structure Rec where
 kind:Int
 lo:Int
 hi:Int
 n:Int
 to:List Int
 name:ByteArray
 other:ByteArray
 wt:Nat
namespace Cn
def none:Rec:=⟨0,0,0,0,[],⟨#[]⟩,⟨#[]⟩,0⟩
def fam (k:Int):Int :=
 if k<1\/15<k then 0 else if k<=5 then 1 else if k=6 then 2 else if k<=8 then 3 else k - 5
def step (r:Rec):Int:=if r.kind=4 then max r.n 0 else 1
def speaks (r:Rec) (c:Int):Bool:=decide (r.kind≠15/\0<step r/\0<=c/\c<=1114111/\r.lo<=c/\c<=r.hi/\(c - r.lo) % step r=0)
def findA (f c:Int):Nat->List Rec->Int
 | _,[]=>-1
 | i,r :: l=>if fam r.kind=f/\speaks r c=true then (i:Int) else findA f c (i+1) l
def find (l:List Rec) (f c:Int):Int:=if f=10\/f=0 then -1 else findA f c 0 l
def hit (l:List Rec) (f c:Int):Option Rec:=if find l f c<0 then Option.none else some (l.getD (find l f c).toNat none)
def cls (l:List Rec) (c:Int):Int:=match hit l 2 c with | some r=>r.n | Option.none=>0
def syl (c:Int):Bool:=decide (44032<=c/\c<=55203)
def opn (l:List Rec) (c:Int):List Int :=
 if syl c then (if (c - 44032) % 28=0 then [4352+(c - 44032) / 588,4449+(c - 44032) / 28 % 21] else [c - (c - 44032) % 28,4519+(c - 44032) % 28])
 else match hit l 3 c with | some r=>r.to | Option.none=>[]
def prim (l:List Rec) (c:Int):Option (Int × Int) :=
 if syl c then some ((opn l c).getD 0 0,(opn l c).getD 1 0)
 else match hit l 3 c with
  | some r=>if r.kind=7/\r.to.length=2 then some (r.to.getD 0 0,r.to.getD 1 0) else Option.none
  | Option.none=>Option.none
theorem x4N (k:Int):0<=fam k/\fam k<=10:=by
 unfold fam;split
 ·omega
 ·split
  ·omega
  ·split
   ·omega
   ·split <;> omega
theorem y1F {l:List Rec} {f c:Int} {k:Nat} (hk:k<l.length):findA f c k (l.drop k)=if fam (l.getD k none).kind=f/\speaks (l.getD k none) c=true then (k:Int) else findA f c (k+1) (l.drop (k+1)):=by
 rw [List.drop_eq_getElem_cons hk,findA];simp [List.getD,hk]
theorem findA_bound (f c:Int):∀ (l:List Rec) (k:Nat),findA f c k l=-1\/((k:Int)<=findA f c k l/\findA f c k l<k+l.length)
 | [],_=>.inl rfl
 | r :: l,k=>by
  rw [findA];split
  ·exact .inr ⟨by omega,by simp; omega⟩
  ·rcases findA_bound f c l (k+1) with h | ⟨h1,h2⟩
   ·exact .inl h
   ·exact .inr ⟨by omega,by simp; omega⟩
theorem find_bound (l:List Rec) (f c:Int):find l f c=-1\/(0<=find l f c/\find l f c<l.length):=by
 unfold find;split
 ·exact .inl rfl
 ·rcases findA_bound f c l 0 with h | ⟨h1,h2⟩
  ·exact .inl h
  ·exact .inr ⟨by omega,by omega⟩
end Cn
open Go.RowKit
def I64 (n:Int):Prop:=-9223372036854775808<=n/\n<=9223372036854775807
structure RecFit (r:Rec):Prop where
 kind:I64 r.kind
 lo:I64 r.lo
 hi:I64 r.hi
 n:I64 r.n
 len:r.to.length<=1000000000
 wt:r.wt<18446744073709551616
structure RecAt (w:World) (b o:Nat) (r:Rec):Prop where
 kind:w.cell? ⟨b,o,none⟩=some (.int .i64 r.kind)
 lo:w.cell? ⟨b,o+1,none⟩=some (.int .i64 r.lo)
 hi:w.cell? ⟨b,o+2,none⟩=some (.int .i64 r.hi)
 n:w.cell? ⟨b,o+3,none⟩=some (.int .i64 r.n)
 to:∃ v,w.cell? ⟨b,o+4,none⟩=some v/\Sk .i32 w v r.to
 name:w.cell? ⟨b,o+5,none⟩=some (.string r.name)
 other:w.cell? ⟨b,o+6,none⟩=some (.string r.other)
 wt:w.cell? ⟨b,o+7,none⟩=some (.float .f64 r.wt)
theorem RecAt.below {w w':World} {b o:Nat} {r:Rec} (h:RecAt w b o r) (hb:Bw w w'):RecAt w' b o r:=by
 obtain ⟨h0,h1,h2,h3,⟨v,h4,h5⟩,h6,h7,h8⟩:=h
 exact ⟨by rw [hb.cell (x0a h0)]; exact h0,by rw [hb.cell (x0a h1)]; exact h1,by rw [hb.cell (x0a h2)]; exact h2,by rw [hb.cell (x0a h3)]; exact h3,
  ⟨v,by rw [hb.cell (x0a h4)]; exact h4,h5.below hb⟩,by rw [hb.cell (x0a h6)]; exact h6,by rw [hb.cell (x0a h7)]; exact h7,by rw [hb.cell (x0a h8)]; exact h8⟩
def Rcs (w:World) (v:Value) (rs:List Rec):Prop:=rs.length<=1000000000/\(∀ r∈rs,RecFit r) /\
 ((rs=[]/\∃ ao cap,v=.slice ao 0 cap/\cap<=9223372036854775807) \/
  ∃ b off cap,v=.slice (some ⟨b,off,none⟩) rs.length cap/\rs.length<=cap/\cap<=9223372036854775807/\∀ i,i<rs.length->RecAt w b (off+i * 8) (rs.getD i Cn.none))
theorem Rcs.below {w w':World} {v:Value} {rs:List Rec} (h:Rcs w v rs) (hb:Bw w w'):Rcs w' v rs:=by
 obtain ⟨h1,h2,h3⟩:=h;refine ⟨h1,h2,?_⟩;rcases h3 with h3 | ⟨b,off,cap,hv,hl,hm,hc⟩
 ·exact .inl h3
 ·exact .inr ⟨b,off,cap,hv,hl,hm,fun i hi=>(hc i hi).below hb⟩
theorem Rcs.shape {w:World} {v:Value} {rs:List Rec} (h:Rcs w v rs):∃ ao cap,v=.slice ao rs.length cap/\rs.length<=cap/\cap<=9223372036854775807:=by
 rcases h.2.2 with ⟨rfl,ao,cap,hv,hm⟩ | ⟨b,off,cap,hv,hl,hm,_⟩
 ·exact ⟨ao,cap,hv,by simp,hm⟩
 ·exact ⟨_,cap,hv,hl,hm⟩
theorem Rcs.place {w:World} {v:Value} {rs:List Rec} (h:Rcs w v rs) (bd:0<rs.length):∃ b off cap,v=.slice (some ⟨b,off,none⟩) rs.length cap/\rs.length<=cap/\cap<=9223372036854775807/\∀ i,i<rs.length->RecAt w b (off+i * 8) (rs.getD i Cn.none):=by
 rcases h.2.2 with ⟨rfl,_⟩ | h
 ·simp at bd
 ·exact h
theorem Rcs.fit {w:World} {v:Value} {rs:List Rec} (h:Rcs w v rs) {i:Nat} (hi:i<rs.length):RecFit (rs.getD i Cn.none):=h.2.1 _ (by simp [List.getD,hi])
theorem Rcs.head {w:World} {ao:Option Addr} {len cap k:Nat} {rs:List Rec} (h:Rcs w (.slice ao len cap) rs) (hk:k<=len):Rcs w (.slice ao k cap) (rs.take k):=by
 obtain ⟨h1,h2,h3⟩:=h;refine ⟨by simp; omega,fun r hr=>h2 r (List.mem_of_mem_take hr),?_⟩;rcases h3 with ⟨rfl,bq,av,hv,hm⟩ | ⟨b,off,av,hv,hl,hm,hc⟩
 ·simp only [Value.slice.injEq] at hv;obtain ⟨rfl,rfl,rfl⟩:=hv;obtain rfl:k=0:=(by omega);exact .inl ⟨by simp,_,_,rfl,hm⟩
 ·simp only [Value.slice.injEq] at hv;obtain ⟨rfl,rfl,rfl⟩:=hv;have aD:(rs.take k).length=k:=(by simp; omega);refine .inr ⟨b,off,cap,by rw [aD],by omega,hm,fun i hi=>?_⟩;rw [aD] at hi;have:=hc i (by omega);rw [show (rs.take k).getD i Cn.none=rs.getD i Cn.none by simp [List.getD,List.getElem?_take_of_lt hi]];exact this
def recV (r:Rec) (vt:Value):Value:=.agg #[.int .i64 r.kind,.int .i64 r.lo,.int .i64 r.hi,.int .i64 r.n,vt,.string r.name,.string r.other,.float .f64 r.wt]
def IntB (w:World) (n:Int) (e:Ending) (w':World):Prop:=e=.returned (.int .i64 n)/\Below w.heap.size w w'
def x0d (w:World) (b:Bool) (e:Ending) (w':World):Prop:=e=.returned (.bool b)/\Below w.heap.size w w'
def y9s:Value:=.agg #[.int .i64 0,.int .i64 1,.int .i64 1,.int .i64 1,.int .i64 1,.int .i64 1,.int .i64 2,.int .i64 3,.int .i64 3,.int .i64 4,.int .i64 5,.int .i64 6,.int .i64 7,.int .i64 8,.int .i64 9,.int .i64 10]
theorem y9t (k:Int) (h0:1<=k) (h1:k<=15) (w:World):(Instr.index 142 y9s (.int .i64 k)).run prog w=.ok (.int .i64 (Cn.fam k)) w:=by
 have h:k=1\/k=2\/k=3\/k=4\/k=5\/k=6\/k=7\/k=8\/k=9\/k=10\/k=11\/k=12\/k=13\/k=14\/k=15:=by omega
 rcases h with rfl | rfl | rfl | rfl | rfl | rfl | rfl | rfl | rfl | rfl | rfl | rfl | rfl | rfl | rfl <;>
  (simp [y9s,Instr.index,run_underlying underlying142,asIntOf,go_sem,Tryz.sizeOf3,Tryz.isAgg3,Cn.fam])
theorem x0l (k:Int) (w:World) (hk:I64 k):Calls prog 62 #[.int .i64 k] w fun e w'=>e=.returned (.int .i64 (Cn.fam k))/\w'=w:=by
 obtain ⟨k0,k1⟩:=hk;by_cases a1:k<1
 ·have hf:Cn.fam k=0:=(by unfold Cn.fam; rw [if_pos (.inl a1)]);rw [hf];go_enter func62,ntmps62;go_wp2;go_ret;exact ⟨rfl,rfl⟩
 ·by_cases a2:15<k
  ·have hf:Cn.fam k=0:=(by unfold Cn.fam; rw [if_pos (.inr a2)]);rw [hf];go_enter func62,ntmps62;go_wp2;go_ret;exact ⟨rfl,rfl⟩
  ·have bb:=y9t k (by omega) (by omega);unfold y9s at bb;generalize Cn.fam k=f at *;go_enter func62,ntmps62;go_wp2;go_ret;exact ⟨rfl,rfl⟩
theorem x5m (r:Rec) (vt:Value) (w:World) (hf:RecFit r):Calls prog 102 #[recV r vt] w (IntB w (Cn.step r)):=by
 unfold recV Cn.step;have hn:=hf.n;have hk:=hf.kind;generalize r.kind=kd at *;generalize r.n=n at *;generalize r.lo=lo;generalize r.hi=hi;generalize r.name=nm;generalize r.other=ot;generalize r.wt=wt;obtain ⟨n0,n1⟩:=hn;obtain ⟨k0,k1⟩:=hk;clear hf;by_cases h4:kd=4
 ·subst h4;rw [if_pos rfl];by_cases hp:0<=n
  ·have hm:max n 0=n:=(by omega);rw [hm];go_enter func102,ntmps102;go_wp2;go_ret;exact ⟨rfl,(b0r).alloc (l0r _) _⟩
  ·have hm:max n 0=0:=(by omega);rw [hm];go_enter func102,ntmps102;go_wp2;go_ret;exact ⟨rfl,(b0r).alloc (l0r _) _⟩
 ·rw [if_neg h4];have q:(kd==4)=false:=b0f h4;go_enter func102,ntmps102;go_wp2;go_ret;exact ⟨rfl,(b0r).alloc (l0r _) _⟩
theorem y7O {c lo:Int} (h0:0<=c) (h1:c<=1114111) (h2:lo<=c) (h3:-9223372036854775808<=lo):∃ L,IntKind.u64.wrap lo=L/\IntKind.u64.wrap (c - L)=c - lo:=by
 refine ⟨_,rfl,?_⟩;by_cases hn:0<=lo
 ·rw [IntWalk.u64_in lo ⟨by omega,by omega⟩,IntWalk.u64_in _ ⟨by omega,by omega⟩]
 ·have e:IntKind.u64.wrap lo=lo+18446744073709551616:=by
   unfold IntKind.wrap;have hb:(2:Int) ^ IntKind.u64.bits=18446744073709551616:=(by decide);rw [hb];simp [IntKind.signed];omega
  rw [e];unfold IntKind.wrap;have hb:(2:Int) ^ IntKind.u64.bits=18446744073709551616:=(by decide);rw [hb];simp [IntKind.signed];omega
theorem x3l (r:Rec) (vt:Value) (c:Int) (w:World) (hf:RecFit r) (hc:-2147483648<=c/\c<=2147483647):Calls prog 90 #[recV r vt,.int .i64 c] w (x0d w (Cn.speaks r c)):=by
 have K:=O (fun w=>x5m r vt w hf)
 have hst:Cn.step r<=9223372036854775807:=by
  unfold Cn.step;have:=hf.n;unfold I64 at this;split <;> omega
 have aK:Cn.speaks r c=decide (r.kind≠15/\0<Cn.step r/\0<=c/\c<=1114111/\r.lo<=c/\c<=r.hi/\(c - r.lo) % Cn.step r=0):=rfl;rw [aK];clear aK;have hk:=hf.kind;have hl:=hf.lo;have hh:=hf.hi;unfold recV at *;generalize Cn.step r=st at *;clear hf;generalize r.kind=kd at *;generalize r.n=n at *;generalize r.lo=lo at *;generalize r.hi=hi at *;generalize r.name=nm at *;generalize r.other=ot at *;generalize r.wt=wt at *;obtain ⟨k0,k1⟩:=hk;obtain ⟨l0,l1⟩:=hl;obtain ⟨m0,m1⟩:=hh;obtain ⟨c0,c1⟩:=hc
 have aG:∀ W,Below (w.heap.size+1) (w.alloc (.cells #[.int .i64 kd,.int .i64 lo,.int .i64 hi,.int .i64 n,vt,.string nm,.string ot,.float .f64 wt] 50)) W->W.cell? ⟨w.heap.size,0,none⟩=some (.int .i64 kd)/\W.cell? ⟨w.heap.size,1,none⟩=some (.int .i64 lo)/\W.cell? ⟨w.heap.size,2,none⟩=some (.int .i64 hi):=by
  intro W hb;refine ⟨?_,?_,?_⟩ <;> (rw [hb.cell (by simp)]; simp [World.cell?,World.alloc,-World.alloc_eq])
 have HC:=O aG;clear aG;by_cases a1:kd=15
 ·have y0:(kd != 15)=false:=(by simp [a1]);rw [d0f (fun h=>h.1 a1)];subst a1;go_enter func90,ntmps90;go_wp2_with fail;refine (V K _).mono ?_;rintro e w1 ⟨rfl,hb⟩;obtain ⟨x0,x1,x2⟩:=V HC w1 (by simpa using hb);have HF:x0d w false (.returned (.bool false)) w1:=⟨rfl,((b0r).alloc (l0r _) _).trans (hb.mono (by simp))⟩;clear K HC hb;go_wp2;go_ret;exact HF
 ·have y0:(kd != 15)=true:=(by simp [a1]);by_cases b0:0<st;rotate_left
  ·rw [d0f (by omega)];go_enter func90,ntmps90;go_wp2_with fail;refine (V K _).mono ?_;rintro e w1 ⟨rfl,hb⟩;obtain ⟨x0,x1,x2⟩:=V HC w1 (by simpa using hb);have HF:x0d w false (.returned (.bool false)) w1:=⟨rfl,((b0r).alloc (l0r _) _).trans (hb.mono (by simp))⟩;clear K HC hb;go_wp2;go_ret;exact HF
  by_cases b1:0<=c;rotate_left
  ·rw [d0f (by omega)];go_enter func90,ntmps90;go_wp2_with fail;refine (V K _).mono ?_;rintro e w1 ⟨rfl,hb⟩;obtain ⟨x0,x1,x2⟩:=V HC w1 (by simpa using hb);have HF:x0d w false (.returned (.bool false)) w1:=⟨rfl,((b0r).alloc (l0r _) _).trans (hb.mono (by simp))⟩;clear K HC hb;go_wp2;go_ret;exact HF
  by_cases b2:c<=1114111;rotate_left
  ·rw [d0f (by omega)];go_enter func90,ntmps90;go_wp2_with fail;refine (V K _).mono ?_;rintro e w1 ⟨rfl,hb⟩;obtain ⟨x0,x1,x2⟩:=V HC w1 (by simpa using hb);have HF:x0d w false (.returned (.bool false)) w1:=⟨rfl,((b0r).alloc (l0r _) _).trans (hb.mono (by simp))⟩;clear K HC hb;go_wp2;go_ret;exact HF
  by_cases b3:lo<=c;rotate_left
  ·rw [d0f (by omega)];go_enter func90,ntmps90;go_wp2_with fail;refine (V K _).mono ?_;rintro e w1 ⟨rfl,hb⟩;obtain ⟨x0,x1,x2⟩:=V HC w1 (by simpa using hb);have HF:x0d w false (.returned (.bool false)) w1:=⟨rfl,((b0r).alloc (l0r _) _).trans (hb.mono (by simp))⟩;clear K HC hb;go_wp2;go_ret;exact HF
  by_cases b4:c<=hi;rotate_left
  ·rw [d0f (by omega)];go_enter func90,ntmps90;go_wp2_with fail;refine (V K _).mono ?_;rintro e w1 ⟨rfl,hb⟩;obtain ⟨x0,x1,x2⟩:=V HC w1 (by simpa using hb);have HF:x0d w false (.returned (.bool false)) w1:=⟨rfl,((b0r).alloc (l0r _) _).trans (hb.mono (by simp))⟩;clear K HC hb;go_wp2;go_ret;exact HF
  obtain ⟨Lw,e1,e2⟩:=y7O b1 b2 b3 l0;have e0:IntKind.u64.wrap c=c:=IntWalk.u64_in c ⟨by omega,by omega⟩;have e3:IntKind.u64.wrap st=st:=IntWalk.u64_in st ⟨by omega,by omega⟩;obtain ⟨q,hq⟩:∃ q,(c - lo).tmod st=q:=⟨_,rfl⟩;have aZ:(c - lo) % st=q:=(by rw [<- hq,Int.tmod_eq_emod_of_nonneg (by omega)]);have est:(st==0)=false:=b0f (by omega);by_cases g:q=0
  ·rw [d0t ⟨a1,b0,b1,b2,b3,b4,aZ.trans g⟩];subst g;clear aZ;go_enter func90,ntmps90;go_wp2_with fail;refine (V K _).mono ?_;rintro e w1 ⟨rfl,hb⟩;obtain ⟨x0,x1,x2⟩:=V HC w1 (by simpa using hb);have HF:x0d w true (.returned (.bool true)) w1:=⟨rfl,((b0r).alloc (l0r _) _).trans (hb.mono (by simp))⟩;clear K HC hb;go_wp2;go_ret;exact HF
  ·have gq:(q==0)=false:=b0f g;rw [d0f (fun h=>g (aZ.symm.trans h.2.2.2.2.2.2))];clear aZ;go_enter func90,ntmps90;go_wp2_with fail;refine (V K _).mono ?_;rintro e w1 ⟨rfl,hb⟩;obtain ⟨x0,x1,x2⟩:=V HC w1 (by simpa using hb);have HF:x0d w false (.returned (.bool false)) w1:=⟨rfl,((b0r).alloc (l0r _) _).trans (hb.mono (by simp))⟩;clear K HC hb;go_wp2;go_ret;exact HF
theorem x0O (v:Value) (rs:List Rec) (f c:Int) (w:World) (hv:Rcs w v rs) (hf:I64 f) (hc:-2147483648<=c/\c<=2147483647):Calls prog 53 #[v,.int .i64 f,.int .i32 c] w (IntB w (Cn.find rs f c)):=by
 obtain ⟨f0,f1⟩:=hf;by_cases h10:f=10
 ·have hF:Cn.find rs f c=-1:=(by unfold Cn.find; rw [if_pos (.inl h10)]);rw [hF];subst h10;clear hF;obtain ⟨ao,cap,rfl,_,_⟩:=hv.shape;clear hv;go_enter func53,ntmps53;go_wp2;go_ret;exact ⟨rfl,b0r⟩
 ·have q1:(f==10)=false:=b0f h10;by_cases h0:f=0
  ·have hF:Cn.find rs f c=-1:=(by unfold Cn.find; rw [if_pos (.inr h0)]);rw [hF];subst h0;clear hF;obtain ⟨ao,cap,rfl,_,_⟩:=hv.shape;clear hv;go_enter func53,ntmps53;go_wp2;go_ret;exact ⟨rfl,b0r⟩
  ·have q2:(f==0)=false:=b0f h0;have hF:Cn.find rs f c=Cn.findA f c 0 (rs.drop 0):=(by unfold Cn.find; rw [if_neg (by omega)]; rfl);rw [hF];clear hF;have aA:=hv.1;have KF:=O (fun k w h=>x0l k w h);have KS:=O (fun r vt w h=>x3l r vt c w h hc);have ac:=O (fun i hi=>hv.fit (i:=i) hi);generalize hres:Cn.findA f c 0 (rs.drop 0)=res;obtain ⟨c0,c1⟩:=hc;rcases Nat.eq_zero_or_pos rs.length with n0 | n0
   ·obtain ⟨ao,cap,rfl,_,_⟩:=hv.shape;obtain rfl:rs=[]:=List.eq_nil_of_length_eq_zero n0;obtain rfl:-1=res:=hres;clear hv KF KS ac;go_enter func53,ntmps53;go_wp2;refine wp_loop_rounds 1 ?_;rw [rounds_succ];go_wp2;go_ret;exact ⟨rfl,b0r⟩
   ·obtain ⟨b,off,cap,rfl,bC,bD,ag⟩:=hv.place n0;have HC:Hid (∀ i,i<rs.length->∀ W,Bw w W->RecAt W b (off+i * 8) (rs.getD i Cn.none)):=fun i hi W hb=>(ag i hi).below hb;have HR:=O hres;clear hv ag hres;go_enter func53,ntmps53;go_wp2;go_loopw [7] (fun iv wr=>∃ k:Nat,iv=.int .i64 k/\k<=rs.length/\Bw w wr/\Cn.findA f c k (rs.drop k)=res) (fun iv _=>rs.length - (intOf iv).toNat)
    case atStart=>exact ⟨0,rfl,by omega,b0r,V HR⟩
    case round =>
     clear HR;obtain ⟨k,rfl,hk,aa,hx⟩:=hrel;by_cases ak:k<rs.length
     ·have al:=V HC k ak wr aa;have an:=V ac k ak;rw [Cn.y1F ak] at hx;have HX:=O hx;clear hx;generalize rs.getD k Cn.none=r at *;obtain ⟨x0,x1,x2,x3,⟨vt,x4,_⟩,x5,x6,x7⟩:=al;have K1:=O (V KF r.kind wr an.kind);have K2:=O (V KS r vt wr an);unfold recV at K2;clear HC KF KS ac an;generalize r.kind=kd at *;generalize r.n=n at *;generalize r.lo=lo at *;generalize r.hi=hi at *;generalize r.name=nm at *;generalize r.other=ot at *;generalize r.wt=wt at *;by_cases hfam:Cn.fam kd=f
      ·have y0:=O (show (Cn.fam kd==f)=true from beq_iff_eq.2 hfam);generalize Cn.fam kd=fk at *;subst hfam;have y1:(fk==fk)=true:=beq_self_eq_true _;go_wp2_with fail;refine (V K1).mono ?_;rintro e w1 ⟨rfl,aH⟩;subst w1;clear K1;go_wp2_with fail;refine (V K2).mono ?_;rintro e w1 ⟨rfl,aW⟩;have aF:Bw w w1:=aa.trans (aW.mono aa.size);clear K2 x0 x1 x2 x3 x4 x5 x6 x7
       cases aK:Cn.speaks r c with
       | true =>
        have HF:IntB w res (.returned (.int .i64 (k:Int))) w1:=⟨by rw [<- V HX,if_pos (by simp [aK])],aF⟩;clear HX aK;go_wp2;go_ret;exact HF
       | false =>
        have HY:=O ((V HX).symm.trans (if_neg (by rw [aK]; simp)));clear HX aK;go_wp2
        go_roundw
        case rel=>exact ⟨k+1,by go_num,by omega,aF,(V HY).symm⟩
        case measure=>simp [intOf]; omega
      ·have y1:(Cn.fam kd==f)=false:=b0f hfam;have HY:=O ((V HX).symm.trans (if_neg (fun h=>hfam h.1)));generalize Cn.fam kd=fk at *;clear HX hfam K2;go_wp2_with fail;refine (V K1).mono ?_;rintro e w1 ⟨rfl,aH⟩;subst w1;clear K1;go_wp2
       go_roundw
       case rel=>exact ⟨k+1,by go_num,by omega,aa,(V HY).symm⟩
       case measure=>simp [intOf]; omega
     ·obtain rfl:k=rs.length:=(by omega);have hm:(-1:Int)=res:=(by rw [<- hx,List.drop_eq_nil_of_le (l0r _)]; rfl);have HF:IntB w res (.returned (.int .i64 (-1))) wr:=⟨by rw [hm],aa⟩;clear hx hm HC KF KS ac;go_wp2;go_ret;exact HF
theorem Tryz.info21:(prog.info? 21).map (fun i=>(i.zero,i.size,i.bytes))=some (some (.int .i32 0),1,4):=by kernel_rfl
theorem info_parts {p:Option TypeInfo} {z:Option Value} {s b:Nat} (h:p.map (fun i=>(i.zero,i.size,i.bytes))=some (z,s,b)):∃ i,p=some i/\i.zero=z/\i.size=s/\i.bytes=b:=by
 cases p with
 | none=>cases h
 | some i =>
  simp only [Option.map_some,Option.some.injEq,Prod.mk.injEq] at h;exact ⟨i,rfl,h.1,h.2.1,h.2.2⟩
def x0i (w:World) (zs:List Int) (e:Ending) (w':World):Prop:=∃ v,e=.returned v/\Ok .i32 21 w' w.heap.size v zs/\Below w.heap.size w w'
def x4B (w:World) (r:Option (Int × Int)) (e:Ending) (w':World):Prop:=e=.returned (.tuple #[.int .i32 ((r.map (·.1)).getD 0),.int .i32 ((r.map (·.2)).getD 0),.bool r.isSome])/\Below w.heap.size w w'
theorem x2B (c:Int) (w:World) (h:-2147483648<=c/\c<=2147483647):Calls prog 66 #[.int .i32 c] w fun e w'=>e=.returned (.bool (Cn.syl c))/\w'=w:=by
 obtain ⟨h1,h2⟩:=h;unfold Cn.syl;by_cases a1:44032<=c
 ·by_cases a2:c<=55203
  ·rw [d0t ⟨a1,a2⟩];go_enter func66,ntmps66;go_wp2;go_ret;exact ⟨rfl,rfl⟩
  ·rw [d0f (fun h=>a2 h.2)];go_enter func66,ntmps66;go_wp2;go_ret;exact ⟨rfl,rfl⟩
 ·rw [d0f (fun h=>a1 h.1)];go_enter func66,ntmps66;go_wp2;go_ret;exact ⟨rfl,rfl⟩
theorem hit_at {w:World} {v:Value} {rs:List Rec} (hv:Rcs w v rs) (f c:Int):(Cn.find rs f c=-1/\Cn.hit rs f c=none) \/
  ∃ (k:Nat) (b off cap:Nat),Cn.find rs f c=k/\k<rs.length/\Cn.hit rs f c=some (rs.getD k Cn.none)/\v=.slice (some ⟨b,off,none⟩) rs.length cap/\rs.length<=cap/\cap<=9223372036854775807/\RecAt w b (off+k * 8) (rs.getD k Cn.none)/\RecFit (rs.getD k Cn.none):=by
 rcases Cn.find_bound rs f c with h | ⟨h1,h2⟩
 ·exact .inl ⟨h,by unfold Cn.hit; rw [h]; rfl⟩
 ·obtain ⟨k,hk⟩:∃ k:Nat,Cn.find rs f c=k:=⟨(Cn.find rs f c).toNat,by omega⟩;have aD:k<rs.length:=(by omega);obtain ⟨b,off,cap,hv1,hl,hm,hc⟩:=hv.place (by omega);refine .inr ⟨k,b,off,cap,hk,aD,?_,hv1,hl,hm,hc k aD,hv.fit aD⟩;unfold Cn.hit;rw [hk,if_neg (by omega)]; rfl
theorem x1F (v:Value) (rs:List Rec) (c:Int) (w:World) (hv:Rcs w v rs) (hc:-2147483648<=c/\c<=2147483647):Calls prog 104 #[v,.int .i32 c] w (IntB w (Cn.cls rs c)):=by
 have K:=O (x0O v rs 2 c w hv (by unfold I64; omega) hc);obtain ⟨c0,c1⟩:=hc;rcases hit_at hv 2 c with ⟨h1,h2⟩ | ⟨k,b,off,cap,h1,aD,h2,rfl,hl,hm,hr,hf⟩
 ·have aQ:Cn.cls rs c=0:=(by unfold Cn.cls; rw [h2]);rw [aQ];rw [h1] at K;obtain ⟨ao,cap,rfl,_,_⟩:=hv.shape;clear hv h1 h2 aQ;go_enter func104,ntmps104;go_wp2_with fail;refine (V K).mono ?_;rintro e w1 ⟨rfl,hb⟩;have HF:IntB w 0 (.returned (.int .i64 0)) w1:=⟨rfl,hb⟩;clear K hb;go_wp2;go_ret;exact HF
 ·have aQ:Cn.cls rs c=(rs.getD k Cn.none).n:=(by unfold Cn.cls; rw [h2]);rw [aQ];rw [h1] at K;have HR:=O hr;have aA:=hv.1;clear hv h1 h2 aQ hr hf;generalize rs.getD k Cn.none=r at *;go_enter func104,ntmps104;go_wp2_with fail;refine (V K).mono ?_;rintro e w1 ⟨rfl,hb⟩;have x3:=((V HR).below hb).n;have HF:IntB w r.n (.returned (.int .i64 r.n)) w1:=⟨rfl,hb⟩;clear K hb HR;generalize r.n=n at *;go_wp2;go_ret;exact HF
theorem ok_two (w:World) (a b:Int) (ha:-2147483648<=a/\a<=2147483647) (hb:-2147483648<=b/\b<=2147483647):Ok .i32 21 (w.alloc (.cells #[.int .i32 a,.int .i32 b] 21)) w.heap.size (.slice (some ⟨w.heap.size,0,none⟩) 2 2) [a,b]:=by
 refine Ok.of (n:=2) (us:=[.int .i32 a,.int .i32 b]) (fun z hz=>?_) (by simp) ⟨rfl,.inr ⟨w.heap.size,2,#[.int .i32 a,.int .i32 b],rfl,l0r _,?_,l0r _,by unfold maxLen; omega,rfl,rfl⟩⟩ rfl rfl
 ·simp only [List.mem_cons,List.mem_nil_iff,or_false] at hz;simp only [IntKind.min,IntKind.max,IntKind.signed,IntKind.bits];rcases hz with rfl | rfl <;> simp <;> omega
 ·show (w.heap.push _)[w.heap.size]?=_;simp
theorem x2d (v:Value) (rs:List Rec) (c:Int) (w:World) (hv:Rcs w v rs) (hc:-2147483648<=c/\c<=2147483647):Calls prog 106 #[v,.int .i32 c] w (x0i w (Cn.opn rs c)):=by
 obtain ⟨i0,hi,bj,bk,aI⟩:=info_parts Tryz.info21;have K0:=O (x2B c w hc);have K:=O (x0O v rs 3 c w hv (by unfold I64; omega) hc);obtain ⟨c0,c1⟩:=hc;by_cases hs:Cn.syl c=true
 ·have aE:44032<=c/\c<=55203:=(by unfold Cn.syl at hs; simpa using hs);obtain ⟨s0,s1⟩:=aE;rw [hs] at K0;obtain ⟨ao,cap,rfl,_,_⟩:=hv.shape;have e1:(c - 44032).tmod 28=(c - 44032) % 28:=Int.tmod_eq_emod_of_nonneg (by omega);have e2:(c - 44032).tdiv 588=(c - 44032) / 588:=Int.tdiv_eq_ediv_of_nonneg (by omega);have e3:(c - 44032).tdiv 28=(c - 44032) / 28:=Int.tdiv_eq_ediv_of_nonneg (by omega);have e4:((c - 44032) / 28).tmod 21=(c - 44032) / 28 % 21:=Int.tmod_eq_emod_of_nonneg (by omega);clear hv K;by_cases h28:(c - 44032) % 28=0
  ·have ho:Cn.opn rs c=[4352+(c - 44032) / 588,4449+(c - 44032) / 28 % 21]:=(by unfold Cn.opn; rw [if_pos hs,if_pos h28]);rw [ho];have a5:((c - 44032) % 28==0)=true:=beq_iff_eq.2 h28
   have HF:x0i w [4352+(c - 44032) / 588,4449+(c - 44032) / 28 % 21] (.returned (.slice (some ⟨w.heap.size,0,none⟩) 2 2)) (w.alloc (.cells #[.int .i32 (4352+(c - 44032) / 588),.int .i32 (4449+(c - 44032) / 28 % 21)] 21)) :=
    ⟨_,rfl,ok_two w _ _ (by omega) (by omega),(b0r).alloc (l0r _) _⟩
   clear ho hs;go_enter func106,ntmps106;go_wp2_with fail;refine (V K0).mono ?_;rintro e w1 ⟨rfl,aH⟩;subst w1;clear K0;go_wp2;go_ret;exact HF
  ·have ho:Cn.opn rs c=[c - (c - 44032) % 28,4519+(c - 44032) % 28]:=(by unfold Cn.opn; rw [if_pos hs,if_neg h28]);rw [ho];have a5:((c - 44032) % 28==0)=false:=b0f h28
   have HF:x0i w [c - (c - 44032) % 28,4519+(c - 44032) % 28] (.returned (.slice (some ⟨w.heap.size,0,none⟩) 2 2)) (w.alloc (.cells #[.int .i32 (c - (c - 44032) % 28),.int .i32 (4519+(c - 44032) % 28)] 21)) :=
    ⟨_,rfl,ok_two w _ _ (by omega) (by omega),(b0r).alloc (l0r _) _⟩
   clear ho hs;go_enter func106,ntmps106;go_wp2_with fail;refine (V K0).mono ?_;rintro e w1 ⟨rfl,aH⟩;subst w1;clear K0;go_wp2;go_ret;exact HF
 ·have aE:Cn.syl c=false:=(by simpa using hs);rw [aE] at K0;rcases hit_at hv 3 c with ⟨h1,h2⟩ | ⟨k,b,off,cap,h1,aD,h2,rfl,hl,hm,hr,hf⟩
  ·have ho:Cn.opn rs c=[]:=(by unfold Cn.opn; rw [if_neg hs,h2]);rw [ho];rw [h1] at K;obtain ⟨ao,cap,rfl,_,_⟩:=hv.shape;clear hv h1 h2 ho hs aE;go_enter func106,ntmps106;go_wp2_with fail;refine (V K0).mono ?_;rintro e w1 ⟨rfl,aH⟩;subst w1;clear K0;go_wp2_with fail;refine (V K).mono ?_;rintro e w1 ⟨rfl,hb⟩;have HF:x0i w [] (.returned (.slice none 0 0)) w1:=⟨_,rfl,Ok.nil _ _ _ _,hb⟩;clear K hb;go_wp2;go_ret;exact HF
  ·have ho:Cn.opn rs c=(rs.getD k Cn.none).to:=(by unfold Cn.opn; rw [if_neg hs,h2]);rw [ho];rw [h1] at K;have HR:=O hr;have aA:=hv.1;have aN:=hf.len;clear hv h1 h2 ho hs aE hr hf;generalize rs.getD k Cn.none=r at *;go_enter func106,ntmps106;go_wp2_with fail;refine (V K0).mono ?_;rintro e w1 ⟨rfl,aH⟩;subst w1;clear K0;go_wp2_with fail;refine (V K).mono ?_;rintro e w1 ⟨rfl,hb⟩;obtain ⟨vt,x4,au⟩:=((V HR).below hb).to;have hB:=hb.size;have an:=au.1;clear K HR;generalize r.to=zs at *;rcases au.2.src with ⟨hnil,rfl⟩ | ⟨ad,ar,rfl,hsrc⟩
   ·obtain rfl:zs=[]:=(by simpa using hnil);have HF:x0i w [] (.returned (.slice none 0 0)) w1:=⟨_,rfl,Ok.nil _ _ _ _,hb⟩;clear au hb;go_wp2_with (at_builtin; refine wpList_append_own_none rfl (.tmp 36) (.tmp 41) 23 rfl w.heap.size 21 i0 1 underlying23 hi _ _ _ rfl (World.ownsRow_nil _ _ _ _) rfl ?_);go_wp2;go_ret;exact HF
   ·have aM:(zs.map (Value.int .i32)).length=zs.length:=List.length_map _;rw [aM] at x4;clear au;go_wp2_with (at_builtin; refine wpList_append_own _ rfl (.tmp 36) (.tmp 41) 23 rfl w.heap.size 21 i0 (.int .i32 0) 1 4 underlying23 hi bj bk aI rfl (by decide) _ _ _ rfl (World.ownsRow_nil _ _ _ _) ad zs.length ar (zs.map (Value.int .i32)) rfl (by simp) hsrc (fun u hu=>by obtain ⟨z,_,rfl⟩:=List.mem_map.1 hu; rfl) (by unfold maxLen; omega) (by omega) (by omega) ?_);intro v9 w9 aq aw _;have br:Bw w w9:=hb.grown aw hB (fun k hk=>by simp [Value.ownBlock] at hk);have HF:x0i w zs (.returned v9) w9:=⟨v9,rfl,Ok.of an (by omega) aq (by simp) (by simp),br⟩;clear aq aw hb br hsrc;go_wp2;go_ret;exact HF
def x3a (w:World) (b:Bool) (e:Ending) (w':World):Prop:=e=.returned (.bool b)/\∃ m,w'=w.drewN m
theorem x4J (w:World):∃ m,w=w.drewN m:=⟨0,rfl⟩
theorem x4K {w w':World} (h:∃ m,w'=w.drewN m) (n:Nat):∃ m,w'.drewN n=w.drewN m:=by
 obtain ⟨m,rfl⟩:=h;exact ⟨m+n,by rw [World.drewN_drewN]⟩
theorem x0k {w w':World} (h:∃ m,w'=w.drewN m):Bw w w':=by
 obtain ⟨m,rfl⟩:=h;exact below_drewN (b0r) m
theorem ints_at {K:IntKind} {zs:List Int} {i:Nat} (h:i<zs.length):(zs.map (Value.int K)).getD i undef=.int K (zs.getD i 0):=by simp [List.getD,h]
theorem x5O (v:Value) (rs:List Rec) (c:Int) (w:World) (hv:Rcs w v rs) (hc:-2147483648<=c/\c<=2147483647):Calls prog 105 #[v,.int .i32 c] w (x4B w (Cn.prim rs c)):=by
 have K0:=O (x2B c w hc);have K1:=O (x2d v rs c w hv hc);have K:=O (x0O v rs 3 c w hv (by unfold I64; omega) hc);obtain ⟨c0,c1⟩:=hc;by_cases hs:Cn.syl c=true
 ·have hp:Cn.prim rs c=some ((Cn.opn rs c).getD 0 0,(Cn.opn rs c).getD 1 0):=(by unfold Cn.prim; rw [if_pos hs]);have h2:(Cn.opn rs c).length=2:=(by unfold Cn.opn; rw [if_pos hs]; split <;> rfl);rw [hp];rw [hs] at K0;obtain ⟨ao,cap,rfl,_,_⟩:=hv.shape;clear hv K hp hs;generalize Cn.opn rs c=zs at *;go_enter func105,ntmps105;go_wp2_with fail;refine (V K0).mono ?_;rintro e w1 ⟨rfl,aH⟩;subst w1;clear K0;go_wp2_with fail;refine (V K1).mono ?_;rintro e w1 ⟨vx,rfl,bs,hb⟩;obtain ⟨b,off,xcap,rfl,hx1,hx2,bi⟩:=bs.sk.2.place (by simp; omega);have aM:(zs.map (Value.int .i32)).length=2:=(by simp [h2]);have y0:=bi 0 (by omega);have y1:=bi 1 (by omega);rw [ints_at (by omega)] at y0 y1;rw [aM] at hx1 ⊢;rw [Nat.add_zero] at y0;clear K1 bs bi aM;generalize zs.getD 0 0=p at *;generalize zs.getD 1 0=q at *;have HF:∀ n,x4B w (some (p,q)) (.returned (.tuple #[.int .i32 p,.int .i32 q,.bool true])) (w1.drewN n):=fun n=>⟨rfl,x0b hb (x0k ⟨n,rfl⟩)⟩;clear hb;go_wp2;go_big_quiet (fail);go_wp2;go_ret3;exact HF _
 ·have aE:Cn.syl c=false:=(by simpa using hs);rw [aE] at K0;rcases hit_at hv 3 c with ⟨h1,h2⟩ | ⟨k,b,off,cap,h1,aD,h2,rfl,hl,hm,hr,hf⟩
  ·have hp:Cn.prim rs c=none:=(by unfold Cn.prim; rw [if_neg hs,h2]);rw [hp];rw [h1] at K;obtain ⟨ao,cap,rfl,_,_⟩:=hv.shape;clear hv h1 h2 hp hs aE K1;go_enter func105,ntmps105;go_wp2_with fail;refine (V K0).mono ?_;rintro e w1 ⟨rfl,aH⟩;subst w1;clear K0;go_wp2_with fail;refine (V K).mono ?_;rintro e w1 ⟨rfl,hb⟩;have HF:x4B w none (.returned (.tuple #[.int .i32 0,.int .i32 0,.bool false])) w1:=⟨rfl,hb⟩;clear K hb;go_wp2;go_ret3;exact HF
  ·have hp:Cn.prim rs c=if (rs.getD k Cn.none).kind=7/\(rs.getD k Cn.none).to.length=2 then some ((rs.getD k Cn.none).to.getD 0 0,(rs.getD k Cn.none).to.getD 1 0) else none:=(by unfold Cn.prim; rw [if_neg hs,h2]);rw [h1] at K;have HR:=O hr;have aA:=hv.1;have bB:=hf.kind;obtain ⟨k70,k71⟩:=bB;have aN:=hf.len;clear hv h1 h2 hs aE hr hf K1;generalize rs.getD k Cn.none=r at *;have aV:Hid (r.kind=7->r.to.length=2->Cn.prim rs c=some (r.to.getD 0 0,r.to.getD 1 0)):=fun a b=>(by rw [hp,if_pos ⟨a,b⟩]);have aO:Hid (¬ (r.kind=7/\r.to.length=2)->Cn.prim rs c=none):=fun a=>(by rw [hp,if_neg a]);clear hp;generalize Cn.prim rs c=pr at *;go_enter func105,ntmps105;go_wp2_with fail;refine (V K0).mono ?_;rintro e w1 ⟨rfl,aH⟩;subst w1;clear K0;go_wp2_with fail;refine (V K).mono ?_;rintro e w1 ⟨rfl,hb⟩;have al:=(V HR).below hb;obtain ⟨vt,x4,au⟩:=al.to;have x0:=al.kind;clear K HR al;generalize r.to=zs at *;generalize r.kind=kd at *;obtain ⟨bG,ar,rfl,bE,ht2⟩:=au.shape;have HN:x4B w none (.returned (.tuple #[.int .i32 0,.int .i32 0,.bool false])) w1:=⟨rfl,hb⟩;by_cases h7:kd=7
   ·subst h7;by_cases aI:zs.length=2
    ·obtain rfl:=V aV rfl aI;clear aV aO;obtain ⟨tb,bn,aU,he,_,_,bf⟩:=au.place (by omega);obtain ⟨rfl,rfl⟩:bG=some ⟨tb,bn,none⟩/\ar=aU:=(by simpa using he);have y0:=bf 0 (by omega);have y1:=bf 1 (by omega);rw [Nat.add_zero] at y0;rw [aI] at x4 bE;generalize zs.getD 0 0=p at *;generalize zs.getD 1 0=q at *;have HF:∀ n,x4B w (some (p,q)) (.returned (.tuple #[.int .i32 p,.int .i32 q,.bool true])) (w1.drewN n):=fun n=>⟨rfl,x0b hb (x0k ⟨n,rfl⟩)⟩;clear hb bf he au HN aI;go_wp2;go_big_quiet (fail);go_wp2;go_ret3;exact HF _
    ·obtain rfl:=V aO (fun h=>aI h.2);clear aV aO;have q2:((zs.length:Int) != 2)=true:=(by simp; omega);clear au hb;go_wp2;go_ret3;exact HN
   ·obtain rfl:=V aO (fun h=>h7 h.1);clear aV aO;have q7:(kd != 7)=true:=(by simp [h7]);clear au hb;go_wp2;go_ret3;exact HN
theorem y7B (v u:Value) (zs:List Int) (w:World) (hv:Sk .i32 w v zs) (hu:Sk .i32 w u zs) (hl:zs.length<=1000000000):Calls prog 51 #[v,u] w (x3a w true):=by
 rcases Nat.eq_zero_or_pos zs.length with h0 | h0
 ·obtain ⟨ao,cap,rfl,_,_⟩:=hv.shape;obtain ⟨bq,av,rfl,_,_⟩:=hu.shape;rw [h0];clear hv hu;go_enter func51,ntmps51;go_wp2;refine wp_loop_rounds 1 ?_;rw [rounds_succ];go_wp2;go_ret;exact ⟨rfl,x4J w⟩
 ·obtain ⟨b,off,cap,rfl,bx,bz,hc⟩:=hv.place h0;obtain ⟨b',aL,av,rfl,a7,a8,aP⟩:=hu.place h0
  have HC:Hid (∀ wr,Bw w wr->∀ i,i<zs.length->wr.cell? ⟨b,off+i,none⟩=some (.int .i32 (zs.getD i 0))/\wr.cell? ⟨b',aL+i,none⟩=some (.int .i32 (zs.getD i 0))):=by
   intro wr hb i hi;have a0:=hc i hi;have d0:=aP i hi;exact ⟨by rw [hb.cell (x0a a0)]; exact a0,by rw [hb.cell (x0a d0)]; exact d0⟩
  have qn:((zs.length:Int) != (zs.length:Int))=false:=(by simp);clear hv hu hc aP;go_enter func51,ntmps51;go_wp2;go_loopw [5] (fun i wr=>∃ k:Nat,i=.int .i64 k/\k<=zs.length/\∃ m,wr=w.drewN m) (fun i _=>zs.length - (intOf i).toNat)
  case atStart=>exact ⟨0,rfl,by omega,x4J w⟩
  case round =>
   obtain ⟨k,rfl,hk,a9⟩:=hrel;by_cases ak:k<zs.length
   ·obtain ⟨a0,d0⟩:=V HC _ (x0k a9) k ak;clear HC;generalize zs.getD k 0=t at *;have ht:(t != t)=false:=(by simp);go_wp2;go_big_quiet (fail);go_wp2
    go_roundw
    case rel=>exact ⟨k+1,by go_num,by omega,x4K a9 _⟩
    case measure=>simp [intOf]; omega
   ·clear HC;go_wp2;go_ret;exact ⟨rfl,a9⟩
theorem Tryz.info50:(prog.info? 50).map (fun i=>(i.zero,i.size,i.bytes))=some (some (.agg #[.int .i64 0,.int .i64 0,.int .i64 0,.int .i64 0,.slice none 0 0,.string ⟨#[]⟩,.string ⟨#[]⟩,.float .f64 0]),8,96):=by kernel_rfl
def x0u (p:Rec × Value):List Value:=[.int .i64 p.1.kind,.int .i64 p.1.lo,.int .i64 p.1.hi,.int .i64 p.1.n,p.2,.string p.1.name,.string p.1.other,.float .f64 p.1.wt]
def rcells (ps:List (Rec × Value)):List Value:=ps.flatMap x0u
theorem x0X (ps:List (Rec × Value)):(rcells ps).length=ps.length * 8:=by
 induction ps with
 | nil=>rfl
 | cons p ps ih =>
  rw [rcells,List.flatMap_cons,List.length_append] at *;rw [ih];simp [x0u]; omega
theorem x2Q (ps:List (Rec × Value)) (p:Rec × Value):rcells ps++x0u p=rcells (ps++[p]):=by
 rw [rcells,rcells,List.flatMap_append]; simp
theorem x1j:∀ (ps:List (Rec × Value)) (i j:Nat),i<ps.length->j<8->(rcells ps)[i * 8+j]?=(x0u (ps.getD i (Cn.none,undef)))[j]?
 | [],i,j,h,_=>by simp at h
 | p :: ps,0,j,_,hj=>by
  rw [rcells,List.flatMap_cons,List.getElem?_append_left (by simp [x0u]; omega)]; simp
 | p :: ps,i+1,j,h,hj=>by
  have ih:=x1j ps i j (by simpa using h) hj;rw [rcells,List.flatMap_cons,List.getElem?_append_right (by simp [x0u]; omega)];have e:(i+1) * 8+j - (x0u p).length=i * 8+j:=(by simp [x0u]; omega);rw [e];exact ih
def Rown (w:World) (B:Nat) (v:Value) (ps:List (Rec × Value)):Prop:=w.ownsRow B 50 8 v ps.length (rcells ps)/\∀ p∈ps,Ok .i32 21 w B p.2 p.1.to
theorem Rown.rcs {w:World} {B:Nat} {v:Value} {ps:List (Rec × Value)} (h:Rown w B v ps) (hl:ps.length<=1000000000) (hf:∀ p∈ps,RecFit p.1):Rcs w v (ps.map (·.1)):=by
 refine ⟨by simpa using hl,fun r hr=>?_,?_⟩
 ·obtain ⟨p,hp,rfl⟩:=List.mem_map.1 hr;exact hf p hp
 ·have h3:=h.1;rcases h.1.2 with ⟨hv,h0⟩ | ⟨g,cap,cur,hv,hg,hh,hn,hcap,hsz,htake⟩
  ·have h1:ps=[]:=List.eq_nil_of_length_eq_zero h0;exact .inl ⟨by rw [h1]; rfl,none,0,hv,by omega⟩
  ·refine .inr ⟨g,0,cap,by rw [hv,List.length_map],by simpa using hn,by unfold maxLen at hcap; omega,fun i hi=>?_⟩;rw [List.length_map] at hi;have hm:ps.getD i (Cn.none,undef)∈ps:=(by simp [List.getD,hi]);have al:(ps.map (·.1)).getD i Cn.none=(ps.getD i (Cn.none,undef)).1:=by simp [List.getD,hi]
   have hc:∀ j u,j<8->(x0u (ps.getD i (Cn.none,undef)))[j]?=some u->w.cell? ⟨g,0+i * 8+j,none⟩=some u:=by
    intro j u hj hu;have e:=h3.cells (g:=g) (by rw [hv]; rfl) (i * 8+j) u (by rw [x1j ps i j hi hj]; exact hu);rw [addr_add] at e;rw [show 0+i * 8+j=0+(i * 8+j) by omega]; exact e
   rw [al];exact ⟨hc 0 _ (by omega) rfl,hc 1 _ (by omega) rfl,hc 2 _ (by omega) rfl,hc 3 _ (by omega) rfl,⟨_,hc 4 _ (by omega) rfl,(h.2 _ hm).sk⟩,hc 5 _ (by omega) rfl,hc 6 _ (by omega) rfl,hc 7 _ (by omega) rfl⟩
theorem x0t {w w':World} {B e sz n:Nat} {v:Value} {us:List Value} (h:w.ownsRow B e sz v n us) (hk:∀ g,v.ownBlock=some g->w'.heap[g]?=w.heap[g]?):w'.ownsRow B e sz v n us:=by
 obtain ⟨h1,h2⟩:=h;refine ⟨h1,?_⟩;rcases h2 with h2 | ⟨g,cap,cur,hv,hb,hg,rest⟩
 ·exact .inl h2
 ·exact .inr ⟨g,cap,cur,hv,hb,(hk g (by rw [hv]; rfl)).trans hg,rest⟩
theorem Ok.keep {w w':World} {K:IntKind} {e:TypeId} {B:Nat} {v:Value} {zs:List Int} (h:Ok K e w B v zs) (hk:∀ g,v.ownBlock=some g->w'.heap[g]?=w.heap[g]?):Ok K e w' B v zs:=⟨h.1,h.2.1,x0t h.2.2 hk⟩
theorem x0E {w:World} {B B' e e' sz bF n n':Nat} {v v':Value} {us bH:List Value} (h:w.ownsRow B e sz v n us) (h':w.ownsRow B' e' bF v' n' bH) (bd:e≠e') {g:Nat} (hg:v.ownBlock=some g):v'.ownBlock≠some g:=by
 intro ba;rcases h.2 with ⟨rfl,_⟩ | ⟨k,cap,cur,rfl,_,hh,_⟩
 ·cases hg
 ·rcases h'.2 with ⟨rfl,_⟩ | ⟨k',av,cur',rfl,_,hh',_⟩
  ·cases ba
  ·simp [Value.ownBlock] at hg ba;subst hg; subst ba;rw [hh] at hh';simp at hh';exact bd hh'.2
theorem x0f {w:World} {g j:Nat} {cur:Array Value} {e:TypeId} (h:w.heap[g]?=some (.cells cur e (0,0))) (v:Value):(w.setCell ⟨g,j,none⟩ v).heap[g]?=some (.cells (cur.setIfInBounds j v) e (0,0)):=by
 rw [setCell_eq_setRow w g j cur e (0,0) v h];exact setRow_heap w g cur _ e _ h
theorem cell_of {w:World} {g j:Nat} {cur:Array Value} {e:TypeId} (h:w.heap[g]?=some (.cells cur e (0,0))) (hj:j<cur.size):w.cell? ⟨g,j,none⟩=some (cur.getD j undef):=by
 simp [World.cell?,h,hj]
theorem x0e {w:World} {g j:Nat} {cur:Array Value} {e:TypeId} (h:w.heap[g]?=some (.cells cur e (0,0))):w.frozen? ⟨g,j,none⟩=false:=by
 simp [World.frozen?,h]
def x4C (w:World) (rs:List Rec) (e:Ending) (w':World):Prop:=∃ v ps,e=.returned v/\ps.map (·.1)=rs/\Rown w' w.heap.size v ps/\Below w.heap.size w w'
def rarr (r:Rec) (vt:Value):Array Value:=#[.int .i64 r.kind,.int .i64 r.lo,.int .i64 r.hi,.int .i64 r.n,vt,.string r.name,.string r.other,.float .f64 r.wt]
theorem z0j (W:World) (r:Rec) (vt:Value):∀ j u,(x0u (r,vt))[j]?=some u->(W.alloc (.cells (rarr r vt) 50)).cell? ((⟨W.heap.size,0,none⟩:Addr).add j)=some u:=by
 intro j u hj
 have ak:j<8:=by
  rcases Nat.lt_or_ge j 8 with h | h
  ·exact h
  ·rw [List.getElem?_eq_none (by simp [x0u]; omega)] at hj; cases hj
 rw [addr_add,Nat.zero_add];have e:(rarr r vt).toList=x0u (r,vt):=rfl;simp only [World.cell?,World.alloc];simp;rw [<- Array.getElem?_toList,e];exact hj
theorem x4t (W:World) (n:Nat) (hn:W.heap.size=n) (r:Rec) (vt:Value):∀ j u,(x0u (r,vt))[j]?=some u->(W.alloc (.cells #[.int .i64 r.kind,.int .i64 r.lo,.int .i64 r.hi,.int .i64 r.n,vt,.string r.name,.string r.other,.float .f64 r.wt] 50)).cell? ((⟨n,0,none⟩:Addr).add j)=some u:=by
 subst hn;exact z0j W r vt
theorem x5k (r:Rec) {vt:Value} (h:vt.oneCell'=true):∀ u∈x0u (r,vt),u.oneCell'=true:=by
 intro u hu;simp only [x0u,List.mem_cons,List.mem_nil_iff,or_false] at hu
 rcases hu with rfl | rfl | rfl | rfl | rfl | rfl | rfl | rfl <;> first | rfl | exact h
theorem x0g {w:World} {g j k:Nat} (v:Value) (h:k≠g):(w.setCell ⟨g,j,none⟩ v).heap[k]?=w.heap[k]?:=Below.heap_setCell _ _ _ _ (fun e=>h e)
theorem x0c {B:Nat} {a w:World} (h:Below B a w) {g j:Nat} (hg:B<=g) (v:Value):Below B a (w.setCell ⟨g,j,none⟩ v):=by
 refine h.trans ⟨?_,?_,?_,?_,fun k hk=>x0g v (by omega)⟩
 all_goals first | rfl | (unfold World.setCell; split <;> first | rfl | simp)
theorem x0N (w:World) (g j:Nat) (v:Value):(w.setCell ⟨g,j,none⟩ v).heap.size=w.heap.size:=by
 unfold World.setCell; split <;> first | rfl | simp
theorem x9e {w wr w9 ae:World} {mv v9 v10:Value} {ps:List (Rec × Value)} {r:Rec} {vt:Value} {o:Obj} (ab:Rown wr w.heap.size mv ps) (aa:Bw w wr)
  (ap:Ok .i32 21 w9 w.heap.size v9 r.to) (aw:(wr.alloc (.cells (rarr r vt) 50)).grownBy w9 (Value.slice none 0 0).ownBlock)
  (aB:ae.ownsRow w.heap.size 50 8 v10 (ps.length+1) (rcells ps++x0u (r,v9))) (ah:((w9.setCell ⟨wr.heap.size,4,none⟩ v9).alloc o).grownBy ae mv.ownBlock) :
  Rown ae w.heap.size v10 (ps++[(r,v9)])/\Bw w ae:=by
 have hB:=aa.size;have s9:(wr.alloc (.cells (rarr r vt) 50)).heap.size<=w9.heap.size:=aw.size;have s9':wr.heap.size+1<=w9.heap.size:=(by simpa using s9);have k9:∀ g,g<wr.heap.size+1->w9.heap[g]?=(wr.alloc (.cells (rarr r vt) 50)).heap[g]?:=fun g hg=>aw.block g (by simpa using hg) (by simp [Value.ownBlock]);have kA:∀ g,g<wr.heap.size->(wr.alloc (.cells (rarr r vt) 50)).heap[g]?=wr.heap[g]?:=fun g hg=>((Below.refl wr.heap.size wr).alloc (l0r _) _).block g hg
 have af:w9.heap[wr.heap.size]?=some (.cells (rarr r vt) 50 (0,0)):=by
  rw [k9 _ (by omega)];show (wr.heap.push _)[wr.heap.size]?=_;simp
 have m9:w9.ownsRow w.heap.size 50 8 mv ps.length (rcells ps):=x0t ab.1 (fun g h=>by rw [k9 g (by have:=(ab.1.lt g h).2; omega),kA g (ab.1.lt g h).2])
 have bw:∀ g,g<w9.heap.size->g≠wr.heap.size->mv.ownBlock≠some g->ae.heap[g]?=w9.heap[g]?:=fun g hg h1 h2=>by
  have e1:=ah.block g (by simp; omega) (fun e=>h2 e.symm);rw [e1];have e2:((w9.setCell ⟨wr.heap.size,4,none⟩ v9).alloc o).heap[g]?=(w9.setCell ⟨wr.heap.size,4,none⟩ v9).heap[g]?:=((b0r).alloc (l0r _) _).block g (by rw [x0N]; exact hg);rw [e2,x0g v9 h1]
 refine ⟨⟨?_,fun p hp=>?_⟩,?_⟩
 ·rw [x2Q] at aB;simpa using aB
 ·rcases List.mem_append.1 hp with hp | hp
  ·have aJ:=ab.2 p hp;refine aJ.keep fun g h=>?_;have ak:=(aJ.2.2.lt g h).2;rw [bw g (by omega) (by omega) (x0E aJ.2.2 ab.1 (by decide) h),k9 g (by omega),kA g ak]
  ·simp only [List.mem_singleton] at hp;subst hp;refine ap.keep fun g h=>?_;have ak:=(ap.2.2.lt g h).2;refine bw g ak (fun e=>?_) (x0E ap.2.2 m9 (by decide) h);rcases ap.2.2.2 with ⟨hv,_⟩ | ⟨g',cap,cur,hv,_,hh,_⟩
   ·rw [hv] at h; cases h
   ·rw [hv] at h;simp [Value.ownBlock] at h;rw [h,e,af] at hh;simp at hh
 ·have b1:Bw w w9:=(aa.alloc hB _).grown aw (by simp; omega) (fun k hk=>by simp [Value.ownBlock] at hk);have b2:=x0c b1 (g:=wr.heap.size) (j:=4) hB v9;exact (b2.alloc (by rw [x0N]; omega) o).grown ah (by simp; omega) (fun k hk=>(ab.1.lt k hk).1)
theorem y1y {w wr ae:World} {mv v10:Value} {ps:List (Rec × Value)} {r:Rec} {o1 o:Obj} (ab:Rown wr w.heap.size mv ps) (aa:Bw w wr) (aN:r.to=[])
  (aB:ae.ownsRow w.heap.size 50 8 v10 (ps.length+1) (rcells ps++x0u (r,.slice none 0 0))) (ah:((wr.alloc o1).alloc o).grownBy ae mv.ownBlock) :
  Rown ae w.heap.size v10 (ps++[(r,.slice none 0 0)])/\Bw w ae:=by
 have hB:=aa.size;refine ⟨⟨?_,fun p hp=>?_⟩,?_⟩
 ·rw [x2Q] at aB;simpa using aB
 ·rcases List.mem_append.1 hp with hp | hp
  ·have aJ:=ab.2 p hp;refine aJ.keep fun g h=>?_;have ak:=(aJ.2.2.lt g h).2;rw [ah.block g (by simp; omega) (fun e=>x0E aJ.2.2 ab.1 (by decide) h e.symm)];exact (((Below.refl wr.heap.size wr).alloc (l0r _) o1).alloc (by simp) o).block g ak
  ·simp only [List.mem_singleton] at hp;subst hp;show Ok .i32 21 ae w.heap.size (.slice none 0 0) r.to;rw [aN];exact Ok.nil _ _ _ _
 ·exact ((aa.alloc hB _).alloc (by simp; omega) o).grown ah (by simp; omega) (fun k hk=>(ab.1.lt k hk).1)
theorem x3j (v:Value) (rs:List Rec) (w:World) (hv:Rcs w v rs):Calls prog 18 #[v] w (x4C w rs):=by
 obtain ⟨i0,hi,bj,bk,aI⟩:=info_parts Tryz.info21;obtain ⟨i1,hj,bt,bu,bv⟩:=info_parts Tryz.info50;have aA:=hv.1;have ac:=O (fun i hi=>hv.fit (i:=i) hi);rcases Nat.eq_zero_or_pos rs.length with n0 | n0
 ·obtain ⟨ao,cap,rfl,_,_⟩:=hv.shape;obtain rfl:rs=[]:=List.eq_nil_of_length_eq_zero n0;have HF:x4C w [] (.returned (.slice none 0 0)) w:=⟨_,[],rfl,rfl,⟨World.ownsRow_nil _ _ _ _,fun _ h=>(by cases h)⟩,b0r⟩;clear hv ac;go_enter func18,ntmps18;go_wp2;refine wp_loop_rounds 1 ?_;rw [rounds_succ];go_wp2;go_ret;exact HF
 ·obtain ⟨b,off,cap,rfl,bC,bD,ag⟩:=hv.place n0;have HC:Hid (∀ i,i<rs.length->∀ W,Bw w W->RecAt W b (off+i * 8) (rs.getD i Cn.none)):=fun i hi W hb=>(ag i hi).below hb
  have az:Hid (∀ k,k<rs.length->rs.take (k+1)=rs.take k++[rs.getD k Cn.none]):=fun k hk=>by
   rw [List.take_add_one]; simp [List.getD,hk]
  clear hv ag;go_enter func18,ntmps18;go_wp2;go_loopw [3,4,5,6] (fun mv iv _ _ wr=>∃ (k:Nat) (ps:List (Rec × Value)),iv=.int .i64 k/\k<=rs.length/\ps.map (·.1)=rs.take k/\ps.length=k/\Rown wr w.heap.size mv ps/\Bw w wr) (fun _ iv _ _ _=>rs.length - (intOf iv).toNat)
  case atStart=>exact ⟨0,[],rfl,by omega,by simp,rfl,⟨World.ownsRow_nil _ _ _ _,fun _ h=>(by cases h)⟩,b0r⟩
  case round =>
   obtain ⟨k,ps,rfl,hk,aT,aY,ab,aa⟩:=hrel;by_cases ak:k<rs.length
   ·have al:=V HC k ak wr aa;have an:=V ac k ak;have bg:=V az k ak;rw [<- aT] at bg;have aN:=an.len;have bp:=O bg;clear ac az bg aT an;generalize rs.getD k Cn.none=r at *;obtain ⟨x0,x1,x2,x3,⟨vt,x4,au⟩,x5,x6,x7⟩:=al;have hB:=aa.size;have be:=au.1;rcases au.2.src with ⟨hnil,rfl⟩ | ⟨ad,ar,rfl,hsrc⟩
    ·obtain bh:r.to=[]:=by simpa using hnil
     have hX:∀ o,(wr.alloc o).cell? ⟨b,off+k * 8+4,none⟩=some (.slice none 0 0):=fun o=>by
      rw [Below.cell ((Below.refl wr.heap.size wr).alloc (l0r _) o) (x0a x4)]; exact x4
     have bA:∀ W a m,(store a (.float .f64 r.wt) m).run prog W=stored prog W a (.float .f64 r.wt) m:=fun W a m=>run_store prog W a _ m rfl;have hM:∀ o o2,((wr.alloc o).alloc o2).ownsRow w.heap.size 50 8 u3 ps.length (rcells ps):=fun o o2=>(ab.1.alloc o).alloc o2;have HM:=O hM;have am:Hid (∀ o v10 ae,World.ownsRow ae w.heap.size 50 8 v10 (ps.length+1) (rcells ps++x0u (r,.slice none 0 0))->((wr.alloc (.cells #[.int .i64 r.kind,.int .i64 r.lo,.int .i64 r.hi,.int .i64 r.n,.slice none 0 0,.string r.name,.string r.other,.float .f64 r.wt] 50)).alloc o).grownBy ae u3.ownBlock->Rown ae w.heap.size v10 (ps++[(r,.slice none 0 0)])/\Bw w ae):=fun o v10 ae a b=>y1y ab aa bh a b;have ax:=O (x4t (wr.alloc (.cells #[.int .i64 r.kind,.int .i64 r.lo,.int .i64 r.hi,.int .i64 r.n,.slice none 0 0,.string r.name,.string r.other,.float .f64 r.wt] 50)) (wr.heap.size+1) (by simp) r (.slice none 0 0));have ay:=O (x5k r (vt:=.slice none 0 0) rfl);clear hM ab aa au;go_wp2_with (first | (at_builtin; refine wpList_append_own_none rfl (.tmp 17) (.tmp 22) 23 rfl w.heap.size 21 i0 1 underlying23 hi _ _ _ rfl (World.ownsRow_nil _ _ _ _) rfl ?_) | (at_builtin; refine wpList_append_own _ rfl (.tmp 25) (.tmp 27) 22 rfl w.heap.size 50 i1 (.agg #[.int .i64 0,.int .i64 0,.int .i64 0,.int .i64 0,.slice none 0 0,.string ⟨#[]⟩,.string ⟨#[]⟩,.float .f64 0]) 8 96 underlying22 hj bt bu bv rfl (by decide) _ _ _ rfl (V HM _ _) ⟨wr.heap.size+1,0,none⟩ 1 1 (x0u (r,.slice none 0 0)) rfl rfl (V ax) (V ay) (by unfold maxLen; omega) (by omega) (by simp; omega) ?_));intro v10 ae ai ah _;obtain ⟨hR,a6⟩:=V am _ v10 ae (by rw [aY]; exact ai) ah;have HR:=O hR;clear am HM ax ay ai ah hR;go_wp2
     go_roundw
     case rel=>exact ⟨k+1,ps++[(r,.slice none 0 0)],by go_num,by omega,by rw [V bp]; simp,by simp [aY],V HR,a6⟩
     case measure=>simp [intOf]; omega
    ·have aM:(r.to.map (Value.int .i32)).length=r.to.length:=List.length_map _;rw [aM] at x4
     have hX:∀ o,(wr.alloc o).cell? ⟨b,off+k * 8+4,none⟩=some (.slice (some ad) r.to.length ar):=fun o=>by
      rw [Below.cell ((Below.refl wr.heap.size wr).alloc (l0r _) o) (x0a x4)]; exact x4
     have hS:∀ o,∀ j u,(r.to.map (Value.int .i32))[j]?=some u->(wr.alloc o).cell? (ad.add j)=some u:=fun o j u hu=>by
      have h:=hsrc j u hu;rw [Below.cell ((Below.refl wr.heap.size wr).alloc (l0r _) o) (World.block_lt_of_cell? _ _ h)]; exact h
     have HS:=O hS;have bA:∀ W a m,(store a (.float .f64 r.wt) m).run prog W=stored prog W a (.float .f64 r.wt) m:=fun W a m=>run_store prog W a _ m rfl;clear hS hsrc au;go_wp2_with (at_builtin; refine wpList_append_own _ rfl (.tmp 17) (.tmp 22) 23 rfl w.heap.size 21 i0 (.int .i32 0) 1 4 underlying23 hi bj bk aI rfl (by decide) _ _ _ rfl (World.ownsRow_nil _ _ _ _) ad r.to.length ar (r.to.map (Value.int .i32)) rfl (by simp) (V HS _) (fun u hu=>by obtain ⟨z,_,rfl⟩:=List.mem_map.1 hu; rfl) (by unfold maxLen; omega) (by omega) (by simp; omega) ?_);intro v9 w9 aq aw _;have ap:Ok .i32 21 w9 w.heap.size v9 r.to:=Ok.of be (by omega) aq (by simp) (by simp)
     have af:w9.heap[wr.heap.size]?=some (.cells (rarr r (.slice (some ad) r.to.length ar)) 50 (0,0)):=by
      rw [aw.block _ (by simp) (by simp [Value.ownBlock])];show (wr.heap.push _)[wr.heap.size]?=_;simp [rarr]
     have s9:wr.heap.size+1<=w9.heap.size:=(by simpa using aw.size);obtain ⟨aC,aj,hv9,_,_⟩:=ap.sk.shape;subst hv9
     have hM:∀ o,((w9.setCell ⟨wr.heap.size,4,none⟩ (.slice aC r.to.length aj)).alloc o).ownsRow w.heap.size 50 8 u3 ps.length (rcells ps):=fun o=>by
      refine World.ownsRow.alloc (x0t ab.1 fun g h=>?_) o;have bc:=(ab.1.lt g h).2;rw [x0g _ (by omega),aw.block g (by simp; omega) (by simp [Value.ownBlock])];exact ((Below.refl wr.heap.size wr).alloc (l0r _) _).block g bc
     have HM:=O hM;have am:Hid (∀ o v10 ae,World.ownsRow ae w.heap.size 50 8 v10 (ps.length+1) (rcells ps++x0u (r,.slice aC r.to.length aj))->((w9.setCell ⟨wr.heap.size,4,none⟩ (.slice aC r.to.length aj)).alloc o).grownBy ae u3.ownBlock->Rown ae w.heap.size v10 (ps++[(r,.slice aC r.to.length aj)])/\Bw w ae):=fun o v10 ae a b=>x9e ab aa ap aw a b;have y0:=cell_of (j:=0) af (by show _<8; omega);have y1:=cell_of (j:=1) af (by show _<8; omega);have y2:=cell_of (j:=2) af (by show _<8; omega);have y3:=cell_of (j:=3) af (by show _<8; omega);have y4:=cell_of (j:=4) af (by show _<8; omega);have y5:=cell_of (j:=5) af (by show _<8; omega);have y6:=cell_of (j:=6) af (by show _<8; omega);have y7:=cell_of (j:=7) af (by show _<8; omega);have yf:=x0e (j:=4) af;have z0:w9.cell? ⟨wr.heap.size,0,none⟩=some (.int .i64 r.kind):=y0;have z1:w9.cell? ⟨wr.heap.size,1,none⟩=some (.int .i64 r.lo):=y1;have z2:w9.cell? ⟨wr.heap.size,2,none⟩=some (.int .i64 r.hi):=y2;have z3:w9.cell? ⟨wr.heap.size,3,none⟩=some (.int .i64 r.n):=y3;have z4:w9.cell? ⟨wr.heap.size,4,none⟩=some (.slice (some ad) r.to.length ar):=y4;have z5:w9.cell? ⟨wr.heap.size,5,none⟩=some (.string r.name):=y5;have z6:w9.cell? ⟨wr.heap.size,6,none⟩=some (.string r.other):=y6;have z7:w9.cell? ⟨wr.heap.size,7,none⟩=some (.float .f64 r.wt):=y7;have aR:=x4t (w9.setCell ⟨wr.heap.size,4,none⟩ (.slice aC r.to.length aj)) w9.heap.size (x0N _ _ _ _) r (.slice aC r.to.length aj);have aS:=x5k r (vt:=.slice aC r.to.length aj) rfl;have ax:=O aR;have ay:=O aS;clear hM aR aS aq aw ap af y0 y1 y2 y3 y4 y5 y6 y7 ab aa;go_wp2_with (at_builtin; refine wpList_append_own _ rfl (.tmp 25) (.tmp 27) 22 rfl w.heap.size 50 i1 (.agg #[.int .i64 0,.int .i64 0,.int .i64 0,.int .i64 0,.slice none 0 0,.string ⟨#[]⟩,.string ⟨#[]⟩,.float .f64 0]) 8 96 underlying22 hj bt bu bv rfl (by decide) _ _ _ rfl (V HM _) ⟨w9.heap.size,0,none⟩ 1 1 (x0u (r,.slice aC r.to.length aj)) rfl rfl (V ax) (V ay) (by unfold maxLen; omega) (by omega) (by simp; omega) ?_);intro v10 ae ai ah _;obtain ⟨hR,a6⟩:=V am _ v10 ae (by rw [aY]; exact ai) ah;have HR:=O hR;clear am HM ax ay ai ah hR;go_wp2
     go_roundw
     case rel=>exact ⟨k+1,ps++[(r,.slice aC r.to.length aj)],by go_num,by omega,by rw [V bp]; simp,by simp [aY],V HR,a6⟩
     case measure=>simp [intOf]; omega
   ·obtain rfl:k=rs.length:=(by omega);rw [List.take_length] at aT;have HF:x4C w rs (.returned u3) wr:=⟨u3,ps,rfl,aT,ab,aa⟩;clear aT ab HC ac az;go_wp2;go_ret;exact HF
theorem y7A (b:Nat) (w:World):(callFunc 125 #[.float .f64 b]).run prog w=.ok (.value (.int .u64 b)) w:=by
 rw [run_callFunc_extern (e:=Extern.MathFloatBits.float64bits) func125 (by kernel_rfl) (by kernel_rfl) (by kernel_rfl) (by kernel_rfl)];rfl
theorem x2x (b:Nat) (w:World):Calls prog 79 #[.float .f64 b] w fun e w'=>e=.returned (.int .u64 b)/\w'=w:=by
 have h:=fun w=>y7A b w;go_enter func79,ntmps79;go_wp2;go_ret;exact ⟨rfl,rfl⟩
theorem y0V (t:ByteArray):(t.toList==t.toList)=true:=beq_self_eq_true _
theorem x3G {w:World} {v:Value} {zs:List Int} (h:Sk .i32 w v zs) (n:Nat):Sk .i32 (w.drewN n) v zs:=h.below (x0k ⟨n,rfl⟩)
theorem x7m (r:Rec) (va vb:Value) (w:World) (ha:Sk .i32 w va r.to) (hb:Sk .i32 w vb r.to) (hl:r.to.length<=1000000000):Calls prog 41 #[recV r va,recV r vb] w (x0d w true):=by
 have HB:=O (fun w=>x2x r.wt w)
 have KA:Hid (∀ o1 o2 n,Calls prog 51 #[va,vb] (((w.alloc o1).alloc o2).drewN n) (x3a (((w.alloc o1).alloc o2).drewN n) true)):=fun o1 o2 n=>by
  have aX:Bw w ((w.alloc o1).alloc o2):=((b0r).alloc (l0r _) _).alloc (by simp) _;exact y7B va vb r.to _ (x3G (ha.below aX) n) (x3G (hb.below aX) n) hl
 obtain ⟨ao,ca,rfl,_,_⟩:=ha.shape;obtain ⟨bo,cb,rfl,_,_⟩:=hb.shape;unfold recV;have q1:=y0V r.name;have q2:=y0V r.other;clear ha hb;generalize r.kind=kd at *;generalize r.n=n at *;generalize r.lo=lo at *;generalize r.hi=hi at *;generalize r.name=nm at *;generalize r.other=ot at *;generalize r.wt=wt at *;generalize r.to.length=tl at *;have q3:(kd==kd)=true:=beq_self_eq_true _;have q4:(lo==lo)=true:=beq_self_eq_true _;have q5:(hi==hi)=true:=beq_self_eq_true _;have q6:(n==n)=true:=beq_self_eq_true _;have q7:((wt:Int)==(wt:Int))=true:=beq_self_eq_true _;go_enter func41,ntmps41;go_wp2;go_big_quiet (first | exact Calls.quiet_of (V KA _ _ _) | exact Calls.quiet_of_same (V HB _));go_wp2;go_ret;exact ⟨rfl,(((b0r).alloc (l0r _) _).alloc (by simp) _).trans ((x0k ⟨_,rfl⟩).mono (by simp; omega))⟩
theorem x9L (v u:Value) (rs:List Rec) (w:World) (hv:Rcs w v rs) (hu:Rcs w u rs):Calls prog 21 #[v,u] w (x0d w true):=by
 have aA:=hv.1;rcases Nat.eq_zero_or_pos rs.length with h0 | h0
 ·obtain ⟨ao,cap,rfl,_,_⟩:=hv.shape;obtain ⟨bq,av,rfl,_,_⟩:=hu.shape;rw [h0];clear hv hu;go_enter func21,ntmps21;go_wp2;refine wp_loop_rounds 1 ?_;rw [rounds_succ];go_wp2;go_ret;exact ⟨rfl,b0r⟩
 ·have ac:=O (fun i hi=>hv.fit (i:=i) hi);obtain ⟨b,off,cap,rfl,bx,bz,hc⟩:=hv.place h0;obtain ⟨b',aL,av,rfl,a7,a8,aP⟩:=hu.place h0;have HC:Hid (∀ i,i<rs.length->∀ W,Bw w W->RecAt W b (off+i * 8) (rs.getD i Cn.none)/\RecAt W b' (aL+i * 8) (rs.getD i Cn.none)):=fun i hi W hb=>⟨(hc i hi).below hb,(aP i hi).below hb⟩;have qn:((rs.length:Int) != (rs.length:Int))=false:=(by simp);clear hv hu hc aP;go_enter func21,ntmps21;go_wp2;go_loopw [5] (fun i wr=>∃ k:Nat,i=.int .i64 k/\k<=rs.length/\Bw w wr) (fun i _=>rs.length - (intOf i).toNat)
  case atStart=>exact ⟨0,rfl,by omega,b0r⟩
  case round =>
   obtain ⟨k,rfl,hk,aa⟩:=hrel;by_cases ak:k<rs.length
   ·obtain ⟨hA,hB⟩:=V HC k ak wr aa;have hf:=V ac k ak;have aN:=hf.len;clear HC ac hf;generalize rs.getD k Cn.none=r at *;obtain ⟨x0,x1,x2,x3,⟨va,x4,bl⟩,x5,x6,x7⟩:=hA;obtain ⟨y0,y1,y2,y3,⟨vb,y4,bm⟩,y5,y6,y7⟩:=hB;have KR:Hid (∀ n,Calls prog 41 #[recV r va,recV r vb] (wr.drewN n) (x0d (wr.drewN n) true)):=fun n=>x7m r va vb _ (x3G bl n) (x3G bm n) aN;unfold recV at KR;obtain ⟨ao,ca,rfl,_,_⟩:=bl.shape;obtain ⟨bo,cb,rfl,_,_⟩:=bm.shape;clear bl bm;generalize r.kind=kd at *;generalize r.n=n at *;generalize r.lo=lo at *;generalize r.hi=hi at *;generalize r.name=nm at *;generalize r.other=ot at *;generalize r.wt=wt at *;generalize r.to.length=tl at *;go_wp2;go_region_with (refine (V KR _).mono ?_; rintro e w1 ⟨rfl,aW⟩)
    all_goals
     have aX:Bw w w1:=aa.trans (Below.mono (x0b (x0k ⟨_,rfl⟩) aW) aa.size);clear aW;go_wp2
     go_roundw
     case rel=>exact ⟨k+1,by go_num,by omega,aX⟩
     case measure=>simp [intOf]; omega
   ·clear HC ac;go_wp2;go_ret;exact ⟨rfl,aa⟩
