/- Rf15 Rg15 -/
import Derived.Test.YtfemhegfjfhnbaaGreatDoorW1
namespace Go.Proofs.YtfemhegfjfhnbaaGreatDoor
open Go.RowKit Go.Shelf
attribute [local go_sem] Oper.semAt_some
def flat15 (ys:Int→List Int) (xs:List Int):List Int:=(xs.map ys).flatten
theorem flat_app15 (ys:Int→List Int) (a b:List Int):flat15 ys (a++b)=flat15 ys a++flat15 ys b:=by simp [flat15]
theorem flat_step15 (ys:Int→List Int) (xs:List Int) {k:Nat} (hk:k<xs.length):flat15 ys (xs.take (k+1))=flat15 ys (xs.take k)++ys (xs.getD k 0):=by
 rw [List.take_add_one,flat_app15,List.getElem?_eq_getElem hk]
 simp [flat15,List.getD,List.getElem?_eq_getElem hk]
theorem flat_le15 (ys:Int→List Int) (xs:List Int) (k:Nat):(flat15 ys (xs.take k)).length≤(flat15 ys xs).length:=by
 conv=>rhs; rw [← List.take_append_drop k xs,flat_app15,List.length_append]
 omega
structure Mi15 (W0:World) (Ba:Nat) (zs:List Int) (A:World):Prop where
 box:∃ v,Boxed A Ba 23 v∧Ok .i32 21 A W0.heap.size v zs
 gb:W0.grownBy A (some Ba)
theorem gbB15 {W0 A B:World} {row:Option Nat} (h:W0.grownBy A row) (hb:Below A.heap.size A B):W0.grownBy B row:=⟨hb.os.trans h.os,hb.tape.trans h.tape,hb.output.trans h.output,Nat.le_trans h.size hb.size,fun k hk hn=>by rw [hb.block k (by have:=h.size; omega)]; exact h.block k hk hn⟩
theorem gbP15 {W0 A:World} {row:Option Nat} (h:W0.grownBy A row) {r:Nat} (o:Obj) (hr:W0.heap.size≤r):W0.grownBy (A.putObj r o) row:=⟨h.os,h.tape,h.output,by simpa using h.size,fun k hk hn=>by rw [World.putObj_heap_other (by omega)]; exact h.block k hk hn⟩
theorem okP15 {A:World} {B:Nat} {v:Value} {zs:List Int} (h:Ok .i32 21 A B v zs) {r:Nat} {o:Obj} (o':Obj) (ho:A.heap[r]?=some o) (hc:o.isCells=false):Ok .i32 21 (A.putObj r o') B v zs:=⟨h.1,h.2.1,ownsRow_putObj h.2.2 o' ho hc⟩
theorem okF15 {B:World} {m:Nat} {v:Value} {zs:List Int} (h:Ok .i32 21 B m v zs) {r:Nat} (o:Obj) (hr:r<m):Ok .i32 21 (B.putObj r o) m v zs:=⟨h.1,h.2.1,h.2.2.kept (grownBy_putObj' B r o) (by
 rcases h.2.2.2 with ⟨rfl,_⟩ | ⟨g,cap,cur,rfl,hb,_⟩
 ·exact .inl rfl
 ·exact .inr (fun e=>by simp [Value.ownBlock] at e; omega))⟩
theorem boxP15 {A:World} {b:Nat} {t:TypeId} {v:Value} (h:Boxed A b t v) {r:Nat} {o:Obj} (o':Obj) (ho:A.heap[r]?=some o) (hc:o.isCells=false):Boxed (A.putObj r o') b t v:=by
 refine h.kept (grownBy_putObj' A r o') (fun e=>?_)
 obtain rfl:b=r:=by simpa using e
 rw [show A.heap[b]?=_ from h] at ho; cases ho; cases hc
theorem Mi15.below {W0:World} {Ba:Nat} {zs:List Int} {A B:World} (h:Mi15 W0 Ba zs A) (hb:Below A.heap.size A B):Mi15 W0 Ba zs B:=by
 obtain ⟨⟨v,h1,h2⟩,h3⟩:=h
 exact ⟨⟨v,(hb.block _ h1.lt).trans h1,h2.below hb⟩,gbB15 h3 hb⟩
theorem Mi15.put {W0:World} {Ba:Nat} {zs:List Int} {A:World} (h:Mi15 W0 Ba zs A) {r:Nat} {o:Obj} (o':Obj) (hr:W0.heap.size≤r) (ho:A.heap[r]?=some o) (hc:o.isCells=false):Mi15 W0 Ba zs (A.putObj r o'):=by
 obtain ⟨⟨v,h1,h2⟩,h3⟩:=h
 exact ⟨⟨v,boxP15 h1 o' ho hc,okP15 h2 o' ho hc⟩,gbP15 h3 o' hr⟩
theorem Pt15.grown {B p:Nat} {fl:Int} {bd bk bf:Nat} {kv:Value} {xs:List Int} {W0 A:World} (h:Pt15 B p fl bd bk bf kv xs W0) {Ba:Nat} (hg:W0.grownBy A (some Ba)) (hB:Ba<B):Pt15 B p fl bd bk bf kv xs A:=by
 have h1:=h.bd0; have h2:=h.bk0; have h3:=h.bf0
 refine ⟨hg.cell h.d (by simp; omega),hg.cell h.k (by simp; omega),hg.cell h.f (by simp; omega),⟨h.ok.1,h.ok.2.1,h.ok.2.2.kept hg ?_⟩,h1,h2,h3⟩
 rcases h.ok.2.2.2 with ⟨rfl,_⟩ | ⟨g,cap,cur,rfl,hb,_⟩
 ·exact .inl rfl
 ·exact .inr (fun e=>by simp [Value.ownBlock] at e; omega)
theorem app_none15 {F:Fence} {n:Nat} {P:Program} {w:World} {ops:Array Oper} {rest:List Oper} {o:Oper} {a:Act} {Q:Exit→Act→World→Prop} (hgd:o.guard=none) (s x:Operand) (t:TypeId)
  (ho:o.op=.call { callee:=.builtin .append,args:=#[s,x],argTypes:=#[t,t] }) (base:Nat) (e:TypeId) (i:TypeInfo) (size:Nat) (ht:P.underlying t=some (.slice e)) (hi:P.info? e=some i)
  (v:Value) (m:Nat) (xs:List Value) (hs:a.eval s=v) (hown:w.ownsRow base e size v m xs) (hx:a.eval x=.slice none 0 0)
  (h:wpListIn F n P ops Q rest (a.put o.dst v) w):wpListIn F n P ops Q (o :: rest) a w:=by
 refine wpListIn_plain hgd fun K hK=>?_
 have hrun:=run_append_owned_none (P:=P) (w:=w) base t o.type e i size ht hi v m xs hown
 unfold Oper.wpIn
 refine ⟨?_,?_⟩
 ·simp [Oper.about,ho,resolve,Target.leads,Sem.run_pure]
 ·rw [Oper.semAt_plain F _ _ (by rw [ho]; intro c hc; cases hc)]
  simp [execOp,ho,resolve,invoke,builtin,hs,hx,hrun,Result.andThen]
  exact hK _ _ h
theorem app_in15 {F:Fence} {n:Nat} {w:World} {ops:Array Oper} {rest:List Oper} {o:Oper} {a:Act} {Q:Exit→Act→World→Prop} (hgd:o.guard=none) (s x:Operand)
  (ho:o.op=.call { callee:=.builtin .append,args:=#[s,x],argTypes:=#[23,23] }) (B:Nat) (v u:Value) (xs ys:List Int) (hs:a.eval s=v) (hx:a.eval x=u)
  (hv:Ok .i32 21 w B v xs) (hu:Sk .i32 w u ys) (hl:xs.length+ys.length≤1000000000) (hB:B≤w.heap.size)
  (h:∀ v' w',Ok .i32 21 w' B v' (xs++ys)→w.grownBy w' v.ownBlock→wpListIn F n Tryz.prog ops Q rest (a.put o.dst v') w'):wpListIn F n Tryz.prog ops Q (o :: rest) a w:=by
 obtain ⟨i0,hi,hz0,hz1,hz2⟩:=info_parts infoR15
 rcases hu.2.src with ⟨h0,rfl⟩ | ⟨ad,cap,hve,hcells⟩
 ·obtain rfl:ys=[]:=by simpa using h0
  refine app_none15 hgd s x 23 ho B 21 i0 1 Tryz.underlying23 hi v _ _ hs hv.row hx ?_
  exact h v w (by rw [List.append_nil]; exact hv) (World.grownBy.refl w _)
 ·rw [List.length_map] at hve
  subst hve
  refine wpListIn_append_own w hgd s x 23 ho B 21 i0 (.int .i32 0) 1 4 Tryz.underlying23 hi hz0 hz1 hz2 rfl (by decide) v _ _ hs hv.row ad ys.length cap (ys.map (Value.int .i32)) hx (by simp) hcells (ints_one .i32 ys) (by unfold maxLen; omega) (by omega) hB ?_
  intro v' w' h1 h2 _
  exact h v' w' (Ok.of (hv.1.app hu.1) (by simp; omega) h1 (by simp) (by simp)) h2
theorem row_not15 {A:World} {B:Nat} {v:Value} {zs:List Int} (h:Ok .i32 21 A B v zs) {r:Nat} {o:Obj} (ho:A.heap[r]?=some o) (hc:o.isCells=false):some r≠v.ownBlock:=by
 rcases h.2.2.2 with ⟨rfl,_⟩ | ⟨g,cap,cur,rfl,hb,hgb,_⟩
 ·simp [Value.ownBlock]
 ·intro e
  obtain rfl:r=g:=by simpa [Value.ownBlock] using e
  rw [hgb] at ho; cases ho; cases hc
theorem gb_app15 {W0 B w1:World} {row row2:Option Nat} (h:W0.grownBy B row) (g:B.grownBy w1 row2) (hr:∀ k,row2=some k→W0.heap.size≤k):W0.grownBy w1 row :=
 ⟨g.os.trans h.os,g.tape.trans h.tape,g.output.trans h.output,Nat.le_trans h.size g.size,fun k hk hn=>by rw [g.block k (by have:=h.size; omega) (fun e=>by have:=hr k e.symm; omega)]; exact h.block k hk hn⟩
theorem gb_set15 {W0 w1:World} {b:Nat} (h:W0.grownBy w1 (some b)) (v:Value):W0.grownBy (w1.setCell ⟨b,0,none⟩ v) (some b):=by
 have g:=grownBy_setCell' w1 b v
 exact ⟨g.os.trans h.os,g.tape.trans h.tape,g.output.trans h.output,Nat.le_trans h.size g.size,fun k hk hn=>by rw [g.block k (by have:=h.size; omega) hn]; exact h.block k hk hn⟩
theorem two_set15 {z:Nat} {B W:World} (h:Two15 z B W) {b:Nat} (v:Value) (h1:b≠z) (h2:b≠z+1):Two15 z B (W.setCell ⟨b,0,none⟩ v) :=
 ⟨(Below.heap_setCell _ _ _ _ (by simp; omega)).trans h.1,(Below.heap_setCell _ _ _ _ (by simp; omega)).trans h.2⟩
def MapB15 (w:World) (zs:List Int) (e:Ending) (w':World):Prop :=
 Below w.heap.size w w'∧((zs.length≤65536∧∃ v,e=.returned (.tuple #[v,.int .i64 0])∧Ok .i32 21 w' w.heap.size v zs)∨(65536<zs.length∧e=.returned (.tuple #[.slice none 0 0,.int .i64 2])))
theorem fin15 {w W:World} {z m:Nat} {u:Value} {zs:List Int} (hou:Ok .i32 21 W m u zs) (hW:Below w.heap.size w W) (h1:Boxed W w.heap.size 23 (.slice none 0 0)) (h2:Boxed W (w.heap.size+1) 30 (.int .i64 0))
  (hK:((W.setCell ⟨w.heap.size,0,none⟩ u).setCell ⟨w.heap.size+1,0,none⟩ (.int .i64 0)).heap[z]?=some (.deferred (some []))) (hz:w.heap.size+2≤m∧w.heap.size+2≤z) (hl:zs.length≤65536) :
  (((W.setCell ⟨w.heap.size,0,none⟩ u).setCell ⟨w.heap.size+1,0,none⟩ (.int .i64 0)).putObj z (.deferred none)).cell? ⟨w.heap.size,0,none⟩=some u ∧
  (((W.setCell ⟨w.heap.size,0,none⟩ u).setCell ⟨w.heap.size+1,0,none⟩ (.int .i64 0)).putObj z (.deferred none)).cell? ⟨w.heap.size+1,0,none⟩=some (.int .i64 0) ∧
  MapB15 w zs (.returned (.tuple #[u,.int .i64 0])) (((W.setCell ⟨w.heap.size,0,none⟩ u).setCell ⟨w.heap.size+1,0,none⟩ (.int .i64 0)).putObj z (.deferred none)):=by
 have hnb:∀ b,b<m→some b≠u.ownBlock:=fun b hb e=>by have:=(hou.row.lt b e.symm).1; omega
 have k1:Ok .i32 21 (W.setCell ⟨w.heap.size,0,none⟩ u) m u zs:=⟨hou.1,hou.2.1,hou.2.2.kept (grownBy_setCell' W _ _) (.inr (hnb _ (by omega)).symm)⟩
 have k2:Ok .i32 21 ((W.setCell ⟨w.heap.size,0,none⟩ u).setCell ⟨w.heap.size+1,0,none⟩ (.int .i64 0)) m u zs:=⟨hou.1,hou.2.1,k1.2.2.kept (grownBy_setCell' _ _ _) (.inr (hnb _ (by omega)).symm)⟩
 have hB:=(hW.setCell (p:=⟨w.heap.size,0,none⟩) (Nat.le_refl _) u).setCell (p:=⟨w.heap.size+1,0,none⟩) (by simp) (.int .i64 0)
 refine ⟨(boxP15 ((h1.set u).other (by omega) _) _ hK rfl).cell,(boxP15 ((h2.other (by omega) _).set _) _ hK rfl).cell,?_,.inl ⟨hl,u,rfl,ok_lower15 (okP15 k2 _ hK rfl) (by omega)⟩⟩
 exact hB.trans ((Below.refl _ _).grown (grownBy_putObj' _ z _) (by have:=(Array.getElem?_eq_some_iff.1 hK).1; omega) (fun k e=>by cases e; omega))
set_option maxRecDepth 100000 in
set_option maxHeartbeats 2000000 in
theorem map_any15 (p:Nat) (fl:Int) (ys:Int→List Int) (xv:Value) (xs:List Int) (w:World) (hx:Sk .i32 w xv xs) (hl:xs.length≤1000000000) (ho:OneC15 w p fl ys) :
  Calls Tryz.prog 10 #[.pointer (some ⟨p,0,none⟩),xv,.int .i64 fl] w (MapB15 w (flat15 ys xs)):=by
 obtain ⟨w1,hw1⟩:∃ w1,w.alloc (.cells #[.slice none 0 0] 23)=w1:=⟨_,rfl⟩
 obtain ⟨w2,hw2⟩:∃ w2,w1.alloc (.cells #[.int .i64 0] 30)=w2:=⟨_,rfl⟩
 obtain ⟨w3,hw3⟩:∃ w3,w2.alloc (.cells #[.slice none 0 0] 23)=w3:=⟨_,rfl⟩
 have s1:w1.heap.size=w.heap.size+1:=by rw [← hw1]; exact alloc_size15 _ _
 have s2:w2.heap.size=w.heap.size+2:=by rw [← hw2,alloc_size15,s1]
 have s3:w3.heap.size=w.heap.size+3:=by rw [← hw3,alloc_size15,s2]
 have b3:Below w.heap.size w w3:=by
  rw [← hw3,← hw2,← hw1]
  exact (((Below.refl _ _).alloc (Nat.le_refl _) _).alloc (by simp) _).alloc (by simp; omega) _
 have bx1:Boxed w3 w.heap.size 23 (.slice none 0 0):=by rw [← hw3,← hw2,← hw1]; exact ((Boxed.new w _ _).alloc _).alloc _
 have bx2:Boxed w3 (w.heap.size+1) 30 (.int .i64 0):=by rw [← hw3,← hw2,← s1]; exact (Boxed.new w1 _ _).alloc _
 have bx3:Boxed w3 (w.heap.size+2) 23 (.slice none 0 0):=by rw [← hw3,← s2]; exact Boxed.new w2 _ _
 have K:=Hd (parts_any15 p fl xv xs w3 (hx.below b3) hl)
 obtain ⟨ao,cap,rfl,_,_⟩:=hx.shape
 clear hx
 refine (callsIn_wide (n:=3)).1 ?_
 refine callsIn_of_wp_marks Tryz.func10 rfl trivial ?_ rfl
 simp only [Tryz.ntmps10,List.size_toArray,List.length_cons,List.length_nil,Nat.reduceAdd,Nat.reduceSub,Array.replicate_succ,Array.replicate_zero,List.push_toArray,List.append_toArray,List.nil_append,List.cons_append]
 gi_wp2_with (refine ⟨trivial,?_⟩; gi_at_call 17; refine (callsIn_wide.2 (Uh K)).mono ?_)
 rintro e W0 ⟨bd,bk,bf,kv,rfl,pt,b0⟩
 clear K
 gi_wp2
 have hz0:=b0.size
 have bW:Below w.heap.size w W0:=bthen b3 b0
 have y1:Boxed W0 w.heap.size 23 (.slice none 0 0):=(b0.block _ bx1.lt).trans bx1
 have y2:Boxed W0 (w.heap.size+1) 30 (.int .i64 0):=(b0.block _ bx2.lt).trans bx2
 have y3:Boxed W0 (w.heap.size+2) 23 (.slice none 0 0):=(b0.block _ bx3.lt).trans bx3
 have hBel:∀ A,W0.grownBy A (some (w.heap.size+2))→Below w.heap.size w A:=fun A hg=>⟨hg.os.trans bW.os,hg.tape.trans bW.tape,hg.output.trans bW.output,Nat.le_trans bW.size hg.size,fun k hk=>(hg.block k (by omega) (by simp; omega)).trans (bW.block k hk)⟩
 have hRd:∀ A,W0.grownBy A (some (w.heap.size+2))→Rd15 p fl ys bd bk bf kv xs A:=fun A hg=>(pt.grown hg (by omega)).rd (fun c hc W hW=>ho c hc W ((hBel A hg).trans (hW.mono (hBel A hg).size)))
 refine range15 (F:=Fence.wide) rfl (by omega) (gf:=29) (lb:=Lb15 bd bk bf) rfl trivial (enters_of Tryz.func29 (by kernel_rfl) rfl) (parts_it15 (3 - 1) (by omega) p fl ys bd bk bf kv xs) (fun _ _=>rfl)
  (fun k A=>Mi15 W0 (w.heap.size+2) (flat15 ys (xs.take k)) A∧(flat15 ys (xs.take k)).length≤65536)
  (fun c _ A=>c=.ret∧65536<(flat15 ys xs).length∧Boxed A w.heap.size 23 (.slice none 0 0)∧Boxed A (w.heap.size+1) 30 (.int .i64 2)∧Below w.heap.size w A∧w.heap.size<A.heap.size)
  (fun k A h=>hRd A h.1.gb) (fun k A B h hb=>⟨h.1.below hb,h.2⟩) (fun k A r o o' hr ho hc h=>⟨h.1.put o' hr ho hc,h.2⟩)
  (fun c k A r o o' hr ho hc h=>⟨h.1,h.2.1,boxP15 h.2.2.1 o' ho hc,boxP15 h.2.2.2.1 o' ho hc,h.2.2.2.2.1.trans ((Below.refl _ A).grown (grownBy_putObj' A r o') (by omega) (fun k e=>by cases e; omega)),by simpa using h.2.2.2.2.2⟩)
  (fun k v A B r o' hr h=>by have:=okF15 h o' hr; simpa [Pr15] using this)
  ⟨⟨⟨_,y3,Ok.nil _ _ _ _⟩,World.grownBy.refl W0 _⟩,by simp [flat15]⟩
  (fun k v=>{ tmps:=#[.pointer (some ⟨p,0,none⟩),.slice ao xs.length cap,.int .i64 fl,undef,undef,undef,.pointer (some ⟨w.heap.size,0,none⟩),.pointer (some ⟨w.heap.size+1,0,none⟩),.pointer (some ⟨w.heap.size+2,0,none⟩),undef,v,.pointer (some ⟨p,0,none⟩),.bool false,.pointer (some ⟨p,0,none⟩),.slice ao xs.length cap,.int .i64 fl,.func (.func 29) #[] (Lb15 bd bk bf),.int .i32 (xs.getD k 0),v,undef,undef,undef,undef,undef,undef,undef,undef,undef,undef],defers:=[] }) ?assign ?body ?done ?stop
 case assign =>
  intro l k v W K hK
  gi_wp2
  exact hK
 case body =>
  rintro l k v A B hk rfl hl1 ⟨⟨⟨u,hu,hou⟩,hg⟩,hlen⟩ hb hp ⟨rr,hloop⟩ hdef
  have hst:=flat_step15 ys xs hk
  have hle:=flat_le15 ys xs (k+1)
  have huB:Boxed B (w.heap.size+2) 23 u:=(hb.block _ hu.lt).trans hu
  have hoB:=hou.below hb
  have hgB:=gbB15 hg hb
  have hp':Sk .i32 B v (ys (xs.getD k 0)):=Ok.sk hp
  have z1:Boxed B w.heap.size 23 (.slice none 0 0):=(hgB.block _ y1.lt (by simp)).trans y1
  have z2:Boxed B (w.heap.size+1) 30 (.int .i64 0):=(hgB.block _ y2.lt (by simp)).trans y2
  have hyl:=hp'.len
  obtain ⟨au,cu,hue,_,_⟩:=hoB.sk.shape
  obtain ⟨av,cv,hve,_,_⟩:=hp'.shape
  subst hue hve
  have HP:=Hd hp'
  have HO:=Hd hoB
  have HG:=Hd hgB
  have HW:=Hd (hBel B hgB)
  have hWs:=(hBel B hgB).size
  have hsB:=hgB.size
  have hlv:∀ k,(Value.slice au (flat15 ys (xs.take k)).length cu).ownBlock=some k→True:=fun _ _=>trivial
  clear hlv
  have HX:=Hd z1
  have HY:=Hd z2
  have HU:=Hd huB
  have x8:=huB.cell
  have f8:=huB.frozen
  have x6:=z1.cell
  have f6:=z1.frozen
  have x7:=z2.cell
  have f7:=z2.frozen
  clear hu hou hg hb hp hp' hoB hgB hRd hBel pt y1 y2 y3 bx1 bx2 bx3 hl1
  generalize ys (xs.getD k 0)=zv at *
  generalize xs.getD k 0=c at *
  by_cases hbig:65536<(flat15 ys (xs.take k)).length+zv.length
  ·have hbb:(65536:Int)<((flat15 ys (xs.take k)).length:Int)+(zv.length:Int):=by omega
   gi_wp2
   refine ⟨two_set15 (two_set15 ⟨rfl,rfl⟩ _ (by omega) (by omega)) _ (by omega) (by omega),rfl,?_,((Uh HX).set _).other (by omega) _,((Uh HY).other (by omega) _).set _,((Uh HW).setCell (p:=⟨w.heap.size,0,none⟩) (Nat.le_refl _) _).setCell (p:=⟨w.heap.size+1,0,none⟩) (by simp) _,?_⟩
   ·rw [hst,List.length_append] at hle; omega
   ·have h1:=(grownBy_setCell' (B.setCell ⟨w.heap.size,0,none⟩ (.slice none 0 0)) (w.heap.size+1) (.int .i64 2)).size
    have h2:=(grownBy_setCell' B w.heap.size (.slice none 0 0)).size
    have h3:=(Uh HX).lt
    omega
  ·have hbb:((flat15 ys (xs.take k)).length:Int)+(zv.length:Int)≤65536:=by omega
   have hlt2:∀ j,(Value.slice au (flat15 ys (xs.take k)).length cu).ownBlock=some j→W0.heap.size≤j:=fun j hj=>((Uh HO).row.lt j hj).1
   have hn1:=row_not15 (Uh HO) hloop rfl
   have hn2:=row_not15 (Uh HO) hdef rfl
   have HL:=Hd hlt2
   have HN1:=Hd hn1
   have HN2:=Hd hn2
   clear hlt2 hn1 hn2
   gi_wp2_with (gi_at_builtin; refine app_in15 rfl (.tmp 25) (.tmp 26) rfl W0.heap.size _ _ _ _ rfl rfl (Uh HO) (Uh HP) (by omega) hsB ?_)
   intro v' w1 ok' g'
   have hu1:Boxed w1 (w.heap.size+2) 23 (.slice au (flat15 ys (xs.take k)).length cu):=(Uh HU).kept g' (fun e=>by have:=Uh HL _ e.symm; omega)
   have q1:=hu1.cell
   have q2:=hu1.frozen
   have hg1:=gb_app15 (Uh HG) g' (Uh HL)
   have hT:Two15 W0.heap.size B w1:=⟨g'.block _ (Array.getElem?_eq_some_iff.1 hdef).1 (Uh HN2),g'.block _ (Array.getElem?_eq_some_iff.1 hloop).1 (Uh HN1)⟩
   have hF:Two15 W0.heap.size B (w1.setCell ⟨w.heap.size+2,0,none⟩ v')∧Mi15 W0 (w.heap.size+2) (flat15 ys (xs.take (k+1))) (w1.setCell ⟨w.heap.size+2,0,none⟩ v')∧(flat15 ys (xs.take (k+1))).length≤65536:=by
    refine ⟨two_set15 hT _ (by omega) (by omega),⟨⟨v',hu1.set v',?_⟩,gb_set15 hg1 _⟩,by rw [hst,List.length_append]; omega⟩
    rw [hst]
    refine ⟨ok'.1,ok'.2.1,ok'.2.2.kept (grownBy_setCell' w1 _ v') ?_⟩
    exact .inr (fun e=>by have:=(ok'.row.lt _ e).1; omega)
   have HF:=Hd hF
   obtain ⟨a',c',hv',_,_⟩:=ok'.sk.shape
   rw [List.length_append] at hv'
   subst hv'
   clear hF ok' g' hg1 hT hu1 HX HY HU HO HP HG HL HN1 HN2 HW
   gi_wp2
   exact Uh HF
 case done =>
  rintro W ⟨⟨⟨u,hu,hou⟩,hg⟩,hlen⟩ hK
  rw [List.take_length] at hou hlen
  have z1:Boxed W w.heap.size 23 (.slice none 0 0):=(hg.block _ y1.lt (by simp)).trans y1
  have z2:Boxed W (w.heap.size+1) 30 (.int .i64 0):=(hg.block _ y2.lt (by simp)).trans y2
  have x8:=hu.cell
  have x6:=z1.cell
  have f6:=z1.frozen
  have x7:=z2.cell
  have f7:=z2.frozen
  obtain ⟨au,cu,hue,_,_⟩:=hou.sk.shape
  subst hue
  have HO:=Hd hou
  have HZ1:=Hd z1
  have HZ2:=Hd z2
  have HW:=Hd (hBel W hg)
  clear hu hou hg z1 z2 y1 y2 y3 hRd hBel pt bx1 bx2 bx3
  have hK2:((W.setCell ⟨w.heap.size,0,none⟩ (.slice au (flat15 ys xs).length cu)).setCell ⟨w.heap.size+1,0,none⟩ (.int .i64 0)).heap[W0.heap.size]?=some (.deferred (some [])):=by
   rw [Below.heap_setCell _ _ _ _ (by simp; omega),Below.heap_setCell _ _ _ _ (by simp; omega)]; exact hK
  have hfin:=fin15 (Uh HO) (Uh HW) (Uh HZ1) (Uh HZ2) hK2 (by omega) hlen
  clear HO HW HZ1 HZ2
  gi_wp2
  refine ⟨by simp,.inl ⟨_,_,rfl,run_takeDeferred hK2,?_⟩⟩
  obtain ⟨h1,h2,h3⟩:=hfin
  clear x6 x7 f6 f7 x8
  generalize ((W.setCell ⟨w.heap.size,0,none⟩ (.slice au (flat15 ys xs).length cu)).setCell ⟨w.heap.size+1,0,none⟩ (.int .i64 0)).putObj W0.heap.size (.deferred none)=WF at *
  exact ⟨_,by simp [results,Tryz.results10,go_sem,h1,h2],h3⟩
 case stop =>
  rintro c k W hk ⟨rfl,h1,h2,h3,h4,h5⟩ hK
  have g1:=(boxP15 h2 (.deferred none) hK rfl).cell
  have g2:=(boxP15 h3 (.deferred none) hK rfl).cell
  have g3:Below w.heap.size w (W.putObj W0.heap.size (.deferred none)):=h4.trans ((Below.refl _ W).grown (grownBy_putObj' W _ _) (by omega) (fun k e=>by cases e; omega))
  clear hRd hBel pt y1 y2 y3 bx1 bx2 bx3
  gi_wp2
  refine ⟨by simp,.inl ⟨_,_,rfl,run_takeDeferred hK,?_⟩⟩
  generalize W.putObj W0.heap.size (.deferred none)=WF at *
  exact ⟨_,by simp [results,Tryz.results10,go_sem,g1,g2],g3,.inr ⟨h1,rfl⟩⟩
open Go.RowKit
def stl15 (ys:Int→List Int) (xs:List Int):Bool:=decide ((flat15 ys xs).length≤65536) && decide (xs=flat15 ys xs)
set_option maxRecDepth 8000 in
set_option maxHeartbeats 1000000 in
theorem settled_any15 (p:Nat) (fl:Int) (ys:Int→List Int) (xv:Value) (xs:List Int) (w:World) (hx:Sk .i32 w xv xs) (hl:xs.length≤1000000000) (ho:OneC15 w p fl ys) :
  Calls Tryz.prog 13 #[.pointer (some ⟨p,0,none⟩),xv,.int .i64 fl] w (Tells w (stl15 ys xs)):=by
 have K:=Hd (map_any15 p fl ys xv xs w hx hl ho)
 have HX:=Hd hx
 obtain ⟨ao,cap,rfl,_,_⟩:=hx.shape
 have E1:(flat15 ys xs).length≤65536→stl15 ys xs=decide (xs=flat15 ys xs):=fun h=>by unfold stl15; rw [decide_eq_true h,Bool.true_and]
 have E2:65536<(flat15 ys xs).length→stl15 ys xs=false:=fun h=>by unfold stl15; rw [decide_eq_false (by omega),Bool.false_and]
 clear hx ho
 generalize stl15 ys xs=sb at *
 generalize flat15 ys xs=zs at *
 go_enter Tryz.func13,Tryz.ntmps13
 go_wp2_with fail
 refine (Uh K).mono ?_
 rintro e w1 ⟨b1,⟨hle,v,rfl,ok⟩ | ⟨hgt,rfl⟩⟩
 ·have K2:=Hd (equalR15 _ v xs zs w1 ((Uh HX).below b1) ok.sk)
  have hE:=E1 hle
  subst hE
  have HB:=Hd b1
  obtain ⟨a1,c1,hv1,_,_⟩:=ok.sk.shape
  subst hv1
  clear K ok b1 HX E1 E2
  generalize decide (xs=zs)=b at *
  go_wp2_with fail
  refine (Uh K2).mono ?_
  rintro e2 w2 ⟨rfl,m2,rfl⟩
  have HF:=Hd (bthen (Uh HB) (drewB ⟨m2,rfl⟩))
  clear K2
  generalize w1.drewN m2=w2 at *
  go_wp2
  go_ret
  exact ⟨rfl,Uh HF⟩
 ·have hE:=E2 hgt
  subst hE
  have HF:=Hd b1
  clear K b1 HX E1 E2
  go_wp2
  go_ret
  exact ⟨rfl,Uh HF⟩
set_option maxRecDepth 8000 in
set_option maxHeartbeats 1000000 in
theorem few_any15 (xv:Value) (xs:List Int) (m:Nat) (w:World) (hx:Sk .i32 w xv xs) (hm:m≤100000000):Calls Tryz.prog 9 #[xv,.int .i64 m] w (RunesNew w (xs.take m)):=by
 have hxl:=hx.len
 obtain ⟨ax,cx,hxv,hcx1,hcx2⟩:=hx.shape
 subst hxv
 obtain ⟨n,hn⟩:∃ n,n=min xs.length m:=⟨_,rfl⟩
 have hmin:min (xs.length:Int) (m:Int)=(n:Int):=by omega
 have hn1:n≤xs.length:=by omega
 have hT:=hx.head hn1 hcx1
 have htl:(xs.take n).length=n:=by rw [List.length_take]; omega
 have htt:xs.take m=xs.take n:=by rw [hn,List.take_eq_take_min,Nat.min_comm]
 have hn2:n≤100000000:=by omega
 rw [htt]
 clear htt hx hn
 generalize hys:xs.take n=ys at *
 clear hys
 have HT:=Hd hT
 clear hT
 rcases ax with _ | ax
 ·go_enter Tryz.func9,Tryz.ntmps9
  go_wp2_with (at_builtin; refine app_sk15 rfl (.tmp 6) (.tmp 12) rfl w.heap.size _ _ [] ys rfl rfl (Ok.nil _ _ _ _) (Uh HT) (by simp; omega) (Nat.le_refl _) ?_)
  intro v1 w1 h1 h2
  have HF:Hid (RunesNew w ys (.returned v1) w1):=⟨v1,rfl,h1,(Below.refl w.heap.size w).grown h2 (Nat.le_refl _) (fun g hh=>by cases hh)⟩
  clear h1 h2
  go_wp2
  go_ret
  exact Uh HF
 ·go_enter Tryz.func9,Tryz.ntmps9
  go_wp2_with (at_builtin; refine app_sk15 rfl (.tmp 6) (.tmp 12) rfl w.heap.size _ _ [] ys rfl rfl (Ok.nil _ _ _ _) (Uh HT) (by simp; omega) (Nat.le_refl _) ?_)
  intro v1 w1 h1 h2
  have HF:Hid (RunesNew w ys (.returned v1) w1):=⟨v1,rfl,h1,(Below.refl w.heap.size w).grown h2 (Nat.le_refl _) (fun g hh=>by cases hh)⟩
  clear h1 h2
  go_wp2
  go_ret
  exact Uh HF
def RoneC15 (A:World) (tv:Value) (fl:Int) (ys:Int→List Int):Prop:=∀ c,Rune c→∀ W,Below A.heap.size A W→Calls Tryz.prog 16 #[tv,.int .i32 c,.int .i64 fl] W (RunesNew W (ys c))
def DMap15 (w:World) (zs:List Int) (e:Ending) (w':World):Prop :=
 Below w.heap.size w w'∧((zs.length≤65536∧∃ v,e=.returned (.tuple #[v,.bool true])∧Ok .i32 21 w' w.heap.size v zs)∨(65536<zs.length∧e=.returned (.tuple #[.slice none 0 0,.bool false])))
set_option maxRecDepth 8000 in
set_option maxHeartbeats 2000000 in
theorem refMap15 (ta:Option Addr) (tl tc:Nat) (fl:Int) (ys:Int→List Int) (xv:Value) (xs:List Int) (w:World) (hx:Sk .i32 w xv xs) (ho:RoneC15 w (.slice ta tl tc) fl ys) (hyl:∀ c,(ys c).length≤1000000) :
  Calls Tryz.prog 11 #[.slice ta tl tc,xv,.int .i64 fl] w (DMap15 w (flat15 ys xs)):=by
 have hlx:=hx.len
 have HX:=Hd hx
 have HO:=Hd ho
 have HY:=Hd hyl
 obtain ⟨ao,cap,rfl,hc1,hc2⟩:=hx.shape
 have hst:=fun k (hk:k<xs.length)=>flat_step15 ys xs hk
 have hle:=fun k=>flat_le15 ys xs k
 have HST:=Hd hst
 have HLE:=Hd hle
 clear hx ho hyl hst hle
 go_enter Tryz.func11,Tryz.ntmps11
 go_wp2
 go_loopw [8,9] (fun o i wr=>∃ k:Nat,i=.int .i64 k∧k≤xs.length∧Ok .i32 21 wr w.heap.size o (flat15 ys (xs.take k))∧(flat15 ys (xs.take k)).length≤65536∧Below w.heap.size w wr) (fun _ i _=>xs.length - (intOf i).toNat)
 case atStart=>exact ⟨0,rfl,Nat.zero_le _,Ok.nil _ _ _ _,by simp [flat15],Below.refl _ _⟩
 case round =>
  obtain ⟨k,rfl,hk,hok,hlen,hb⟩:=hrel
  by_cases hlt:k<xs.length
  ·have hxw:=(Uh HX).below hb
   obtain ⟨b,off,cap',he,_,_,hcl⟩:=hxw.place (by omega)
   simp only [Value.slice.injEq] at he
   obtain ⟨rfl,-,rfl⟩:=he
   have x4:=hcl k hlt
   have hrn:Rune (xs.getD k 0):=by
    have:=hxw.1 (xs.getD k 0) (by simp [List.getD,hlt])
    exact ⟨this.1,this.2⟩
   have K:=Hd ((Uh HO) (xs.getD k 0) hrn _ hb)
   have hyc:=(Uh HY) (xs.getD k 0)
   have hstk:=(Uh HST) k hlt
   have hlek:=(Uh HLE) (k+1)
   have HOK:=Hd hok
   have HB:=Hd hb
   have hs:=hb.size
   obtain ⟨a1,c1,hv1,_,_⟩:=hok.sk.shape
   subst hv1
   clear hok hb hxw hcl hrn HX HO HY HST HLE
   generalize ys (xs.getD k 0)=zv at *
   generalize xs.getD k 0=c at *
   go_wp2_with fail
   refine (Uh K).mono ?_
   rintro e w1 ⟨v1,rfl,ok1,b1⟩
   have HO2:=Hd ((Uh HOK).below b1)
   have HS1:=Hd ok1.sk
   have hB1:=bthen (Uh HB) b1
   have HB1:=Hd hB1
   have hs1:=hB1.size
   have HLT:Hid (∀ j,(Value.slice a1 (flat15 ys (xs.take k)).length c1).ownBlock=some j→w.heap.size≤j):=fun j hj=>((Uh HO2).row.lt j hj).1
   obtain ⟨a2,c2,hv2,_,_⟩:=ok1.sk.shape
   subst hv2
   clear K ok1 b1 hB1 HOK HB x4
   go_wp2_with (at_builtin; refine app_sk15 rfl (.tmp 16) (.tmp 23) rfl w.heap.size _ _ _ _ rfl rfl (Uh HO2) (Uh HS1) (by omega) hs1 ?_)
   intro v3 w3 ok3 g3
   have b3:Below w.heap.size w w3:=(Uh HB1).grown g3 hs1 (Uh HLT)
   rw [← hstk] at ok3
   obtain ⟨a3,c3,hv3,_,_⟩:=ok3.sk.shape
   subst hv3
   have HO3:=Hd ok3
   have HB3:=Hd b3
   clear ok3 g3 b3 HO2 HS1 HB1 HLT
   by_cases hbig:65536<(flat15 ys (xs.take (k+1))).length
   ·have hbi:(65536:Int)<((flat15 ys (xs.take (k+1))).length:Int):=by omega
    have HF:Hid (DMap15 w (flat15 ys xs) (.returned (.tuple #[.slice none 0 0,.bool false])) w3):=⟨Uh HB3,.inr ⟨by omega,rfl⟩⟩
    clear HO3 HB3 hstk
    go_wp2
    go_ret2
    exact Uh HF
   ·have hbi:((flat15 ys (xs.take (k+1))).length:Int)≤65536:=by omega
    clear hstk
    go_wp2
    go_roundw
    case rel=>exact ⟨k+1,by go_num,by omega,Uh HO3,by omega,Uh HB3⟩
    case measure=>simp [intOf]; omega
  ·obtain rfl:k=xs.length:=by omega
   rw [List.take_length] at hok hlen
   obtain ⟨a1,c1,hv1,_,_⟩:=hok.sk.shape
   subst hv1
   have HF:Hid (DMap15 w (flat15 ys xs) (.returned (.tuple #[.slice a1 (flat15 ys xs).length c1,.bool true])) wr):=⟨hb,.inl ⟨hlen,_,rfl,hok⟩⟩
   clear hok hb HX HO HY HST HLE
   go_wp2
   go_ret2
   exact Uh HF
set_option maxRecDepth 8000 in
set_option maxHeartbeats 1000000 in
theorem refSettled15 (ta:Option Addr) (tl tc:Nat) (fl:Int) (ys:Int→List Int) (xv:Value) (xs:List Int) (w:World) (hx:Sk .i32 w xv xs) (ho:RoneC15 w (.slice ta tl tc) fl ys) (hyl:∀ c,(ys c).length≤1000000) :
  Calls Tryz.prog 14 #[.slice ta tl tc,xv,.int .i64 fl] w (Tells w (stl15 ys xs)):=by
 have K:=Hd (refMap15 ta tl tc fl ys xv xs w hx ho hyl)
 have HX:=Hd hx
 obtain ⟨ao,cap,rfl,_,_⟩:=hx.shape
 have E1:(flat15 ys xs).length≤65536→stl15 ys xs=decide (xs=flat15 ys xs):=fun h=>by unfold stl15; rw [decide_eq_true h,Bool.true_and]
 have E2:65536<(flat15 ys xs).length→stl15 ys xs=false:=fun h=>by unfold stl15; rw [decide_eq_false (by omega),Bool.false_and]
 clear hx ho hyl
 generalize stl15 ys xs=sb at *
 generalize flat15 ys xs=zs at *
 go_enter Tryz.func14,Tryz.ntmps14
 go_wp2_with fail
 refine (Uh K).mono ?_
 rintro e w1 ⟨b1,⟨hle,v,rfl,ok⟩ | ⟨hgt,rfl⟩⟩
 ·have K2:=Hd (same_q15 _ v xs zs w1 ((Uh HX).below b1) ok.sk)
  have hE:=E1 hle
  subst hE
  have HB:=Hd b1
  obtain ⟨a1,c1,hv1,_,_⟩:=ok.sk.shape
  subst hv1
  clear K ok b1 HX E1 E2
  generalize decide (xs=zs)=b at *
  go_wp2_with fail
  refine (Uh K2).mono ?_
  rintro e2 w2 ⟨rfl,m2,rfl⟩
  have HF:=Hd (bthen (Uh HB) (drewB ⟨m2,rfl⟩))
  clear K2
  generalize w1.drewN m2=w2 at *
  go_wp2
  go_ret
  exact ⟨rfl,Uh HF⟩
 ·have hE:=E2 hgt
  subst hE
  have HF:=Hd b1
  clear K b1 HX E1 E2
  go_wp2
  go_ret
  exact ⟨rfl,Uh HF⟩
end Go.Proofs.YtfemhegfjfhnbaaGreatDoor
