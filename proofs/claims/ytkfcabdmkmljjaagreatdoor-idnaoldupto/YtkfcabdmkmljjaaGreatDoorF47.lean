/- Lemmas. -/
import Derived.Test.YtkfcabdmkmljjaaGreatDoorF43
import Derived.Test.YtkfcabdmkmljjaaGreatDoorF46
set_option maxHeartbeats 2000000
set_option maxRecDepth 8000
namespace Go.Proofs.YtkfcabdmkmljjaaGreatDoor
open Go.Proofs.Tryz
open Go.RowKit
section
variable{p:Prop}
theorem R2n(h:p:=by go_wp2;go_ret2;exact⟨rfl,b0r⟩):p:=h
theorem V2K(h:p:=by go_enter func11,ntmps11;go_wp2_with fail;refine(V K).mono ?_;rintro e Q ⟨b1,b,rfl,o⟩;have j:=O (V H Q _ _ b b1 o);clear K H o;go_wp2_with fail;refine c0m j fun u i=>?_;have x:=O (bthen b1 i);clear j b1 i;go_wp2;go_ret2;obtain rfl:=V T;exact⟨rfl,V x⟩):p:=h
theorem G1w(h:p:=by go_enter func10,ntmps10;exact R2n):p:=h
theorem n1D(h:p:=by go_wp2_with fail;refine c0m R fun Q b1=>?_;have I:=bthen C b1;have K2:=O (V J Q I);clear R J C b1;go_wp2_with fail;refine c0m K2 fun u i=>?_;have HB:=O (bthen I i);clear K2 I i;go_wp2;go_ret2;obtain rfl:=V T;exact⟨rfl,V HB⟩):p:=h
theorem m0H(h:p:=by
 go_wp2_with fail;refine c0m KC fun Q b1=>?_;have I:=bthen (V N) b1;have K2:=O (V J Q I);clear KC KU J c0;go_wp2_with fail;refine c0m K2 fun u i=>?_;have L:=bthen I i;have G:=bthen b1 i;obtain⟨⟨z,c1⟩,f1,X,t⟩:=V HT u L (x5z (V K) G);have H2:=O X;have b:=O t;clear HT K X t b1 I i L G K2 N;go_wp2
 go_roundw
 case rel=>exact V ab _ (V H2) (V b)
 case measure=>exact g8e):p:=h
theorem E8V(h:p:=by rw[if_neg a,Nat.or_zero]at T;have r:¬(16384:Int)<((strOfNums wh).size:Int):=V8r;clear hu a f c ae o2;exact n1D):p:=h
theorem V8r(h:p:=by rw[f];exact f6J):p:=h
end
theorem z6Y:(prog.info? 9).map (fun i=>(i.zero,i.size,i.bytes))=some (some (.string ⟨#[]⟩),1,16):=f4x
theorem z7o(n:Nat) w(F:n<=3000000):∃W,(Instr.makeSlice 123 (.int .i64 (n:Int)) (.int .i64 (n:Int))).run prog w=.ok (.slice (some ⟨w.heap.size,0,none⟩) n n) W/\W.ownsRow w.heap.size 9 1 (.slice (some ⟨w.heap.size,0,none⟩) n n) n (List.replicate n (.string ⟨#[]⟩))/\w.grownBy W none:=by
 obtain⟨i,hi,q,Y,U⟩:=info_parts z6Y;obtain⟨W,Z,D,J⟩:=run_makeSlice_full (P:=prog) w w.heap.size 123 9 i _ 1 underlying123 hi q Y .i64 .i64 n f6J R7P T7W (l0r _);rw[show Value.cells (.string ⟨#[]⟩)=#[.string ⟨#[]⟩]from rfl,toList_madeCells_one,Nat.mul_one]at D;exact⟨W,Z,D,J⟩
def x6s(w:World)(r:List Int×Nat)(e:Ending)(w':World):Prop:=e=.returned (.tuple #[.string (strOfNums r.1),.int .i64 ((r.2:Nat):Int)])/\Below w.heap.size w w'
theorem z6c{w q p fl}(hE:EngAt w q fl p){lv B U yss}(o:Mu w B U lv yss)(h0:0<yss.length)(hn:yss.length<=3000000)(hl:∀k,(yss.getD k []).length<=1000000000)
  (ay:∀k,k<yss.length->∀W xv,Bw w W->Sk .i32 W xv (yss.getD k [])->Calls prog 100 #[xv] W (WrP W (Pu.encode (yss.getD k [])))) (aB:∀k,(Pu.encode (yss.getD k [])).1.length<=1000000000) (aD:(Id.whole yss).length<=140737488355328) :
  Calls prog 27 #[.pointer (some ⟨q,0,none⟩),lv] w (x6s w (Id.carry (bits .and .i64 fl 32==32) yss)):=by
 have KU:Hid (∀W (s:ByteArray) (m:Nat),Bw w W->Calls prog 53 #[.pointer (some ⟨q,0,none⟩),.string s,.int .i64 (m:Int)] W (x0g W (Id.unf (bits .and .i64 fl 32==32) s.size m))):=fun W s m hW=>z8s (hE.on hW) s m;generalize(bits .and .i64 fl 32==32)=v at *;obtain⟨W1,aF,aq,aC⟩:=z7o yss.length w hn;have F:Bw w W1:=(b0r).grown aC (l0r _) (fun k e=>by cases e);have aG:w.heap.size<W1.heap.size:=(aq.lt _ rfl).2
 obtain⟨g,M,rfl⟩:∃g M,lv=.slice (some ⟨g,0,none⟩) yss.length M:=by
  obtain⟨us,a1,P,_⟩:=o;rcases P.2 with⟨_,h⟩ | ⟨g,M,aH,h,_⟩
  ·omega
  ·exact⟨g,M,h⟩
 have HK:Hid (∀k,k<yss.length->∀W,Bw w W->∃xv,W.cell? ⟨g,k,none⟩=some xv/\Calls prog 52 #[xv] W (z8F W (Id.ca (yss.getD k [])))):=by
  intro k hk W hW;obtain⟨us,a1,P,a3,_⟩:=o.below hW;exact⟨us.getD k undef,(P.cellAt k f6J).trans (by simp[List.getD,(f6J:k<us.length)]),y7K (a3 k hk).sk (hl k) (fun W' aA=>ay k hk W' _ (bthen hW aA) ((a3 k hk).sk.below aA)) (aB k)⟩
 have aw:Hid (W1.ownsRow w.heap.size 9 1 (.slice (some ⟨w.heap.size,0,none⟩) yss.length yss.length) yss.length (Id.tx yss 0)):=(by simpa[Id.tx,Hid]using aq);have ar:=O F
 have HJ:Hid (∀W,W.ownsRow w.heap.size 9 1 (.slice (some ⟨w.heap.size,0,none⟩) yss.length yss.length) yss.length (Id.tx yss yss.length)->Calls prog 54 #[.slice (some ⟨w.heap.size,0,none⟩) yss.length yss.length,.string ⟨#[46]⟩] W (y3C W (Id.whole yss))):=by
  intro W hW;have r:((yss.map fun y=>strOfNums (Id.ca y).1).map (·.data.toList))=(yss.map fun y=>(Id.ca y).1).map fun l=>(strOfNums l).data.toList:=M7P;have d:Lib.join ((yss.map fun y=>strOfNums (Id.ca y).1).map (·.data.toList)) [46]=(strOfNums (Id.whole yss)).data.toList:=by rw[r,Id.whole,Id.z3l]
  have:=Tryz.strings_Join w.heap.size 0 yss.length (yss.map fun y=>strOfNums (Id.ca y).1) ⟨#[46]⟩ W (fun j x hx=>by
   have hj:j<yss.length:=(by have:=(List.getElem?_eq_some_iff.1 hx).1;simpa using this);rw[Nat.zero_add,hW.cellAt j f6J,Id.q1k];simp[hj]at hx ⊢
   exact hx) ((hW.lt _ rfl).2) P8P M7P (by
    show(Lib.join _ [46]).length<=_;rw[d,Array.length_toList];rw[show(strOfNums (Id.whole yss)).data.size=(Id.whole yss).length from strOfNums_size _]
    exact aD)
  rw[List.length_map]at this;refine this.mono fun e w' ⟨Z,h2⟩=>⟨?_,h2⟩;rw[Z];show Ending.returned (.string ⟨(Lib.join _ [46]).toArray⟩)=_;rw[d]
 have HA:Hid (∀k,k<yss.length->bits .or .i64 ((Id.ea v (yss.take k):Nat):Int) ((Id.eb v (yss.getD k []):Nat):Int)=((Id.ea v (yss.take (k+1)):Nat):Int)):=fun k hk=>(by rw[Id.y8q hk];exact Id.or19 (Id.z6s v _) (Id.z9B v _));have Y:Hid (∀k,k<yss.length->Id.eb v (yss.getD k [])=0->Id.ea v (yss.take (k+1))=Id.ea v (yss.take k)):=fun k hk h=>by rw[Id.y8q hk,h];exact M7P
 have S:Hid (∀k,k<yss.length->∀W,Bw w W->W.ownsRow w.heap.size 9 1 (.slice (some ⟨w.heap.size,0,none⟩) yss.length yss.length) yss.length (Id.tx yss k)->(∃z,W.cell? ⟨w.heap.size,k,none⟩=some (.string z))/\W.frozen? ⟨w.heap.size,k,none⟩=false/\(W.setCell ⟨w.heap.size,k,none⟩ (.string (strOfNums (Id.ca (yss.getD k [])).1))).ownsRow w.heap.size 9 1 (.slice (some ⟨w.heap.size,0,none⟩) yss.length yss.length) yss.length (Id.tx yss (k+1))/\Bw w (W.setCell ⟨w.heap.size,k,none⟩ (.string (strOfNums (Id.ca (yss.getD k [])).1)))):=fun k hk W hW hr =>
  ⟨⟨_,(hr.cellAt k f6J).trans (Id.tx_at yss hk)⟩,hr.frozenAt k,by have:=(hr.stored k (.string (strOfNums (Id.ca (yss.getD k [])).1))).1;rwa [Id.z8r yss hk]at this,hW.setCell (p:=⟨w.heap.size,k,none⟩) (l0r _) _⟩
 clear hE o hl ay aB aD aq aC F aG;go_enter func27,ntmps27;go_wp2;go_loopw[6,8,9,10,11,18] (fun tv _ _ _ _ iv wr=>∃k:Nat,tv=.int .i64 ((Id.ea v (yss.take k):Nat):Int)/\iv=.int .i64 k/\k<=yss.length/\wr.ownsRow w.heap.size 9 1 (.slice (some ⟨w.heap.size,0,none⟩) yss.length yss.length) yss.length (Id.tx yss k)/\Bw w wr) (fun _ _ _ _ _ iv _=>yss.length-(intOf iv).toNat)
 case atStart=>exact⟨0,rfl,rfl,f6J,V aw,V ar⟩
 case round =>
  obtain⟨k,rfl,rfl,hk,H,C⟩:=hrel;clear aw ar aF;by_cases E:k<yss.length
  ·have r:(k:Int)<yss.length:=f6J;obtain⟨xv,c0,KC⟩:=V HK k E wr C;replace KC:=O KC;have D:=V HA k E;have am:=V Y k E;have HT:=O (V S k E);have K:=O H;have N:=O C;have ab:Hid (∀W,W.ownsRow w.heap.size 9 1 (.slice (some ⟨w.heap.size,0,none⟩) yss.length yss.length) yss.length (Id.tx yss (k+1))->Bw w W->∃n:Nat,Value.int .i64 ((Id.ea v (yss.take (k+1)):Nat):Int)=.int .i64 ((Id.ea v (yss.take n):Nat):Int)/\Value.int .i64 ((k:Int)+1)=.int .i64 n/\n<=yss.length/\W.ownsRow w.heap.size 9 1 (.slice (some ⟨w.heap.size,0,none⟩) yss.length yss.length) yss.length (Id.tx yss n)/\Bw w W):=fun W Z h2=>⟨k+1,rfl,g2A,f6J,Z,h2⟩;have aj:Id.eb v (yss.getD k [])=if(Id.ca (yss.getD k [])).2=false then 8192 else if Id.unf v (Id.ca (yss.getD k [])).1.length 63=true then 16384 else 0:=rfl;clear HK HA Y S HJ H C;generalize Id.eb v (yss.getD k [])=eb,Id.ca (yss.getD k [])=cc at *;obtain⟨cs,cb⟩:=cc;generalize Id.ea v (yss.take (k+1))=P,Id.ea v (yss.take k)=a1 at *
   cases cb with
   | false =>
    obtain rfl:eb=8192:=aj;clear am;replace D:bits .or .i64 (a1:Int) 8192=(P:Int):=D;generalize((a1:Nat):Int)=i1,((P:Nat):Int)=i2 at *;go_wp2_with fail;refine c0m KC fun Q b1=>?_;have I:=bthen (V N) b1;obtain⟨⟨z,c1⟩,f1,X,t⟩:=V HT Q I (x5z (V K) b1);have H2:=O X;have b:=O t;clear HT K X t b1 I KC KU N c0;go_wp2
    go_roundw
    case rel=>exact V ab _ (V H2) (V b)
    case measure=>exact g8e
   | true =>
    have J:=O fun W (hW:Bw w W)=>V KU W (strOfNums cs) 63 hW;rw[strOfNums_size]at J
    cases hu:Id.unf v cs.length 63 with
    | true =>
     rw[hu]at J;obtain rfl:eb=16384:=(by rw[aj,if_neg M7P,if_pos hu]);clear aj am hu;replace D:bits .or .i64 (a1:Int) 16384=(P:Int):=D;generalize((a1:Nat):Int)=i1,((P:Nat):Int)=i2 at *;exact m0H
    | false =>
     rw[hu]at J;obtain rfl:eb=0:=(by rw[aj,if_neg M7P,if_neg (by rw[hu];exact e8R)]);obtain rfl:P=a1:=am rfl;clear aj am hu D;generalize((P:Nat):Int)=i1 at *;exact m0H
  ·obtain rfl:k=yss.length:=f6J;have R:=O (V HJ wr H);have J:=O fun W (hW:Bw w W)=>V KU W (strOfNums (Id.whole yss)) 253 hW;rw[strOfNums_size]at J;have f:=strOfNums_size (Id.whole yss);have c:=Id.z6s v yss;have ae:Id.ea v yss|||32768<65536:=Nat.or_lt_two_pow (n:=16) c e8R;have T:Hid (Id.carry v yss=(Id.whole yss,Id.ea v yss|||(if Id.unf v (Id.whole yss).length 253=true then 32768 else 0)|||(if 16384<(Id.whole yss).length then 2 else 0))):=rfl;rw[List.take_length];clear HK HA Y S HJ H KU;generalize Id.carry v yss=cr,Id.ea v yss=A,Id.whole yss=wh at *
   cases hu:Id.unf v wh.length 253 with
   | true =>
    rw[hu]at J T;rw[if_pos rfl]at T;have o1:bits .or .i64 (A:Int) 32768=((A|||32768:Nat):Int):=Id.or19 c (e8R:(32768:Nat)<65536);have o2:bits .or .i64 ((A|||32768:Nat):Int) 2=((A|||32768|||2:Nat):Int):=Id.or19 ae (e8R:(2:Nat)<65536);generalize A|||32768=A2 at *;by_cases a:16384<wh.length
    ·rw[if_pos a]at T;have r:(16384:Int)<((strOfNums wh).size:Int):=V8r;generalize A2|||2=A3 at *;clear hu a f c ae;exact n1D
    ·exact E8V
   | false =>
    rw[hu]at J T;rw[if_neg e8R,Nat.or_zero]at T;have o2:bits .or .i64 (A:Int) 2=((A|||2:Nat):Int):=Id.or19 c (e8R:(2:Nat)<65536);by_cases a:16384<wh.length
    ·rw[if_pos a]at T;have r:(16384:Int)<((strOfNums wh).size:Int):=V8r;generalize A|||2=A3 at *;clear hu a f c ae;exact n1D
    ·exact E8V
theorem z3I fl w:Calls prog 10 #[.pointer none,.int .i64 fl] w (fun e w'=>e=.returned (.tuple #[.pointer none,.int .i64 1])/\Bw w w'):=G1w
theorem z3H p fl(C:fl<0\/63<fl) w:Calls prog 10 #[.pointer (some ⟨p,0,none⟩),.int .i64 fl] w (fun e w'=>e=.returned (.tuple #[.pointer none,.int .i64 1])/\Bw w w'):=by
 by_cases U:fl<0
 ·clear C;exact G1w
 ·have Z:63<fl:=f6J;clear C;exact G1w
theorem y6e p fl(U:0<=fl)(Z:fl<=63) w:Calls prog 10 #[.pointer (some ⟨p,0,none⟩),.int .i64 fl] w (fun e w'=>∃q,e=.returned (.tuple #[.pointer (some ⟨q,0,none⟩),.int .i64 0])/\EngAt w' q fl p/\Bw w w'):=by
 have W:¬fl<0:=f6J;have T:¬63<fl:=f6J;have D:Hid (EngAt (w.alloc (.cells #[.int .i64 fl,.pointer (some ⟨p,0,none⟩)] 66)) w.heap.size fl p):=⟨M7L,M7L⟩;have x:Hid (Bw w (w.alloc (.cells #[.int .i64 fl,.pointer (some ⟨p,0,none⟩)] 66))):=(b0r).alloc (l0r _) _;clear U Z;go_enter func10,ntmps10;go_wp2;go_ret2;exact⟨_,rfl,V D,V x⟩
namespace Id
def ur(n:Nat):Bool:=bits .and .i64 (n:Int) 3 != 0
def toU(r:List (List Int)×Nat)(zs:List Int):List Int×Nat:=if ur r.2=true then(zs,r.2)else(txt (Spl.join r.1),r.2)
def toA(v:Bool)(r:List (List Int)×Nat):List Int×Nat:=if ur r.2=true then([],r.2)else if r.2|||(carry v r.1).2≠0 then([],r.2|||(carry v r.1).2)else((carry v r.1).1,0)
end Id
theorem z6e s w(L:s.size<=281474976710656):Calls prog 28 #[.string s] w (fun e w'=>e=.returned (.string s)/\Bw w w'):=by
 have K:=O (Tryz.stringslite_Clone s w L);go_enter func28,ntmps28;go_wp2_with fail;refine c0m K fun Q b1=>?_;clear K;go_wp2;go_ret;exact⟨rfl,b1⟩
theorem x2A{w q s r}(l:Calls prog 17 #[.pointer (some ⟨q,0,none⟩),.string s] w (y1Z w r))(U:s.size<=1000000000)(P:Spl.total r.1+r.1.length<=1000000000) :
  Calls prog 12 #[.pointer (some ⟨q,0,none⟩),.string s] w (x6s w (Id.toU r (nums s))):=by
 have K:=O l;clear l;obtain⟨E,n⟩:=r
 cases hu:Id.ur n with
 | true =>
  have T:Hid (Id.toU (E,n) (nums s)=(nums s,n)):=if_pos hu;have J:(bits .and .i64 (n:Int) 3 != 0)=true:=hu;have H:=O fun W=>z6e s W f6J;clear hu P U;generalize Id.toU (E,n) (nums s)=D at *;go_enter func12,ntmps12;go_wp2_with fail;refine(V K).mono ?_;rintro e Q ⟨b1,b,rfl,o⟩;have j:=O (V H Q);clear K H o;go_wp2_with fail;refine c0m j fun u i=>?_;have x:=O (bthen b1 i);clear j b1 i;go_wp2;go_ret2;obtain rfl:=V T;refine⟨?_,V x⟩;show _=Ending.returned (.tuple #[.string (strOfNums (nums s)),_]);rw[x8M];rfl
 | false =>
  have T:Hid (Id.toU (E,n) (nums s)=(Id.txt (Spl.join E),n)):=if_neg (by rw[hu];exact e8N);have J:(bits .and .i64 (n:Int) 3 != 0)=false:=hu;have d:=Spl.x9s E;have M:Hid (∀W v,Rws W v E->Calls prog 30 #[v] W (y3x W (Spl.join E))):=fun W v N=>z9Z v E W N P;have S:Hid (∀W v,Sk .i32 W v (Spl.join E)->Calls prog 29 #[v] W (y3C W (Id.txt (Spl.join E)))):=fun W v N=>z1r N (by simp only at P;exact f6J);have A:Hid (E.length<=1000000000):=(by show _<=_;simp only at P;exact f6J);clear hu P U d;generalize Id.toU (E,n) (nums s)=D,Id.txt (Spl.join E)=F at *;generalize Spl.join E=C at *;go_enter func12,ntmps12;go_wp2_with fail;refine(V K).mono ?_;rintro e Q ⟨b1,b,rfl,o⟩;have j:=O (V M Q b (o.rwsS (by have:=V A;simp only;exact f6J)));clear K M o A;go_wp2_with fail;refine(V j).mono ?_;rintro e u ⟨a,rfl,R,i⟩;have k:=O (V S u a R.sk);have L:=bthen b1 i;clear j S R b1 i;go_wp2_with fail;refine c0m k fun B G=>?_;have x:=O (bthen L G);clear k L G;go_wp2;go_ret2;obtain rfl:=V T;exact⟨rfl,V x⟩
theorem x7y{w q p fl}(Y:EngAt w q fl p){s r}(l:Calls prog 17 #[.pointer (some ⟨q,0,none⟩),.string s] w (y1Z w r))(F:r.2<65536)
  (d:Id.ur r.2=false->0<r.1.length/\r.1.length<=3000000/\(∀k,(r.1.getD k []).length<=1000000000)/\(∀k,k<r.1.length->∀W S,Sk .i32 W S (r.1.getD k [])->Calls prog 100 #[S] W (WrP W (Pu.encode (r.1.getD k []))))/\(∀k,(Pu.encode (r.1.getD k [])).1.length<=1000000000)/\(Id.whole r.1).length<=140737488355328) (I:(Id.carry (bits .and .i64 fl 32==32) r.1).2<65536) :
  Calls prog 11 #[.pointer (some ⟨q,0,none⟩),.string s] w (x6s w (Id.toA (bits .and .i64 fl 32==32) r)):=by
 have K:=O l;clear l;obtain⟨E,n⟩:=r
 cases hu:Id.ur n with
 | true =>
  have T:Hid (Id.toA (bits .and .i64 fl 32==32) (E,n)=([],n)):=if_pos hu;have J:(bits .and .i64 (n:Int) 3 != 0)=true:=hu;clear hu d I Y F;generalize Id.toA (bits .and .i64 fl 32==32) (E,n)=D at *;go_enter func11,ntmps11;go_wp2_with fail;refine(V K).mono ?_;rintro e Q ⟨b1,b,rfl,o⟩;have x:=O b1;clear K o b1;go_wp2;go_ret2;obtain rfl:=V T;exact⟨rfl,V x⟩
 | false =>
  have J:(bits .and .i64 (n:Int) 3 != 0)=false:=hu;obtain⟨y,A,X,f,a,C⟩:=d hu;have H:Hid (∀W B U v,Bw w W->Mu W B U v E->Calls prog 27 #[.pointer (some ⟨q,0,none⟩),v] W (x6s W (Id.carry (bits .and .i64 fl 32==32) E))):=fun W B U v g o=>z6c (Y.on g) o y A X (fun k G N S _ t=>f k G N S t) a C;have T:Hid (Id.toA (bits .and .i64 fl 32==32) (E,n)=if n|||(Id.carry (bits .and .i64 fl 32==32) E).2≠0 then([],n|||(Id.carry (bits .and .i64 fl 32==32) E).2)else((Id.carry (bits .and .i64 fl 32==32) E).1,0)):=if_neg (by rw[hu];exact e8M);clear hu d y A X f a C Y;generalize Id.toA (bits .and .i64 fl 32==32) (E,n)=D at *;simp only at I F;generalize Id.carry (bits .and .i64 fl 32==32) E=L at *;obtain⟨c,cn⟩:=L;simp only at I T;have R:=Id.or19 F I;generalize n|||cn=m at *;by_cases M:m=0
  ·subst M
   replace T:Hid (D=(c,0)):=by
    have:=V T;rwa [if_neg M7L]at this
   replace R:bits .or .i64 (n:Int) (cn:Int)=0:=R;clear F I;exact V2K
  ·replace T:Hid (D=([],m)):=by
    have:=V T;rwa [if_pos (by simpa using M)]at this
   have Z:((m:Int) != 0)=true:=(by simpa using M);clear F I M;exact V2K
