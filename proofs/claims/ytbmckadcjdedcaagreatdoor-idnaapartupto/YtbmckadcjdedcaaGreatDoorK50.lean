/- Lemmas. -/
import Derived.Test.YtbmckadcjdedcaaGreatDoorK46
import Derived.Test.YtbmckadcjdedcaaGreatDoorK49
set_option maxHeartbeats 2000000
set_option maxRecDepth 8000
namespace Go.Proofs.YtbmckadcjdedcaaGreatDoor
open Go.Proofs.Tryz
open Go.RowKit
section
variable{p:Prop}
theorem R2n(h:p:=by go_wp2;go_ret2;exact⟨rfl,b0r⟩):p:=h
theorem w2z(h:p:=by go_enter func26,ntmps26;go_wp2_with fail;refine(V K).mono ?_;rintro e I ⟨b1,u,rfl,y⟩;have g:=O (V C I _ _ u b1 y);clear K C y;go_wp2_with fail;refine c0m g fun d b=>?_;have t:=O (x0b b1 b);clear g b1 b;go_wp2;go_ret2;obtain rfl:=V Y;exact⟨rfl,V t⟩):p:=h
theorem e6j(h:p:=by go_enter func9,ntmps9;exact R2n):p:=h
theorem V1b(h:p:=by go_wp2_with fail;refine c0m KJ fun I b1=>?_;have S:=x0b r b1;have K2:=O (V K I S);clear KJ K r b1;go_wp2_with fail;refine c0m K2 fun d b2=>?_;have t:=O (x0b S b2);clear K2 S b2;go_wp2;go_ret2;obtain rfl:=V Y;exact⟨rfl,V t⟩):p:=h
theorem g7L(h:p:=by
 go_wp2_with fail;refine c0m C fun I b1=>?_;have S:=x0b (V N) b1;have K2:=O (V K I S);clear C KU K c0;go_wp2_with fail;refine c0m K2 fun d b2=>?_;have D:=x0b S b2;have ab:=x0b b1 b2;obtain⟨⟨z,c1⟩,f1,J,F⟩:=V HT d D (x5B (V u) ab);have R:=O J;have H3:=O F;clear HT u J F b1 S b2 D ab K2 N;go_wp2
 go_roundw
 case rel=>exact V i _ (V R) (V H3)
 case measure=>exact g7Y):p:=h
theorem V0v(h:p:=by rw[if_neg X,Nat.or_zero]at Y;have hL:¬(16384:Int)<((strOfNums Q).size:Int):=E5M;clear hu X a c G o2;exact V1b):p:=h
theorem E5M(h:p:=by rw[a];exact f6J):p:=h
end
theorem z5L:(prog.info? 9).map (fun i=>(i.zero,i.size,i.bytes))=some (some (.string ⟨#[]⟩),1,16):=f4x
theorem z6a(n:Nat) w(E:n<=3000000):∃W,(Instr.makeSlice 159 (.int .i64 (n:Int)) (.int .i64 (n:Int))).run prog w=.ok (.slice (some ⟨w.heap.size,0,none⟩) n n) W/\W.ownsRow w.heap.size 9 1 (.slice (some ⟨w.heap.size,0,none⟩) n n) n (List.replicate n (.string ⟨#[]⟩))/\w.grownBy W none:=by
 obtain⟨r,hi,p,i,f⟩:=info_parts z5L;obtain⟨W,Z,D,R⟩:=run_makeSlice_full (P:=prog) w w.heap.size 159 9 r _ 1 underlying159 hi p i .i64 .i64 n f6J V8r T7W (l0r _);rw[show Value.cells (.string ⟨#[]⟩)=#[.string ⟨#[]⟩]from rfl,toList_madeCells_one,Nat.mul_one]at D;exact⟨W,Z,D,R⟩
def z0Z(w:World)(r:List Int×Nat)(e:Ending)(w':World):Prop:=e=.returned (.tuple #[.string (strOfNums r.1),.int .i64 ((r.2:Nat):Int)])/\Below w.heap.size w w'
theorem z4N{w q p fl}(hE:EngAt w q fl p){lv B U yss}(hm:Mu w B U lv yss)(h0:0<yss.length)(hn:yss.length<=3000000)(hl:∀k,(yss.getD k []).length<=1000000000)
  (aj:∀k,k<yss.length->∀W f,Bw w W->Sk .i32 W f (yss.getD k [])->Calls prog 142 #[f] W (WrP W (Pu.encode (yss.getD k [])))) (aq:∀k,(Pu.encode (yss.getD k [])).1.length<=1000000000) (ay:(Id.whole yss).length<=140737488355328) :
  Calls prog 48 #[.pointer (some ⟨q,0,none⟩),lv] w (z0Z w (Id.carry (bits .and .i64 fl 32==32) yss)):=by
 have KU:Hid (∀W (s:ByteArray) (m:Nat),Bw w W->Calls prog 92 #[.pointer (some ⟨q,0,none⟩),.string s,.int .i64 (m:Int)] W (x0c W (Id.unf (bits .and .i64 fl 32==32) s.size m))):=fun W s m hW=>z6V (hE.on hW) s m;generalize(bits .and .i64 fl 32==32)=v at *;obtain⟨W1,az,b,ar⟩:=z6a yss.length w hn;have E:Bw w W1:=(b0r).grown ar (l0r _) (fun k e=>by cases e);have aA:w.heap.size<W1.heap.size:=(b.lt _ rfl).2
 obtain⟨g,M,rfl⟩:∃g M,lv=.slice (some ⟨g,0,none⟩) yss.length M:=by
  obtain⟨us,a1,P,_⟩:=hm;rcases P.2 with⟨_,h⟩ | ⟨g,M,aB,h,_⟩
  ·omega
  ·exact⟨g,M,h⟩
 have HK:Hid (∀k,k<yss.length->∀W,Bw w W->∃f,W.cell? ⟨g,k,none⟩=some f/\Calls prog 91 #[f] W (z7h W (Id.ca (yss.getD k [])))):=by
  intro k hk W hW;obtain⟨us,a1,P,a3,_⟩:=hm.below hW;exact⟨us.getD k undef,(P.cellAt k f6J).trans (by simp[List.getD,(f6J:k<us.length)]),y7a (a3 k hk).sk (hl k) (fun W' am=>aj k hk W' _ (x0b hW am) ((a3 k hk).sk.below am)) (aq k)⟩
 have o:Hid (W1.ownsRow w.heap.size 9 1 (.slice (some ⟨w.heap.size,0,none⟩) yss.length yss.length) yss.length (Id.tx yss 0)):=(by simpa[Id.tx,Hid]using b);have ai:=O E
 have HJ:Hid (∀W,W.ownsRow w.heap.size 9 1 (.slice (some ⟨w.heap.size,0,none⟩) yss.length yss.length) yss.length (Id.tx yss yss.length)->Calls prog 93 #[.slice (some ⟨w.heap.size,0,none⟩) yss.length yss.length,.string ⟨#[46]⟩] W (y3f W (Id.whole yss))):=by
  intro W hW;have hL:((yss.map fun y=>strOfNums (Id.ca y).1).map (·.data.toList))=(yss.map fun y=>(Id.ca y).1).map fun l=>(strOfNums l).data.toList:=(by simp);have aw:Lib.join ((yss.map fun y=>strOfNums (Id.ca y).1).map (·.data.toList)) [46]=(strOfNums (Id.whole yss)).data.toList:=by rw[hL,Id.whole,Id.z2f]
  have:=Tryz.strings_Join w.heap.size 0 yss.length (yss.map fun y=>strOfNums (Id.ca y).1) ⟨#[46]⟩ W (fun j x hx=>by
   have hj:j<yss.length:=(by have:=(List.getElem?_eq_some_iff.1 hx).1;simpa using this);rw[Nat.zero_add,hW.cellAt j f6J,Id.z9N];simp[hj]at hx ⊢
   exact hx) ((hW.lt _ rfl).2) P8P (by simp) (by
    show(Lib.join _ [46]).length<=_;rw[aw,Array.length_toList];rw[show(strOfNums (Id.whole yss)).data.size=(Id.whole yss).length from strOfNums_size _]
    exact ay)
  rw[List.length_map]at this;refine this.mono fun e w' ⟨Z,h2⟩=>⟨?_,h2⟩;rw[Z];show Ending.returned (.string ⟨(Lib.join _ [46]).toArray⟩)=_;rw[aw]
 have HA:Hid (∀k,k<yss.length->bits .or .i64 ((Id.ea v (yss.take k):Nat):Int) ((Id.eb v (yss.getD k []):Nat):Int)=((Id.ea v (yss.take (k+1)):Nat):Int)):=fun k hk=>(by rw[Id.y7J hk];exact Id.or19 (Id.z7Z v _) (Id.z8a v _));have HZ:Hid (∀k,k<yss.length->Id.eb v (yss.getD k [])=0->Id.ea v (yss.take (k+1))=Id.ea v (yss.take k)):=fun k hk h=>by rw[Id.y7J hk,h];simp
 have ag:Hid (∀k,k<yss.length->∀W,Bw w W->W.ownsRow w.heap.size 9 1 (.slice (some ⟨w.heap.size,0,none⟩) yss.length yss.length) yss.length (Id.tx yss k)->(∃z,W.cell? ⟨w.heap.size,k,none⟩=some (.string z))/\W.frozen? ⟨w.heap.size,k,none⟩=false/\(W.setCell ⟨w.heap.size,k,none⟩ (.string (strOfNums (Id.ca (yss.getD k [])).1))).ownsRow w.heap.size 9 1 (.slice (some ⟨w.heap.size,0,none⟩) yss.length yss.length) yss.length (Id.tx yss (k+1))/\Bw w (W.setCell ⟨w.heap.size,k,none⟩ (.string (strOfNums (Id.ca (yss.getD k [])).1)))):=fun k hk W hW hr =>
  ⟨⟨_,(hr.cellAt k f6J).trans (Id.tx_at yss hk)⟩,hr.frozenAt k,by have:=(hr.stored k (.string (strOfNums (Id.ca (yss.getD k [])).1))).1;rwa [Id.z6U yss hk]at this,hW.setCell (p:=⟨w.heap.size,k,none⟩) (l0r _) _⟩
 clear hE hm hl aj aq ay b ar E aA;go_enter func48,ntmps48;go_wp2;go_loopw[6,8,9,10,11,18] (fun tv _ _ _ _ iv wr=>∃k:Nat,tv=.int .i64 ((Id.ea v (yss.take k):Nat):Int)/\iv=.int .i64 k/\k<=yss.length/\wr.ownsRow w.heap.size 9 1 (.slice (some ⟨w.heap.size,0,none⟩) yss.length yss.length) yss.length (Id.tx yss k)/\Bw w wr) (fun _ _ _ _ _ iv _=>yss.length-(intOf iv).toNat)
 case atStart=>exact⟨0,rfl,rfl,f6J,V o,V ai⟩
 case round =>
  obtain⟨k,rfl,rfl,hk,L,r⟩:=hrel;clear o ai az;by_cases H:k<yss.length
  ·have hL:(k:Int)<yss.length:=f6J;obtain⟨f,c0,C⟩:=V HK k H wr r;replace C:=O C;have T:=V HA k H;have af:=V HZ k H;have HT:=O (V ag k H);have u:=O L;have N:=O r;have i:Hid (∀W,W.ownsRow w.heap.size 9 1 (.slice (some ⟨w.heap.size,0,none⟩) yss.length yss.length) yss.length (Id.tx yss (k+1))->Bw w W->∃n:Nat,Value.int .i64 ((Id.ea v (yss.take (k+1)):Nat):Int)=.int .i64 ((Id.ea v (yss.take n):Nat):Int)/\Value.int .i64 ((k:Int)+1)=.int .i64 n/\n<=yss.length/\W.ownsRow w.heap.size 9 1 (.slice (some ⟨w.heap.size,0,none⟩) yss.length yss.length) yss.length (Id.tx yss n)/\Bw w W):=fun W Z h2=>⟨k+1,rfl,g2A,f6J,Z,h2⟩;have ae:Id.eb v (yss.getD k [])=if(Id.ca (yss.getD k [])).2=false then 8192 else if Id.unf v (Id.ca (yss.getD k [])).1.length 63=true then 16384 else 0:=rfl;clear HK HA HZ ag HJ L r;generalize Id.eb v (yss.getD k [])=eb,Id.ca (yss.getD k [])=cc at *;obtain⟨cs,cb⟩:=cc;generalize Id.ea v (yss.take (k+1))=P,Id.ea v (yss.take k)=a1 at *
   cases cb with
   | false =>
    obtain rfl:eb=8192:=ae;clear af;replace T:bits .or .i64 (a1:Int) 8192=(P:Int):=T;generalize((a1:Nat):Int)=i1,((P:Nat):Int)=i2 at *;go_wp2_with fail;refine c0m C fun I b1=>?_;have S:=x0b (V N) b1;obtain⟨⟨z,c1⟩,f1,J,F⟩:=V HT I S (x5B (V u) b1);have R:=O J;have H3:=O F;clear HT u J F b1 S C KU N c0;go_wp2
    go_roundw
    case rel=>exact V i _ (V R) (V H3)
    case measure=>exact g7Y
   | true =>
    have K:=O fun W (hW:Bw w W)=>V KU W (strOfNums cs) 63 hW;rw[strOfNums_size]at K
    cases hu:Id.unf v cs.length 63 with
    | true =>
     rw[hu]at K;obtain rfl:eb=16384:=(by rw[ae,if_neg (by simp),if_pos hu]);clear ae af hu;replace T:bits .or .i64 (a1:Int) 16384=(P:Int):=T;generalize((a1:Nat):Int)=i1,((P:Nat):Int)=i2 at *;exact g7L
    | false =>
     rw[hu]at K;obtain rfl:eb=0:=(by rw[ae,if_neg (by simp),if_neg (by rw[hu];exact e8P)]);obtain rfl:P=a1:=af rfl;clear ae af hu T;generalize((P:Nat):Int)=i1 at *;exact g7L
  ·obtain rfl:k=yss.length:=f6J;have KJ:=O (V HJ wr L);have K:=O fun W (hW:Bw w W)=>V KU W (strOfNums (Id.whole yss)) 253 hW;rw[strOfNums_size]at K;have a:=strOfNums_size (Id.whole yss);have c:=Id.z7Z v yss;have G:Id.ea v yss|||32768<65536:=Nat.or_lt_two_pow (n:=16) c e8P;have Y:Hid (Id.carry v yss=(Id.whole yss,Id.ea v yss|||(if Id.unf v (Id.whole yss).length 253=true then 32768 else 0)|||(if 16384<(Id.whole yss).length then 2 else 0))):=rfl;rw[List.take_length];clear HK HA HZ ag HJ L KU;generalize Id.carry v yss=cr,Id.ea v yss=A,Id.whole yss=Q at *
   cases hu:Id.unf v Q.length 253 with
   | true =>
    rw[hu]at K Y;rw[if_pos rfl]at Y;have o1:bits .or .i64 (A:Int) 32768=((A|||32768:Nat):Int):=Id.or19 c (e8P:(32768:Nat)<65536);have o2:bits .or .i64 ((A|||32768:Nat):Int) 2=((A|||32768|||2:Nat):Int):=Id.or19 G (e8P:(2:Nat)<65536);generalize A|||32768=A2 at *;by_cases X:16384<Q.length
    ·rw[if_pos X]at Y;have hL:(16384:Int)<((strOfNums Q).size:Int):=E5M;generalize A2|||2=A3 at *;clear hu X a c G;exact V1b
    ·exact V0v
   | false =>
    rw[hu]at K Y;rw[if_neg e8P,Nat.or_zero]at Y;have o2:bits .or .i64 (A:Int) 2=((A|||2:Nat):Int):=Id.or19 c (e8P:(2:Nat)<65536);by_cases X:16384<Q.length
    ·rw[if_pos X]at Y;have hL:(16384:Int)<((strOfNums Q).size:Int):=E5M;generalize A|||2=A3 at *;clear hu X a c G;exact V1b
    ·exact V0v
theorem z2C fl w:Calls prog 9 #[.pointer none,.int .i64 fl] w (fun e w'=>e=.returned (.tuple #[.pointer none,.int .i64 1])/\Bw w w'):=e6j
theorem z2B p fl(U:fl<0\/63<fl) w:Calls prog 9 #[.pointer (some ⟨p,0,none⟩),.int .i64 fl] w (fun e w'=>e=.returned (.tuple #[.pointer none,.int .i64 1])/\Bw w w'):=by
 by_cases A:fl<0
 ·clear U;exact e6j
 ·have Z:63<fl:=f6J;clear U;exact e6j
theorem z8G p fl(A:0<=fl)(Z:fl<=63) w:Calls prog 9 #[.pointer (some ⟨p,0,none⟩),.int .i64 fl] w (fun e w'=>∃q,e=.returned (.tuple #[.pointer (some ⟨q,0,none⟩),.int .i64 0])/\EngAt w' q fl p/\Bw w w'):=by
 have E:¬fl<0:=f6J;have I:¬63<fl:=f6J;have x:Hid (EngAt (w.alloc (.cells #[.int .i64 fl,.pointer (some ⟨p,0,none⟩)] 37)) w.heap.size fl p):=⟨M7L,M7L⟩;have t:Hid (Bw w (w.alloc (.cells #[.int .i64 fl,.pointer (some ⟨p,0,none⟩)] 37))):=(b0r).alloc (l0r _) _;clear A Z;go_enter func9,ntmps9;go_wp2;go_ret2;exact⟨_,rfl,V x,V t⟩
namespace Id
def ur(n:Nat):Bool:=bits .and .i64 (n:Int) 3 != 0
def toU(r:List (List Int)×Nat)(zs:List Int):List Int×Nat:=if ur r.2=true then(zs,r.2)else(txt (Spl.join r.1),r.2)
def toA(v:Bool)(r:List (List Int)×Nat):List Int×Nat:=if ur r.2=true then([],r.2)else if r.2|||(carry v r.1).2≠0 then([],r.2|||(carry v r.1).2)else((carry v r.1).1,0)
end Id
theorem z4P s w(X:s.size<=281474976710656):Calls prog 40 #[.string s] w (fun e w'=>e=.returned (.string s)/\Bw w w'):=by
 have K:=O (Tryz.stringslite_Clone s w X);go_enter func40,ntmps40;go_wp2_with fail;refine c0m K fun I b1=>?_;clear K;go_wp2;go_ret;exact⟨rfl,b1⟩
theorem y2T{w q s r}(a:Calls prog 18 #[.pointer (some ⟨q,0,none⟩),.string s] w (x9O w r))(X:s.size<=1000000000)(H:Spl.total r.1+r.1.length<=1000000000) :
  Calls prog 20 #[.pointer (some ⟨q,0,none⟩),.string s] w (z0Z w (Id.toU r (nums s))):=by
 have K:=O a;clear a;obtain⟨M,n⟩:=r
 cases hu:Id.ur n with
 | true =>
  have Y:Hid (Id.toU (M,n) (nums s)=(nums s,n)):=if_pos hu;have R:(bits .and .i64 (n:Int) 3 != 0)=true:=hu;have C:=O fun W=>z4P s W f6J;clear hu H X;generalize Id.toU (M,n) (nums s)=Q at *;go_enter func20,ntmps20;go_wp2_with fail;refine(V K).mono ?_;rintro e I ⟨b1,u,rfl,y⟩;have g:=O (V C I);clear K C y;go_wp2_with fail;refine c0m g fun d m=>?_;have t:=O (x0b b1 m);clear g b1 m;go_wp2;go_ret2;obtain rfl:=V Y;refine⟨?_,V t⟩;show _=Ending.returned (.tuple #[.string (strOfNums (nums s)),_]);rw[y6l];rfl
 | false =>
  have Y:Hid (Id.toU (M,n) (nums s)=(Id.txt (Spl.join M),n)):=if_neg (by rw[hu];exact e8N);have R:(bits .and .i64 (n:Int) 3 != 0)=false:=hu;have z:=Spl.x8Z M;have l:Hid (∀W v,Rws W v M->Calls prog 21 #[v] W (y3a W (Spl.join M))):=fun W v N=>z8w v M W N H;have J:Hid (∀W v,Sk .i32 W v (Spl.join M)->Calls prog 41 #[v] W (y3f W (Id.txt (Spl.join M)))):=fun W v N=>z0C N (by simp only at H;exact f6J);have A:Hid (M.length<=1000000000):=(by show _<=_;simp only at H;exact f6J);clear hu H X z;generalize Id.toU (M,n) (nums s)=Q,Id.txt (Spl.join M)=E at *;generalize Spl.join M=B at *;go_enter func20,ntmps20;go_wp2_with fail;refine(V K).mono ?_;rintro e I ⟨b1,u,rfl,y⟩;have g:=O (V l I u (y.rwsS (by have:=V A;simp only;exact f6J)));clear K l y A;go_wp2_with fail;refine(V g).mono ?_;rintro e d ⟨U,rfl,j,m⟩;have G:=O (V J d U j.sk);have D:=x0b b1 m;clear g J j b1 m;go_wp2_with fail;refine c0m G fun P L=>?_;have t:=O (x0b D L);clear G D L;go_wp2;go_ret2;obtain rfl:=V Y;exact⟨rfl,V t⟩
theorem y1m{w q p fl}(H:EngAt w q fl p){s r}(a:Calls prog 18 #[.pointer (some ⟨q,0,none⟩),.string s] w (x9O w r))(E:r.2<65536)
  (l:Id.ur r.2=false->0<r.1.length/\r.1.length<=3000000/\(∀k,(r.1.getD k []).length<=1000000000)/\(∀k,k<r.1.length->∀W f,Sk .i32 W f (r.1.getD k [])->Calls prog 142 #[f] W (WrP W (Pu.encode (r.1.getD k []))))/\(∀k,(Pu.encode (r.1.getD k [])).1.length<=1000000000)/\(Id.whole r.1).length<=140737488355328) (T:(Id.carry (bits .and .i64 fl 32==32) r.1).2<65536) :
  Calls prog 26 #[.pointer (some ⟨q,0,none⟩),.string s] w (z0Z w (Id.toA (bits .and .i64 fl 32==32) r)):=by
 have K:=O a;clear a;obtain⟨M,n⟩:=r
 cases hu:Id.ur n with
 | true =>
  have Y:Hid (Id.toA (bits .and .i64 fl 32==32) (M,n)=([],n)):=if_pos hu;have R:(bits .and .i64 (n:Int) 3 != 0)=true:=hu;clear hu l T H E;generalize Id.toA (bits .and .i64 fl 32==32) (M,n)=Q at *;go_enter func26,ntmps26;go_wp2_with fail;refine(V K).mono ?_;rintro e I ⟨b1,u,rfl,y⟩;have t:=O b1;clear K y b1;go_wp2;go_ret2;obtain rfl:=V Y;exact⟨rfl,V t⟩
 | false =>
  have R:(bits .and .i64 (n:Int) 3 != 0)=false:=hu;obtain⟨L,o,D,X,F,c⟩:=l hu;have C:Hid (∀W B U v,Bw w W->Mu W B U v M->Calls prog 48 #[.pointer (some ⟨q,0,none⟩),v] W (z0Z W (Id.carry (bits .and .i64 fl 32==32) M))):=fun W B U v x y=>z4N (H.on x) y L o D (fun k G A f _ J=>X k G A f J) F c;have Y:Hid (Id.toA (bits .and .i64 fl 32==32) (M,n)=if n|||(Id.carry (bits .and .i64 fl 32==32) M).2≠0 then([],n|||(Id.carry (bits .and .i64 fl 32==32) M).2)else((Id.carry (bits .and .i64 fl 32==32) M).1,0)):=if_neg (by rw[hu];exact e8M);clear hu l L o D X F c H;generalize Id.toA (bits .and .i64 fl 32==32) (M,n)=Q at *;simp only at T E;generalize Id.carry (bits .and .i64 fl 32==32) M=S at *;obtain⟨P,cn⟩:=S;simp only at T Y;have j:=Id.or19 E T;generalize n|||cn=m at *;by_cases i:m=0
  ·subst i
   replace Y:Hid (Q=(P,0)):=by
    have:=V Y;rwa [if_neg M7L]at this
   replace j:bits .or .i64 (n:Int) (cn:Int)=0:=j;clear E T;exact w2z
  ·replace Y:Hid (Q=([],m)):=by
    have:=V Y;rwa [if_pos (by simpa using i)]at this
   have N:((m:Int) != 0)=true:=(by simpa using i);clear E T i;exact w2z
