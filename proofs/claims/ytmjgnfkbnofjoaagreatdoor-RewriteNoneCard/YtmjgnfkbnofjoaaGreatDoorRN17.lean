import Derived.WalkKit
import Derived.Test.YtmjgnfkbnofjoaaGreatDoorRN16
namespace Go.Proofs.YtmjgnfkbnofjoaaGreatDoor
open Go.Proofs.Tryz
set_option maxRecDepth 100000
set_option linter.unusedVariables false
set_option maxHeartbeats 32000000
variable {ops:Array Oper} {e:Ending} {Q:Exit->Act->World->Prop} {ws:List (Int × Int)} {P T left p t:List Int} {rest:List Oper} {R l:List Ru} {L xs:List Sym} {V a b bs c c' cap cb g g' i k lc m n sc tc y:Nat} {B B':Nat->Prop} {o:Oper} {ao lo ro so sp tto:Option Addr} {s:St9} {ev ev' lv v vi vp:Value} {W W2 X w w' w0 w1 w2:World}
section
open Go.RowKit
attribute [local go_sem ↓] Go.wp_at_zero Go.wp_at_succ
theorem Zcw.len3 (h:Zcw L R l ws):ws.length<=3:=by
 rcases h with ⟨c,p,r,_,_,h,rfl⟩ | ⟨_,K,z,_,rfl⟩ | ⟨_,_,rfl⟩
 ·simp;omega
 ·simp
 ·simp
theorem Zcw.good (h:Zcw L R l []):Ans L R l []∧Jy L (R++l) L.length:=by
 rcases h with ⟨c,p,r,_,_,_,e⟩ | ⟨_,K,z,_,e⟩ | ⟨a,b,_⟩
 ·cases e
 ·cases e
 ·exact ⟨a,b⟩
theorem Zaq.keptM (h:Zaq w y sp V L R) (hk:Zc (λ q=>q=m) w w') (hf:Zki w m) (hne:y≠m):Zaq w' y sp V L R:=
 ⟨hk.at h.blk (λ e=>hne e),h.g.keptY hk (λ k e=>by subst e;exact hf)⟩
theorem Zcs.far {vs:List Value} (h:Zcs w m so sc V L R lv vs):Zki w m:=.inr (.inr (.inl ⟨_,h.blk⟩))
theorem Zaq.far (h:Zaq w y sp V L R):Zki w y:=.inr (.inl ⟨_,h.blk⟩)
theorem Zcs.keptY {vs:List Value} (h:Zcs w m so sc V L R lv vs) (hk:Zc (λ q=>q=y) w w') (hf:Zki w y) (hne:m≠y):Zcs w' m so sc V L R lv vs:=by
 refine ⟨hk.at h.blk (λ e=>hne e),⟨hk.row h.rl.1 (λ q e s=>?_),λ q e=>Nat.lt_of_lt_of_le (h.rl.2.1 q e) hk.size,h.rl.2.2⟩,hk.row h.row (λ q e s=>?_),h.own.kept hk (λ q s=>?_),h.le,h.ok⟩
 ·obtain ⟨c,hc⟩:=Yb h.rl.1 e
  have s' : q=y:=s;rw [s'] at hc;exact hf.no.2.1 _ hc
 ·obtain ⟨c,hc⟩:=Yb h.row e
  have s' : q=y:=s;rw [s'] at hc;exact hf.no.2.2.1 _ hc
 ·have s' : q=y:=s
  rw [s'];exact hf.no.1
structure TwY (w0 w:World) (y m:Nat) (sp so:Option Addr) (sc:Nat) (L:List Sym) (R:List Ru) (lv:Value) (vs:List Value):Prop where
 sy:Zaq w y sp R.length L R
 ry:Zcs w m so sc R.length L R lv vs
 good:GoodR L R
 y0:w0.heap.size<=y
 m0:w0.heap.size<=m
 same:Za w0 w
theorem TwY.ne {vs:List Value} (h:TwY w0 w y m sp so sc L R lv vs):y≠m:=λ e=>by
 have:=h.sy.blk;rw [e,h.ry.blk] at this;cases this
theorem TwY.same' {vs:List Value} (h:TwY w0 w y m sp so sc L R lv vs) (hk:Za w w'):TwY w0 w' y m sp so sc L R lv vs:=
 ⟨h.sy.same hk,h.ry.same hk,h.good,h.y0,h.m0,h.same.trans' hk⟩
theorem TwY.syms {vs:List Value} (h:TwY w0 w y m sp so sc L R lv vs) (h1:Zmu L xs R R.length y w ws v w1) (h2:Zl6 m R.length L xs R lv vs w1 e w2) :
  ∃ v', e=.returned v' ∧ Zn w2 ws v∧Xh w2 v' ws∧ws.length<=2∧∃ sp' so' sc' L', TwY w0 w2 y m sp' so' sc' L' R lv vs∧(ws=[]->L' = L++xs)∧(ws≠[]->L' = L)∧Ze4 L xs ws:=by
 obtain ⟨a1,a2,⟨sp', L', a3,a4,a5⟩,a6⟩:=h1;obtain ⟨ws', v', rfl,b1,b2,b3,so', sc', L'', b4,b5,b6⟩:=h2;obtain rfl:=a1.uniq b1;have hne:=h.ne;have hf1:Zki w1 m:=(h.ry.keptY a6 h.sy.far (λ e=>hne e.symm)).far
 have eL:L'' = L' := by
  by_cases q:ws=[]
  ·rw [b5 q,(a4 q).2]
  ·rw [(b6 q).1,(a5 q).2.1]
 subst eL
 have hg:GoodR L'' R:=by
  by_cases q:ws=[]
  ·rw [b5 q];exact h.good.grow xs
  ·rw [(b6 q).1];exact h.good
 have hs1:Za w0 w1:=Zc.trans h.same a6 (λ i hi e=>by have e' : i=y:=e;have:=h.y0;omega);refine ⟨v', rfl,Zn.keptN b3 hf1.no.2.2.2.2.1 a2,b2,a1.len,sp', so', sc', L'', ⟨a3.keptM b3 hf1 hne,b4,hg,h.y0,h.m0,Zc.trans hs1 b3 (λ i hi e=>by have e' : i=m:=e;have:=h.m0;omega)⟩,b5,λ q=>(b6 q).1,a1⟩
theorem TwY.ryAt {vs:List Value} (h:TwY w0 w y m sp so sc L R lv vs) (hk:Zc (λ q=>q=y) w w1):Zcs w1 m so sc R.length L R lv vs∧Za w0 w1:=
 ⟨h.ry.keptY hk h.sy.far (λ e=>h.ne e.symm),Zc.trans h.same hk (λ i hi e=>by have e' : i=y:=e;have:=h.y0;omega)⟩
theorem TwY.rule {vs:List Value} (h:TwY w0 w y m sp so sc L R lv vs) {x:Ru} (h1:Zmk L R [x] R.length y w ws v w1) (h2:Zsk m so sc R.length L R [x] w1 e w2) :
  ∃ v', e=.returned v' ∧ Zn w2 ws v∧Xh w2 v' ws∧ws.length<=3∧∃ sp' R' lv' vs', TwY w0 w2 y m sp' so sc L R' lv' vs' ∧ (ws=[]->R' = R ++ [x])∧(ws≠[]->R' = R)∧Zcw L R [x] ws:=by
 obtain ⟨a1,a2,⟨sp', V', R', a3,a4,a5⟩,a6⟩:=h1;obtain ⟨ws', v', rfl,b1,b2,b3,V'', R'', lv', vs', b4,b5,b6⟩:=h2;obtain rfl:=a1.uniq b1;have hne:=h.ne;have hf1:Zki w1 m:=(h.ry.keptY a6 h.sy.far (λ e=>hne e.symm)).far
 have eR:R'' = R' ∧ V'' = R''.length∧V' = R'.length∧GoodR L R'' := by
  by_cases q:ws=[]
  ·obtain ⟨q1,q2⟩:=b5 q
   obtain ⟨_,q3,q4⟩:=a4 q;refine ⟨by rw [q1,q3],by rw [q2,q1];simp,by rw [q4,q3];simp,?_⟩;rw [q1];rw [q] at a1;exact h.good.add a1.good.1
  ·obtain ⟨q1,q2,_⟩:=b6 q
   obtain ⟨_,q3,q4,_⟩:=a5 q;exact ⟨by rw [q1,q3],by rw [q2,q1],by rw [q4,q3],by rw [q1];exact h.good⟩
 obtain ⟨rfl,rfl,rfl,hg⟩:=eR;have hs1:Za w0 w1:=Zc.trans h.same a6 (λ i hi e=>by have e' : i=y:=e;have:=h.y0;omega);exact ⟨v', rfl,Zn.keptN b3 hf1.no.2.2.2.2.1 a2,b2,a1.len3,sp', _,lv', vs', ⟨a3.keptM b3 hf1 hne,b4,hg,h.y0,h.m0,Zc.trans hs1 b3 (λ i hi e=>by have e' : i=m:=e;have:=h.m0;omega)⟩,λ q=>(b5 q).1,λ q=>(b6 q).1,a1⟩
inductive V9:List Sym->List Sym->Prop
 | nil:V9 [] []
 | yes {l L:List Sym} {x:Sym}:V9 l L->Ze4 L [x] []->V9 (l ++ [x]) (L ++ [x])
 | no {l L:List Sym} {x:Sym} {ws:List (Int × Int)}:V9 l L->Ze4 L [x] ws->ws≠[]->V9 (l ++ [x]) L
inductive V8 (L:List Sym):List Ru->List Ru->Prop
 | nil:V8 L [] []
 | yes {l R:List Ru} {x:Ru}:V8 L l R->Zcw L R [x] []->V8 L (l ++ [x]) (R ++ [x])
 | no {l R:List Ru} {x:Ru} {ws:List (Int × Int)}:V8 L l R->Zcw L R [x] ws->ws≠[]->V8 L (l ++ [x]) R
theorem V9.step (h:n<xs.length) {L':List Sym} (hm:V9 (xs.take n) L) (ha:Ze4 L [xs[n]] ws) (h1:ws=[]->L' = L ++ [xs[n]]) (h2:ws≠[]->L' = L):V9 (xs.take (n+1)) L' := by
 have e:xs.take (n+1)=xs.take n ++ [xs[n]]:=by rw [List.take_add_one,List.getElem?_eq_getElem h];rfl
 rw [e]
 by_cases q:ws=[]
 ·rw [h1 q];subst q;exact .yes hm ha
 ·rw [h2 q];exact .no hm ha q
theorem V8.step {xs:List Ru} (h:n<xs.length) {R':List Ru} (hm:V8 L (xs.take n) R) (ha:Zcw L R [xs[n]] ws) (h1:ws=[]->R' = R ++ [xs[n]]) (h2:ws≠[]->R' = R):V8 L (xs.take (n+1)) R' := by
 have e:xs.take (n+1)=xs.take n ++ [xs[n]]:=by rw [List.take_add_one,List.getElem?_eq_getElem h];rfl
 rw [e]
 by_cases q:ws=[]
 ·rw [h1 q];subst q;exact .yes hm ha
 ·rw [h2 q];exact .no hm ha q
theorem Zig {xb off:Nat} (h:Xw w (some ⟨xb,off,none⟩) xs.length xs) (hi:i<xs.length):Xw w (some ⟨xb,off+i * 3,none⟩) 1 [xs[i]]:=by
 obtain ⟨b,o,e,hb,c0,c1,c2⟩:=h.cells hi;cases e;refine ⟨rfl,.inr ⟨_,_,rfl,hb,λ j hj=>?_⟩,λ x hx=>?_⟩
 ·obtain rfl:j=0:=by simp at hj;omega
  exact ⟨by simpa using c0,by simpa using c1,by simpa using c2⟩
 ·simp at hx
  subst hx;exact h.2.2 _ (List.getElem_mem hi)
theorem ym_nil (b:Nat) (w:World):(binOp .eql 24 (.pointer (some ⟨b,0,none⟩)) (.pointer none)).run prog w=.ok (.bool false) w:=by kernel_rfl
def Zvi (xs:List Sym) (l:List Ru) (w:World) (e:Ending) (w' : World):Prop:=
 ∃ y m sp so sc L R lv vs,e=.returned (.tuple #[.pointer (some ⟨y,0,none⟩),.pointer (some ⟨m,0,none⟩)])∧TwY w w' y m sp so sc L R lv vs∧V9 xs L∧V8 L l R
theorem Zpn (hE:ErrT w) (hx:Xw w ao xs.length xs) (hm:xs.length<=maxLen) (hcap:xs.length<=cap) (hl:Vh w lo l) (hll:l.length<=140737488355328) (hlc:l.length<=lc) :
  Calls prog 101 #[.slice ao xs.length cap,.slice lo l.length lc] w (Zvi xs l w):=by
 unfold maxLen at hm;have hpn:=ym_nil;have HX:Hid (∀ ww,Za w ww->Xw ww ao xs.length xs):=λ ww hk=>hx.kept hk.below;have HL:Hid (∀ ww,Za w ww->Vh ww lo l):=λ ww hk=>hl.same hk;have HE:Hid (∀ ww,Za w ww->ErrT ww):=λ ww hk=>hE.same hk;clear hx hl hE
 go_enter func101,ntmps101
 go_upto_region 2 with ((go_at_call 8;refine (Zwo w).mono ?_;rintro e w1 ⟨rfl,rfl⟩))
 obtain ⟨w1,hw1⟩:∃ w1,w1=w.alloc (.cells #[.pointer none,.int .i64 0] 94):=⟨_,rfl⟩;have K1:Za w w1:=by rw [hw1];exact Zal9
 have H1:Zaq w1 w.heap.size none 0 [] []:=⟨by rw [hw1];exact heap_alloc_new _ _,.inl ⟨rfl,rfl,rfl⟩⟩;rw [<- hw1];clear hw1;obtain ⟨w2,hw2⟩:∃ w2,w2=w1.alloc (.cells #[.slice none 0 0,.slice none 0 0,.int .i64 0] 31):=⟨_,rfl⟩;have K2:Za w1 w2:=by rw [hw2];exact Zal9
 have H2:Zcs w2 w1.heap.size none 0 0 [] [] (.slice none 0 0) []:=⟨by rw [hw2];exact heap_alloc_new _ _,⟨World.ownsRow_nil _ _ _ _,(λ q e=>by cases e),Zlt,by simp⟩,World.ownsRow_nil _ _ _ _,⟨rfl,λ i hi=>absurd hi (by simp)⟩,by simp,λ x hx=>by simp at hx⟩;have T0:Hid (TwY w w2 w.heap.size w1.heap.size none none 0 [] [] (.slice none 0 0) []):=⟨H1.same K2,H2,GoodR.nil [],Nat.le_refl _,K1.size,K1.trans' K2⟩
 go_upto_region 3 with fail
 rw [<- hw2];clear hw2 H1 H2;generalize w.heap.size=y at *;generalize w1.heap.size=m at *;clear K1 K2
 go_wp2_with fail
 go_loopw [8] (λ i wr=>∃ (n:Nat) (sp so:Option Addr) (sc:Nat) (L:List Sym),n<=xs.length∧i=.int .i64 (n:Int)∧Hid (TwY w wr y m sp so sc L [] (.slice none 0 0) [])∧Hid (V9 (xs.take n) L)) (λ i _=>xs.length-(intOf i).toNat)
 case atStart=>exact ⟨0,none,none,0,[],Nat.zero_le _,rfl,T0,V9.nil⟩
 case round=>
  clear T0;obtain ⟨n,sp,so,sc,L,hn,rfl,hT,hM⟩:=hrel;obtain ⟨wz,rfl⟩:∃ wz,wz=wr:=⟨_,rfl⟩
  by_cases hlt:n<xs.length
  ·obtain ⟨xb,off,rfl,hxb,_,_,_⟩:=(HX.out wz hT.out.same).cells hlt
   have hj1:IntKind.i64.wrap ((n:Int)+1)=(n:Int)+1:=Zcv (by omega) (by omega);have i1:(0:Int)<=(n:Int):=by omega
   have i2:(n:Int)+1<=(cap:Int):=by omega
   have i3:(n:Int)<=(n:Int)+1:=by omega
   have i4:(n:Int)<(xs.length:Int):=by omega
   have hcj:¬ cap=n:=by omega
   have CA:Hid (Calls prog 20 #[.pointer (some ⟨y,0,none⟩),.slice (some ⟨xb,off+n * 3,none⟩) 1 (cap-n)] wz λ e w' => ∃ ws v,e=.returned v∧Zmu L [xs[n]] [] 0 y wz ws v w'):=Zdi (xs:=[xs[n]]) hT.out.sy hT.out.good (Zig (HX.out wz hT.out.same) hlt) (by unfold maxLen;simp)
   have CB:Hid (∀ w1,Zc (λ q=>q=y) wz w1->Calls prog 25 #[.pointer (some ⟨m,0,none⟩),.slice (some ⟨xb,off+n * 3,none⟩) 1 (cap-n)] w1 (Zl6 m 0 L [xs[n]] [] (.slice none 0 0) [] w1)):=λ w1 hk=>by
    obtain ⟨q1,q2⟩:=hT.out.ryAt hk;exact Zkt (xs:=[xs[n]]) q1 (Zig (HX.out w1 q2) hlt) (by unfold maxLen;simp)
   have HN:Hid (∀ ws L', Ze4 L [xs[n]] ws->(ws=[]->L' = L ++ [xs[n]])->(ws≠[]->L' = L)->V9 (xs.take (n+1)) L'):=λ ws L' a b c=>hM.out.step hlt a b c;have D1:=CA.out;generalize xs[n]=x at *;clear CA hM
   go_upto_region 9 with ((go_at_call 20;refine D1.mono ?_;rintro e w4 ⟨ws,v,rfl,h4⟩))
   have D2:=CB.out w4 h4.2.2.2;have H4:Hid (Zmu L [x] [] 0 y wz ws v w4):=h4;clear D1 CB h4
   go_upto_region 10 with ((go_at_call 25;refine D2.mono ?_;rintro e w5 h5;obtain ⟨v5,rfl,f5,g5,len5,sp', so', sc', L', hT', e51,e52,e53⟩:=hT.out.syms H4.out h5))
   have HM:Hid (V9 (xs.take (n+1)) L'):=HN.out _ _ e53 e51 e52;clear HN e51 e52 e53;have D3:=Ze3 f5 g5 (by omega);have HT5:Hid (∀ ww,Za w5 ww->TwY w ww y m sp' so' sc' L' [] (.slice none 0 0) []):=λ ww hk=>hT'.same' hk;clear D2 H4 h5 hT' f5 g5 hT
   go_wp2_with ((go_at_call 35;refine D3.mono ?_;rintro e w6 ⟨rfl,k6⟩))
   have HT6:=HT5.out w6 k6;have HT6' : Hid _:=HT6
   first | exact ⟨⟨n+1,sp', so', sc', L', by omega,by go_num,HT6,HM⟩,by simp [intOf];omega⟩ | (go_roundw;case rel=>first | exact ⟨n+1,sp', so', sc', L', by omega,by go_num,HT6,HM⟩ | ((repeat apply Exists.intro);exact ⟨⟨n+1,sp', so', sc', L', by omega,by go_num,HT6,HM⟩,rfl⟩);case measure=>first | (simp [intOf];done) | (simp [intOf];omega))
  ·have i4:¬ (n:Int)<(xs.length:Int):=by omega
   have T1:Hid (TwY w wz y m sp so sc L [] (.slice none 0 0) []):=hT;have HMS:Hid (V9 xs L):=by have q:=hM.out;rw [show n=xs.length by omega,List.take_length] at q;exact q
   clear hT HX hM
   go_wp2_with fail
   go_loopw [12] (λ i wr=>∃ (n:Nat) (sp:Option Addr) (R:List Ru) (lv:Value) (vs:List Value),n<=l.length∧i=.int .i64 (n:Int)∧Hid (TwY w wr y m sp so sc L R lv vs)∧Hid (V8 L (l.take n) R)) (λ i _=>l.length-(intOf i).toNat)
   case atStart=>exact ⟨0,sp,[],_,_,Nat.zero_le _,rfl,T1,V8.nil⟩
   case round=>
    clear T1;obtain ⟨k,sp2,R,lv,vs,hk,rfl,hT,hM⟩:=hrel;obtain ⟨wy,rfl⟩:∃ wy,wy=wr:=⟨_,rfl⟩
    by_cases hlt2:k<l.length
    ·obtain ⟨lb,loff,rfl,_,_⟩:=(HL.out wy hT.out.same).get hlt2
     have hj1:IntKind.i64.wrap ((k:Int)+1)=(k:Int)+1:=Zcv (by omega) (by omega);have i1:(0:Int)<=(k:Int):=by omega
     have i2:(k:Int)+1<=(lc:Int):=by omega
     have i3:(k:Int)<=(k:Int)+1:=by omega
     have i5:(k:Int)<(l.length:Int):=by omega
     have hcj:¬ lc=k:=by omega
     have hR100:=hT.out.sy.g.le;have CA:Hid (Calls prog 21 #[.pointer (some ⟨y,0,none⟩),.slice (some ⟨lb,loff+k * 2,none⟩) 1 (lc-k)] wy λ e w' => ∃ ws v,e=.returned v∧Zmk L R [l[k]] R.length y wy ws v w'):=Zgu (l:=[l[k]]) (HE.out wy hT.out.same) hT.out.sy (by omega) (Zi4 (HL.out wy hT.out.same) hlt2) (by simp) (by simp;omega)
     have CB:Hid (∀ w1,Zc (λ q=>q=y) wy w1->Calls prog 26 #[.pointer (some ⟨m,0,none⟩),.slice (some ⟨lb,loff+k * 2,none⟩) 1 (lc-k)] w1 (Zsk m so sc R.length L R [l[k]] w1)):=λ w1 hk=>by
      obtain ⟨q1,q2⟩:=hT.out.ryAt hk;exact Zp4 (l:=[l[k]]) q1 (by omega) (Zi4 (HL.out w1 q2) hlt2) (by simp) (λ e=>by cases e)
     have HN:Hid (∀ ws R', Zcw L R [l[k]] ws->(ws=[]->R' = R ++ [l[k]])->(ws≠[]->R' = R)->V8 L (l.take (k+1)) R'):=λ ws R' a b c=>hM.out.step hlt2 a b c;have D1:=CA.out;generalize l[k]=x at *;clear CA hM
     go_upto_region 17 with ((go_at_call 21;refine D1.mono ?_;rintro e w4 ⟨ws,v,rfl,h4⟩))
     have D2:=CB.out w4 h4.2.2.2;have H4:Hid (Zmk L R [x] R.length y wy ws v w4):=h4;clear D1 CB h4
     go_upto_region 18 with ((go_at_call 26;refine D2.mono ?_;rintro e w5 h5;obtain ⟨v5,rfl,f5,g5,len5,sp', R', lv', vs', hT', e51,e52,e53⟩:=hT.out.rule H4.out h5))
     have HM:Hid (V8 L (l.take (k+1)) R'):=HN.out _ _ e53 e51 e52;clear HN e51 e52 e53;have D3:=Ze3 f5 g5 (by omega);have HT5:Hid (∀ ww,Za w5 ww->TwY w ww y m sp' so sc L R' lv' vs'):=λ ww hk=>hT'.same' hk;clear D2 H4 h5 hT' f5 g5 hT
     go_wp2_with ((go_at_call 35;refine D3.mono ?_;rintro e w6 ⟨rfl,k6⟩))
     have HT6:=HT5.out w6 k6
     first | exact ⟨⟨k+1,sp', R', lv', vs', by omega,by go_num,HT6,HM⟩,by simp [intOf];omega⟩ | (go_roundw;case rel=>first | exact ⟨k+1,sp', R', lv', vs', by omega,by go_num,HT6,HM⟩ | ((repeat apply Exists.intro);exact ⟨⟨k+1,sp', R', lv', vs', by omega,by go_num,HT6,HM⟩,rfl⟩);case measure=>first | (simp [intOf];done) | (simp [intOf];omega))
    ·have i5:¬ (k:Int)<(l.length:Int):=by omega
     have HMR:Hid (V8 L l R):=by have q:=hM.out;rw [show k=l.length by omega,List.take_length] at q;exact q
     clear hM
     go_wp2_with fail
     go_ret2
     first
      | exact ⟨y,m,sp2,so,sc,L,R,lv,vs,rfl,hT.out,HMS.out,HMR.out⟩
      | exact ⟨y,m,sp2,so,sc,L,R,lv,vs,rfl,hT.out.same' (Zc.drewN (Zc.refl _ _) _),HMS.out,HMR.out⟩
theorem yn18 (b:Nat) (w:World):(binOp .neq 24 (.pointer (some ⟨b,0,none⟩)) (.pointer none)).run prog w=.ok (.bool true) w:=by kernel_rfl
theorem rn18 (b:Nat) (w:World):(binOp .neq 27 (.pointer (some ⟨b,0,none⟩)) (.pointer none)).run prog w=.ok (.bool true) w:=by kernel_rfl
theorem Zpo (hE:ErrT w) (hx:Xw w ao xs.length xs) (hm:xs.length<=maxLen) (hcap:xs.length<=cap) (hl:Vh w lo l) (hll:l.length<=140737488355328) (hlc:l.length<=lc) :
  Calls prog 58 #[.slice ao xs.length cap,.slice lo l.length lc] w λ e w' => ∃ y m sp so sc L R lv vs,e=.returned (.tuple #[.pointer (some ⟨y,0,none⟩),.pointer (some ⟨m,0,none⟩),.bool true])∧TwY w w' y m sp so sc L R lv vs∧V9 xs L∧V8 L l R:=by
 have h1:=yn18;have h2:=rn18;have C:=Zpn (cap:=cap) (lc:=lc) hE hx hm hcap hl hll hlc;clear hE hx hl
 go_enter func58,ntmps58
 go_wp2_with ((go_at_call 101;refine C.mono ?_;rintro e w1 ⟨y,m,sp,so,sc,L,R,lv,vs,rfl,hT,hS,hR⟩))
 exact bodyPost_ret (v:=.tuple #[.pointer (some ⟨y,0,none⟩),.pointer (some ⟨m,0,none⟩),.bool true]) (by simp [results,results58,go_sem]) rfl ⟨y,m,sp,so,sc,L,R,lv,vs,rfl,hT,hS,hR⟩
def Zkh (t:List Int):List Int->Nat->Bool
 | [],_=>true
 | x :: xs,a=>if x<0 then true else (t[a]? == some x) && Zkh t xs (a+1)
theorem Zs3 (h:i<left.length):Zkh t (left.drop i) (a+i)=if left[i]<0 then true else (t[a+i]? == some left[i]) && Zkh t (left.drop (i+1)) (a+(i+1)):=by
 rw [List.drop_eq_getElem_cons h,Zkh];rfl
theorem Zp5 {sv rv:Value} {ti:Option Addr} (hb:w.heap[b]? = some (.cells #[sv,rv,.slice ti t.length tc] 212 (0,0))) (ht:Zh w ti t) (hl:Zh w lo left) (a:Nat) (ha:a+left.length<4611686018427387904)
  (hin:∀ i (h:i<left.length),(∀ j (hj:j<i),0<=left[j]'(by omega)∧t[a+j]? = some (left[j]'(by omega)))->0<=left[i]->a+i<t.length) :
  Calls prog 198 #[.pointer (some ⟨b,0,none⟩),.slice lo left.length lc,.int .i64 (a:Int)] w λ e w' => e=.returned (.bool (Zkh t left a))∧w' = w:=by
 have c2:=Zb hb 2;simp only [List.getElem?_toArray,List.getElem?_cons_zero,List.getElem?_cons_succ] at c2;clear hb
 go_enter func198,ntmps198
 go_wp2_with fail
 go_loopw [11] (λ s wr=>∃ i:Nat,i<=left.length∧s=.int .i64 (i:Int)∧wr=w∧Hid (Zkh t left a=Zkh t (left.drop i) (a+i)∧∀ j (hj:j<i) (h:j<left.length),0<=left[j]∧t[a+j]? = some left[j])) (λ s _=>left.length-(intOf s).toNat)
 case atStart=>exact ⟨0,Nat.zero_le _,rfl,rfl,by simp,λ j hj=>absurd hj (by omega)⟩
 case round=>
  obtain ⟨i,hi,rfl,hw,hI⟩:=hrel;subst hw
  by_cases hlt:i<left.length
  ·obtain ⟨lb,loff,rfl,_,hc⟩:=hl.get hlt
   have i1:(0:Int)<=(i:Int):=by omega
   have i2:(i:Int)<(left.length:Int):=by omega
   have hl3:IntKind.i64.wrap ((i:Int)+1)=(i:Int)+1:=Zcv (by omega) (by omega);have hd:=Zs3 (t:=t) (a:=a) hlt
   by_cases hneg:left[i]<0
   ·have HB:Hid (Zkh t left a=true):=by show _=_;rw [hI.out.1,hd,if_pos hneg]
    clear hd hI hin;generalize left[i]=x at *
    go_wp2_with fail
    go_ret;exact ⟨by rw [HB.out];rfl,rfl⟩
   ·have hat:=hin i hlt (λ j hj=>hI.out.2 j hj (by omega)) (by omega)
    obtain ⟨tb,toff,rfl,_,hct⟩:=ht.get hat;have j1:(0:Int)<=(a:Int)+(i:Int):=by omega
    have j2:(a:Int)+(i:Int)<(t.length:Int):=by omega
    have j3:IntKind.i64.wrap ((a:Int)+(i:Int))=(a:Int)+(i:Int):=Zcv (by omega) (by omega);have j4:((a:Int)+(i:Int)).toNat=a+i:=by omega
    by_cases he:t[a+i]=left[i]
    ·have HB:Hid (Zkh t left a=Zkh t (left.drop (i+1)) (a+(i+1))∧∀ j (hj:j<i+1) (h:j<left.length),0<=left[j]∧t[a+j]? = some left[j]):=⟨by rw [hI.out.1,hd,if_neg hneg,List.getElem?_eq_getElem hat,he];simp,λ j hj h=>by
      by_cases q:j=i
      ·subst q;exact ⟨by omega,by rw [List.getElem?_eq_getElem hat,he]⟩
      ·exact hI.out.2 j (by omega) h⟩
     clear hd hI hin;rw [he] at hct;clear he;generalize left[i]=x at *
     go_wp2_with fail
     exact ⟨⟨i+1,by omega,by go_num,by first | trivial | rfl,HB⟩,by simp [intOf];omega⟩
    ·have HB:Hid (Zkh t left a=false):=by show _=_;rw [hI.out.1,hd,if_neg hneg,List.getElem?_eq_getElem hat];simp [he]
     clear hd hI hin;generalize left[i]=x at *;generalize t[a+i]=z at *;have he' : (z != x)=true:=by simpa using he
     go_wp2_with fail
     go_ret;exact ⟨by rw [HB.out];rfl,rfl⟩
  ·have en:i=left.length:=by omega
   subst en;have i2:¬ (left.length:Int)<(left.length:Int):=by omega
   have HB:Hid (Zkh t left a=true):=by show _=_;rw [hI.out.1,List.drop_length,Zkh]
   clear hI hin
   go_wp2_with fail
   go_ret;exact ⟨by rw [HB.out];rfl,rfl⟩
end
structure Found8 (L:List Sym) (U:List Int) (a:Int) (rows:List Rw) (qs:List Nat) (R:Fd):Prop where
 err:R.2.2.2.2=0
 kind:R.1=1∨R.1=2∨R.1=3
 fits:∀ x∈rows,fitX L U x qs=true ↔ (R.1=1∧R.2.1=x.1)
 one:R.1=1->∃ y∈rows,y.1=R.2.1
 dem:R.1=3->∃ q:Nat,∃ h:q<U.length,R.2.2.2.1=a+q∧0<q∧Xe L U[q]=true
theorem vs_le:∀ (t o:List Int),(vs o t).length<=o.length+Zay t
 | [],o=>by simp [vs_nil,Zay]
 | x :: r,o=>by
  have e:vs o (x :: r)=vs (Y1 o x) r:=rfl;have h:=vs_le r (Y1 o x);have hc:Zay (x :: r)=Zay r+if x<0 then 1 else 0:=by simp [Zay,List.countP_cons]
  rw [e,hc]
  by_cases q:isV x=true∧¬ -x∈o
  ·have hx:x<0:=by have:=q.1;simp [isV] at this;omega
   have ev:Y1 o x=o ++ [-x]:=by unfold Y1;rw [if_pos q]
   rw [ev] at h ⊢;rw [if_pos hx];simp at h;omega
  ·have ev:Y1 o x=o:=by unfold Y1;rw [if_neg q]
   rw [ev] at h ⊢;omega
theorem Zsm:∀ (p:List Int) (k:Nat) (ts:List Int) (σ:Tb) (o:List Int),(vs o p).length=o.length+Zay p->(∀ x∈p, -99<=x)->Yk L k p=some 0->Yk L k ts=some 0->(∀ n:Int,n<0->¬ -n∈o->σ (-n).toNat=[])->(mw L p ts σ).isSome=Zh6 L p k ts
 | [],k,ts,σ,o,_,_,h1,_,_=>by
  simp only [Yk,Option.some.injEq] at h1;subst h1;simp [mw,Zh6]
 | n :: r,k,ts,σ,o,hv,hb,h1,h2,hs=>by
  have he:Zon L (n :: r) ts:=⟨k,h1,h2⟩;obtain ⟨x,ts', rfl,_,_⟩:=he.cons;cases k with
  | zero=>simp [Yk] at h1
  | succ k=>
   simp only [Yk] at h1;have e:vs o (n :: r)=vs (Y1 o n) r:=rfl;have hc:Zay (n :: r)=Zay r+if n<0 then 1 else 0:=by simp [Zay,List.countP_cons]
   rw [e,hc] at hv;have hb' : ∀ x∈r, -99<=x:=λ x hx=>hb x (List.mem_cons_of_mem _ hx)
   by_cases hn:0<=n
   ·have ev:Y1 o n=o:=by unfold Y1;rw [if_neg (λ q=>by have:=q.1;simp [isV] at this;omega)]
    rw [ev,if_neg (by omega)] at hv;rw [Zi0 hn,Znb hn]
    by_cases ex:x=n
    ·subst ex
     simp only [Yk] at h2;rw [if_pos rfl,Zsm r _ ts' σ o (by omega) hb' h1 h2 hs];simp
    ·rw [if_neg ex];simp [ex]
   ·have hv99:isV n=true:=by have:=hb n (List.mem_cons_self ..);simp [isV];omega
    rw [if_pos (by omega)] at hv
    have hno:¬ -n∈o:=λ q=>by
     have ev:Y1 o n=o:=by unfold Y1;rw [if_neg (λ z=>z.2 q)]
     rw [ev] at hv;have:=vs_le r o;omega
    have ev:Y1 o n=o ++ [-n]:=by unfold Y1;rw [if_pos ⟨hv99,hno⟩]
    rw [ev] at hv;rw [Zdg hn,Nat.add_zero] at h1;obtain ⟨m,g1,g2,g3⟩:=Zat (a:=1) (b:=k) (ts:=x :: ts') (by rw [Nat.add_comm];exact h2);have hh:(Jc L (x :: ts')).length=m:=by rw [Jc,g1,Option.getD_some,List.length_take];omega
    rw [Znk hn (hs n (by omega) hno),Zwx hn g1,hh]
    exact Zsm r k _ _ (o ++ [-n]) (by simp;omega) hb' h1 g3 (λ z hz hzo=>by
     have hne:z≠n:=λ q=>hzo (by rw [q];simp);rw [Zc9 (by omega)]
     exact hs z hz (λ q=>hzo (List.mem_append_left _ q)))
section
variable {L : List Sym} {R : List Ru} {T : List Int} {a : Nat}
theorem GoodR.lin (h:GoodR L R) (hi:i<R.length):Zay R[i].1=(Zx R[i].1).length:=by
 have:=h.2 i hi 3 (by omega)
 simpa [Kw] using this
theorem Zfy (h:GoodR L R) (hi:i<R.length) (hc:Zd L T=0) (ha:a<T.length):V4 L R[i].1 T (a:Int)=0∧(X9 L R[i].1 T (a:Int)).isSome=Zh6 L R[i].1 1 (Jr L T a):=by
 have hf:=h.facts hi;have h1:=Ze.1 hf.ok.1;have hT:=Ze.1 hc
 have e:V4 L R[i].1 T (a:Int)=0:=by
  unfold V4 Zz;rw [if_neg (by simp [hf.ok.1]),if_neg (by simp [hc]),if_neg (by omega)]
 refine ⟨e,?_⟩;unfold X9;rw [if_pos e,Int.toNat_natCast];have hl:=h.lin hi;exact Zsm _ 1 _ noT [] (by rw [hl];simp [Zx]) (λ x hx=>(Zr.1 h1.2.1 x hx).2) h1.2.2 (Zao hT.2.2 ha) (λ _ _ _=>rfl)
end
theorem Zmd:∀ (p:List Int) (k:Nat) (ts:List Int) (b:Nat),Yk L k p=some 0->(∀ i (h:i<ts.length),T[b+i]? = some ts[i])->Zh6 L p k ts=true->Zkh T p b=true
 | [],_,_,_,_,_,_=>rfl
 | x :: r,0,_,_,h,_,_=>by simp [Yk] at h
 | x :: r,k+1,ts,b,h,hT,hf=>by
  rw [Zkh]
  by_cases hx:x<0
  ·rw [if_pos hx]
  ·rw [if_neg hx]
   match ts with
   | []=>rw [Zh6,if_neg (by omega),if_pos (by omega)] at hf;cases hf
   | y :: ts' =>
    rw [Znb (by omega)] at hf;simp only [Bool.and_eq_true,decide_eq_true_eq] at hf;obtain ⟨rfl,hf⟩:=hf;simp only [Yk] at h;have e0:=hT 0 (by simp);simp only [Nat.add_zero,List.getElem_cons_zero] at e0;rw [e0];simp only [beq_self_eq_true,Bool.true_and];refine Zmd r _ ts' (b+1) h (λ i hi=>?_) hf;have:=hT (i+1) (by simp;omega);simp only [List.getElem_cons_succ] at this;rw [show b+1+i=b+(i+1) by omega];exact this
section
variable {L : List Sym} {R : List Ru} {T : List Int} {a : Nat}
theorem Zxg (hT:IsT L T) (ha:a<T.length) (h:i<(Jr L T a).length):T[a+i]? = some (Jr L T a)[i]:=by
 have hu:=(Zh3 hT ha);have hle:=Xs hT ha;have hlt:a+i<T.length:=by omega
 rw [List.getElem?_eq_getElem hlt,at_sub hT ha h hlt]
theorem beg_in (hT:IsT L T) (ha:a<T.length) (hP:IsT L P):∀ i (h:i<P.length),(∀ j (hj:j<i),0<=P[j]'(by omega)∧T[a+j]? = some (P[j]'(by omega)))->0<=P[i]->a+i<T.length:=by
 intro i hi hall _;have hu:=Zh3 hT ha;have hle:=Xs hT ha;have hs:=Zao hT ha
 by_cases q:i<(Jr L T a).length
 ·omega
 ·exfalso
  have e:P.take (Jr L T a).length=Jr L T a:=by
   apply List.ext_getElem
   ·rw [List.length_take];omega
   ·intro j h1 h2
    rw [List.getElem_take];have h3:=(hall j (by omega)).2;rw [Zxg hT ha h2] at h3;exact (Option.some.inj h3).symm
  have hP' : Yk L 1 (P.take (Jr L T a).length++P.drop (Jr L T a).length)=some 0:=by rw [List.take_append_drop];exact hP
  rw [Y8,e,show Yk L 1 (Jr L T a)=some 0 from hs,Option.bind_some] at hP';cases hd:P.drop (Jr L T a).length with
  | nil=>
   have:=congrArg List.length hd;rw [List.length_drop] at this;simp at this;omega
  | cons x r=>rw [hd] at hP'; simp [Yk] at hP'
end
def Zgk (L:List Sym) (T:List Int) (a:Nat) (x:Ru):Bool:=Zh6 L x.1 1 (Jr L T a)
def Vu (L:List Sym) (T:List Int) (a:Nat):Nat->List Ru->Option Nat
 | _,[]=>none
 | k,x :: r=>if Zgk L T a x=true then some k else Vu L T a (k+1) r
def Zp8 (L:List Sym) (R:List Ru) (T:List Int):Nat->Nat->List (Nat × Nat)
 | _,0=>[]
 | a,n+1=>match Vu L T a 0 R with
  | some i=>(a,i) :: Zp8 L R T (a+1) n
  | none=>Zp8 L R T (a+1) n
theorem Zso:Zp8 L R T a (n+1)=(match Vu L T a 0 R with | some i=>[(a,i)] | none=>[])++Zp8 L R T (a+1) n:=by
 rw [Zp8];cases Vu L T a 0 R <;> rfl
theorem Zc5:∀ (n a:Nat),(Zp8 L R T a n).length<=n
 | 0,_=>Nat.le_refl _
 | n+1,a=>by
  rw [Zp8];split
  ·simp;exact Zc5 n (a+1)
  ·have:=Zc5 n (a+1);omega
theorem Zmo:∀ (n a:Nat) (x:Nat × Nat),x∈Zp8 L R T a n->a<=x.1∧x.1<a+n∧Vu L T x.1 0 R=some x.2
 | 0,_,_,h=>by cases h
 | n+1,a,x,h=>by
  rw [Zso] at h
  rcases List.mem_append.1 h with q | q
  ·split at q
   ·rename_i i hi
    simp only [List.mem_singleton] at q;subst q;exact ⟨Nat.le_refl _,by omega,hi⟩
   ·cases q
  ·obtain ⟨h1,h2,h3⟩:=Zmo n (a+1) x q
   exact ⟨by omega,by omega,h3⟩
section
open Go.RowKit
end
section
open Go.RowKit
attribute [local go_sem ↓] Go.wp_at_zero Go.wp_at_succ
def InsAt (w:World) (io:Option Addr) (I:List I3):Prop:=
 I=[]∨∃ b off,io=some ⟨b,off,none⟩∧b<w.heap.size∧∀ i (h:i<I.length),w.cell? ⟨b,off+i * 3,none⟩=some (.int .i64 I[i].1)∧w.cell? ⟨b,off+i * 3+1,none⟩=some (.int .i64 I[i].2.1)∧w.cell? ⟨b,off+i * 3+2,none⟩=some (.int .i64 I[i].2.2)
def PthAt (w:World) (po:Option Addr) (P:List (List Int)):Prop:=
 P=[]∨∃ b off,po=some ⟨b,off,none⟩∧b<w.heap.size∧∀ i (h:i<P.length),∃ ao ac,w.cell? ⟨b,off+i,none⟩=some (.slice ao P[i].length ac)∧Arg w ao P[i] ac
def PaA (w:World) (ao:Option Addr) (Q:List (Int × List Int)):Prop:=
 Q=[]∨∃ b off,ao=some ⟨b,off,none⟩∧b<w.heap.size∧∀ i (h:i<Q.length),∃ po pc,w.cell? ⟨b,off+i * 2,none⟩=some (.int .i64 Q[i].1)∧w.cell? ⟨b,off+i * 2+1,none⟩=some (.slice po Q[i].2.length pc)∧Zh w po Q[i].2
def RgP (w:World) (ro:Option Addr) (Q:List (List (Int × List Int))):Prop:=
 Q=[]∨∃ b off,ro=some ⟨b,off,none⟩∧b<w.heap.size∧∀ i (h:i<Q.length),∃ po pc,w.cell? ⟨b,off+i,none⟩=some (.slice po Q[i].length pc)∧PaA w po Q[i]
structure CdA (w:World) (io po eo ro:Option Addr) (s:St9) (E:List Int) (Q:List (List (Int × List Int))):Prop where
 ins:InsAt w io s.1
 pth:PthAt w po s.2
 ent:Zh w eo E
 rgt:RgP w ro Q
def PtsF (base:Nat) (w:World) (vs:List Value) (Q:List (Int × List Int)):Prop:=
 vs.length=Q.length * 2∧∀ i (h:i<Q.length),∃ ao ac,vs[i * 2]? = some (.int .i64 Q[i].1)∧vs[i * 2+1]? = some (.slice ao Q[i].2.length ac)∧Js w ao Q[i].2 ac∧∀ a,ao=some a->base<=a.block
def PtV (base:Nat) (w:World) (v:Value) (Q:List (Int × List Int)):Prop:=
 ∃ vs,w.ownsRow base 105 2 v Q.length vs∧PtsF base w vs Q
end
section
open Go.RowKit
theorem Zju {a:Act} (hgd:o.guard=none) (s x:Operand) (t:TypeId)
  (ho:o.op=.call { callee:=.builtin .append,args:=#[s,x],argTypes:=#[t,t] }) (ht:prog.underlying t=some (.slice 3))
  (base:Nat) (xs:List Int) (v:Value) (hs:a.eval s=v) (hr:Row base w0 v xs) (ys:List Int) (ao:Option Addr) (m c:Nat) (hx:a.eval x=.slice ao m c) (hm:m=ys.length) (hy:Zh w0 ao ys) (hnil:ao=none->ys.length=0∧c=0) (hb:base<=w0.heap.size) (hsz:(xs.length+ys.length) * 8<=140737488355328)
  (h:∀ v' w', Row base w' v' (xs++ys)->Zc (λ k=>v.ownBlock=some k) w0 w' -> wpList prog ops Q rest (a.put o.dst v') w') :
  wpList prog ops Q (o :: rest) a w0:=by
 cases ao with
 | none=>
  obtain ⟨h1,rfl⟩:=hnil rfl;have:ys=[]:=List.eq_nil_of_length_eq_zero h1;subst this;subst hm;obtain ⟨i,hi,hz0,hz1,hz2⟩:=info_parts V7;exact wpList_append_own_none hgd s x t ho base 3 i 1 ht hi v xs.length (iv xs) hs hr hx (h v w0 (by simpa using hr) (Zc.refl _ _))
 | some ad=>exact Y7 hgd s x t ho ht base xs v hs hr ys ad m c hx hm hy hb hsz h
end
section
open Go.RowKit
attribute [local go_sem ↓] Go.wp_at_zero Go.wp_at_succ
def Zqw (n:Nat):Prop:=∀ (B:Nat->Prop) (w:World) (v vi vp:Value) (t:Tr n) (s:St9),Lay B w vi vp s->(∀ b,B b->b<w.heap.size)->CsB B w n v t->s.1.length+s.2.length+Zdb n t<=1000000000000 ->
 Calls prog 121 #[v,vi,vp] w λ e w' => ∃ vi' vp', e=.returned (.tuple #[vi', vp'])∧Lay B w' vi' vp' (Jz n t s)∧Zc (λ k=>¬ B k) w w'
theorem Zfk (h:Lay B w vi vp s):∃ io ic vo vc,vi=.slice io s.1.length ic∧vp=.slice vo s.2.length vc:=by
 obtain ⟨io,ic,rfl⟩:=Zf h.ri;obtain ⟨vs,t4,t5⟩:=h.rp;obtain ⟨vo,vc,rfl⟩:=Zf t4;exact ⟨io,ic,vo,vc,rfl,rfl⟩
end
section
open Go.RowKit
structure CoJ (L:List Sym) (R:List Ru) (W2:World) (cb k:Nat) (W:World) (ev vi vp:Value):Prop where
 kp:Zc (λ q=>q=cb) W2 W
 bx:W.heap[cb]? = some (.cells #[.slice none 0 0,.slice none 0 0,ev,.slice none 0 0] 54 (0,0))
 row:Row W2.heap.size W ev (Kr L R k).2
 lay:Lay (EnB W2.heap.size cb ev) W vi vp (Kr L R k).1
end
section
open Go.RowKit
attribute [local go_sem ↓] Go.wp_at_zero Go.wp_at_succ
def RvC (base:Nat) (W:World) (cs:List Value) (Q:List (List (Int × List Int))):Prop:=
 cs.length=Q.length∧∀ i (h:i<Q.length),∃ v,cs[i]? = some v∧PtV base W v Q[i]
structure CoK (W5:World) (cb:Nat) (vi vp ev:Value) (L:List Sym) (R:List Ru) (i:Nat) (W:World) (rv:Value) (cs:List Value):Prop where
 kp:Zc (λ q=>q=cb) W5 W
 bx:W.heap[cb]? = some (.cells #[vi,vp,ev,rv] 54 (0,0))
 row:W.ownsRow W5.heap.size 103 1 rv i cs
 pts:RvC W5.heap.size W cs (Zsn L (R.take i))
end
section
open Go.RowKit
def Wt (W W' : World):Prop:=∀ (q:Nat) (cur:Array Value) (T:TypeId),W.heap[q]? = some (Obj.cells cur T (0,0))->∃ cur', W'.heap[q]? = some (Obj.cells cur' T (0,0))∧cur'.size=cur.size∧((T=51∨T=103∨T=54)->cur' = cur)∧(T=105->∀ k:Nat,cur'[k * 2+1]? = cur[k * 2+1]? ∨ cur'[k * 2+1]? = some (.slice none 0 0))
theorem Wt.trans {W' W'':World} (h:Wt W W') (h' : Wt W' W''):Wt W W'' := λ q cur T hq=>by
 obtain ⟨c1,a1,a2,a3,a4⟩:=h q cur T hq;obtain ⟨c2,b1,b2,b3,b4⟩:=h' q c1 T a1;refine ⟨c2,b1,b2.trans a2,λ e=>(b3 e).trans (a3 e),λ e k=>?_⟩
 rcases b4 e k with x | x
 ·rcases a4 e k with y | y
  ·exact .inl (x.trans y)
  ·exact .inr (x.trans y)
 ·exact .inr x
structure SpK (lo hi:Nat) (W1 W:World):Prop where
 wt:Wt W1 W
 kp:Zc (λ q=>lo<=q∧q<hi) W1 W
def WrI (W:World) (lo hi:Nat) (ao:Option Addr) (n:Nat):Prop:=n=0∨∃ g cur,ao=some ⟨g,0,none⟩∧lo<=g∧g<hi∧W.heap[g]? = some (.cells cur 3 (0,0))∧n<=cur.size
structure CdW (W:World) (lo hi:Nat) (io po eo ro:Option Addr) (I P E R:Nat):Prop where
 ins:I=0∨∃ g cur,io=some ⟨g,0,none⟩∧lo<=g∧g<hi∧W.heap[g]? = some (.cells cur 102 (0,0))∧I * 3<=cur.size
 pth:P=0∨∃ g cur,po=some ⟨g,0,none⟩∧W.heap[g]? = some (.cells cur 51 (0,0))∧∀ i,i<P->∃ qo ql qc,cur[i]? = some (.slice qo ql qc)∧WrI W lo hi qo ql∧ql<=20000000000000
 ent:WrI W lo hi eo E
 rgt:R=0∨∃ g cur,ro=some ⟨g,0,none⟩∧W.heap[g]? = some (.cells cur 103 (0,0))∧∀ i,i<R->∃ h hl hc cu,cur[i]? = some (.slice (some ⟨h,0,none⟩) hl hc)∧lo<=h∧h<hi∧W.heap[h]? = some (.cells cu 105 (0,0))∧hl * 2<=cu.size∧hl<=20000000000000∧∀ k,k<hl->∃ qo ql qc,cu[k * 2+1]? = some (.slice qo ql qc)∧WrI W lo hi qo ql∧ql<=20000000000000
end
section
open Go.RowKit
attribute [local go_sem ↓] Go.wp_at_zero Go.wp_at_succ
end
section
open Go.RowKit
structure CpA (L:List Sym) (R:List Ru) (base:Nat) (W:World) (io po eo ro:Option Addr) (ic pc ec rc:Nat) (cs:List Value):Prop where
 lay:Lay (λ q=>q<base) W (.slice io (Kr L R L.length).1.1.length ic) (.slice po (Kr L R L.length).1.2.length pc) (Kr L R L.length).1
 ent:Row base W (.slice eo (Kr L R L.length).2.length ec) (Kr L R L.length).2
 row:W.ownsRow base 103 1 (.slice ro R.length rc) R.length cs
end
section
open Go.RowKit
attribute [local go_sem ↓] Go.wp_at_zero Go.wp_at_succ
end
section
open Go.RowKit
def OwC (B:Nat->Prop) (w:World) (po:Option Addr) (p:List Int) (pc:Nat) (kv:Value) (n:Nat):Prop:=
 Js w po p pc∧(∀ a,po=some a->B a.block)∧(∃ us,w.ownsRow 0 161 5 kv n us)∧∀ g,kv.ownBlock=some g->B g
def CsO (B:Nat->Prop) (w:World):(n:Nat)->Value->Tr n->Prop
 | 0,_,_=>False
 | n+1,v,(k,r,p,l)=>∃ po pc ko kc,v=.agg #[.int .i64 k,.int .i64 r,.slice po p.length pc,.slice ko l.length kc]∧OwC B w po p pc (.slice ko l.length kc) l.length∧(ko=none->kc=0)∧l.length<=kc ∧
   (l=[]∨∃ (g:Nat) (β:Nat->Nat),ko=some ⟨g,0,none⟩∧B g∧g<w.heap.size∧(∀ i,β i<=β (i+1))∧∀ i (h:i<l.length),∃ c0 c1 c2 c3,w.cell? ⟨g,i * 5,none⟩=some (.int .i64 l[i].1)∧w.cell? ⟨g,i * 5+1,none⟩=some c0∧w.cell? ⟨g,i * 5+2,none⟩=some c1∧w.cell? ⟨g,i * 5+3,none⟩=some c2∧w.cell? ⟨g,i * 5+4,none⟩=some c3∧CsO (λ b=>(B b∧b≠g∧∀ a,po=some a->a.block≠b)∧β i<=b∧b<β (i+1)) w n (.agg #[c0,c1,c2,c3]) l[i].2)
theorem OwC.mono {po:Option Addr} {pc:Nat} {kv:Value} (h:OwC B w po p pc kv n) (hB:∀ b,b<w.heap.size->B b->B' b):OwC B' w po p pc kv n:=by
 obtain ⟨h1,h2,⟨us,h3⟩,h4⟩:=h;refine ⟨h1,λ a e=>?_,⟨us,h3⟩,λ g e=>hB g (h3.lt g e).2 (h4 g e)⟩;obtain ⟨cur,hc⟩:=h1.2 a e;exact hB _ (Zi hc) (h2 a e)
theorem CsO.mono:∀ {n:Nat} {B B' : Nat->Prop} (hB:∀ b,b<w.heap.size->B b->B' b) {v:Value} {t:Tr n},CsO B w n v t->CsO B' w n v t
 | 0,_,_,_,_,_,h=>h
 | n+1,B,B', hB,v,(k,r,p,l),h=>by
  obtain ⟨po,pc,ko,kc,h1,h2,h4,h5,h6⟩:=h;refine ⟨po,pc,ko,kc,h1,h2.mono hB,h4,h5,h6.imp id ?_⟩;rintro ⟨b,β,e,hb,hl,hm,hc⟩;refine ⟨b,β,e,hB b hl hb,hl,hm,λ i hi=>?_⟩;obtain ⟨c0,c1,c2,c3,q0,q1,q2,q3,q4,q5⟩:=hc i hi;exact ⟨c0,c1,c2,c3,q0,q1,q2,q3,q4,CsO.mono (λ b' hb' q=>⟨⟨hB b' hb' q.1.1,q.1.2⟩,q.2⟩) q5⟩
def Zx1 (B:Nat->Prop) (w:World) (n:Nat) (us:List Value) (l:List (Int × Tr n)):Prop:=
 us.length=l.length * 5∧∃ β:Nat->Nat,(∀ i,β i<=β (i+1))∧∀ i (h:i<l.length),∃ c0 c1 c2 c3,us[i * 5]? = some (.int .i64 l[i].1)∧us[i * 5+1]? = some c0∧us[i * 5+2]? = some c1∧us[i * 5+3]? = some c2∧us[i * 5+4]? = some c3∧CsO (λ b=>B b∧β i<=b∧b<β (i+1)) w n (.agg #[c0,c1,c2,c3]) l[i].2
theorem Zx1.mono {us:List Value} {l:List (Int × Tr n)} (h:Zx1 B w n us l) (hB:∀ b,b<w.heap.size->B b->B' b):Zx1 B' w n us l:=by
 obtain ⟨h1,β,h2,h3⟩:=h;refine ⟨h1,β,h2,λ i hi=>?_⟩;obtain ⟨c0,c1,c2,c3,q0,q1,q2,q3,q4,q5⟩:=h3 i hi;exact ⟨c0,c1,c2,c3,q0,q1,q2,q3,q4,CsO.mono (λ b hb q=>⟨hB b hb q.1,q.2⟩) q5⟩
end
section
open Go.RowKit
attribute [local go_sem ↓] Go.wp_at_zero Go.wp_at_succ
def IW8 (w:World) (xo:Option Addr) (n xc:Nat):Prop:=(xo=none∧n=0∧xc=0)∨∃ b cur,xo=some ⟨b,0,none⟩∧w.heap[b]? = some (.cells cur 3 (0,0))∧cur.size=xc∧n<=xc∧xc<=maxLen∧n * 8<=140737488351232
def KW8 (w:World) (xo:Option Addr) (n xc:Nat):Prop:=(xo=none∧n=0∧xc=0)∨∃ b cur,xo=some ⟨b,0,none⟩∧w.heap[b]? = some (.cells cur 161 (0,0))∧cur.size=xc * 5∧n<=xc∧xc<=maxLen∧n<=1000000000
structure SpJ (B:Nat->Prop) (w wr:World) (n:Nat) (po:Option Addr) (pl pc:Nat) (ko:Option Addr) (kc:Nat) (l:List (Int × Tr n)) (j:Nat):Prop where
 k:Zc B w wr
 i:IW8 wr po pl pc
 kw:KW8 wr ko l.length kc
 kid:l=[]∨∃ (g:Nat) (β:Nat->Nat),ko=some ⟨g,0,none⟩∧B g∧g<wr.heap.size∧(∀ i,β i<=β (i+1))∧∀ i (h:i<l.length),j<=i->∃ c0 c1 c2 c3,wr.cell? ⟨g,i * 5+1,none⟩=some c0∧wr.cell? ⟨g,i * 5+2,none⟩=some c1∧wr.cell? ⟨g,i * 5+3,none⟩=some c2∧wr.cell? ⟨g,i * 5+4,none⟩=some c3∧CsO (λ b=>(B b∧b≠g∧∀ a,po=some a->a.block≠b)∧β i<=b∧b<β (i+1)) wr n (.agg #[c0,c1,c2,c3]) l[i].2
end
section
open Go.RowKit
theorem Zos {a:Nat} {σ:Tb} (hE:V4 L p T (a:Int)=0) (hS:X9 L p T (a:Int)=some σ):mw L p (Jr L T a) noT=some σ∧Yw L p T (a:Int)=blN σ 100:=by
 refine ⟨?_,by rw [Yw,hS]⟩;rw [X9,if_pos hE] at hS
 simpa using hS
theorem Zks {r:List Int} {σ:Tb} (hp:Zd L p=0) (hr:Zd L r=0) (hT:Zd L T=0) (ha:a<T.length) (hm:mw L p (Jr L T a) noT=some σ) :
  Yq L r (blN σ 100)=(if 2000<(Vo σ r).length then 20 else 0)∧(¬ 2000<(Vo σ r).length->Xo L r (blN σ 100)=Vo σ r)∧∀ x∈blN σ 100,x.2.length<=2000:=by
 obtain ⟨p1,p2,p3⟩:=Ze.1 hp;obtain ⟨t1,t2,t3⟩:=Ze.1 hT;have hse:=Zh3 t3 ha;have hev:=Zjm p3 (Zao t3 ha)
 have hb:Ks L (Jr L T a)=0:=by
  rw [Zr] at t2 ⊢;exact λ x hx=>t2 x (List.mem_of_mem_take (List.mem_of_mem_drop hx))
 obtain ⟨f1,f2⟩:=Zu2 (λ x hx=>(Zr.1 p2 x hx).2) hev hb (by omega) hm
 have e:Yq L r (blN σ 100)=(if 2000<(Vo σ r).length then 20 else 0):=by
  unfold Yq;rw [if_neg (by simp [hr]),f1]
 refine ⟨e,λ h=>?_,λ x hx=>?_⟩
 ·unfold Xo
  rw [e,if_neg h,if_pos rfl,f1]
 ·obtain ⟨y,_,rfl,hy⟩:=Zyl hx
  have:=Ztw hev hb (by omega) hm (λ v h=>absurd rfl h) y hy;exact (Ze.1 this).1
theorem Zgn (hs:Sg w.heap.size w bs L) (hP:Yu w g c P) (hz:Zd L P=0) (hT:Arg w tto T tc) (htm:T.length<=maxLen) {a:Nat} (hE:V4 L P T (a:Int)=0) :
  Calls prog 110 #[.pointer (some ⟨bs,0,none⟩),.slice (some ⟨g,0,none⟩) P.length c,.slice tto T.length tc,.int .i64 (a:Int)] w λ e w' => ∃ bo bc,e=.returned (.tuple #[.slice bo (Yw L P T (a:Int)).length bc,.bool (X9 L P T (a:Int)).isSome,.int .i64 0])∧Hid (Jd w' bo (Yw L P T (a:Int)))∧Za w w' := by
 have h200:=(Ze.1 hz).1;have hA:=hP.arg h200;refine (Zro hs (Nat.le_refl _) (pcap:=c) hA.at' (by unfold maxLen;omega) hT.at' htm hT.cap' (a:Int)).mono ?_;rintro e w' ⟨v,l,rfl,hB,h2⟩;obtain ⟨bo,bc,rfl,hBA,_⟩:=hB.at';rw [hE];exact ⟨bo,bc,rfl,hBA,h2⟩
theorem Zpp (hs:Sg w.heap.size w bs L) {G:List Int} (hG:Yu w g c G) (hz:Zd L G=0) {bo:Option Addr} {B:List Bd} (hB:Jd w bo B) (hl:B.length<=100) (hx:∀ x∈B,x.2.length<=2000) (bc:Nat) :
  Calls prog 111 #[.pointer (some ⟨bs,0,none⟩),.slice (some ⟨g,0,none⟩) G.length c,.slice bo B.length bc] w λ e w' => ∃ ao ac,e=.returned (.tuple #[.slice ao (Xo L G B).length ac,.int .i64 (Yq L G B)])∧Hid (Zh w' ao (Xo L G B))∧Za w w' := by
 have h200:=(Ze.1 hz).1;have hA:=hG.arg h200;refine (Zqv (cap:=c) (lcap:=bc) hs hA.at' (by unfold maxLen;omega) hB (by unfold maxLen;omega) (λ x h=>by have:=hx x h;unfold maxLen;omega)).mono ?_;rintro e w' ⟨v,rfl,hr,hk⟩;obtain ⟨ao,ac,rfl,i1,_⟩:=hr.ints;exact ⟨ao,ac,rfl,i1,hk⟩
end
section
open Go.RowKit
attribute [local go_sem ↓] Go.wp_at_zero Go.wp_at_succ
structure Zcu (w:World) (b:Nat) (bs:Nat) (ro:Option Addr) (rc:Nat) (tto:Option Addr) (tc:Nat) (L:List Sym) (R:List Ru) (T:List Int):Prop where
 blk:w.heap[b]? = some (.cells #[.pointer (some ⟨bs,0,none⟩),.slice ro R.length rc,.slice tto T.length tc] 212 (0,0))
 sig:Sg w.heap.size w bs L
 rs:Zw4 w ro R
 tm:Arg w tto T tc
 good:GoodR L R
 ok:Zd L T=0
 cl:∀ x∈T,0<=x
theorem Zcu.same {rc:Nat} (h:Zcu w b bs ro rc tto tc L R T) (hk:Za w w'):Zcu w' b bs ro rc tto tc L R T:=
 ⟨hk.at0 h.blk,Zbs (h.sig.same hk) hk.size,h.rs.same hk,h.tm.same hk,h.good,h.ok,h.cl⟩
theorem Zpw {rc:Nat} (h:Zcu w b bs ro rc tto tc L R T) (hi:i<R.length) (t1:Yu w g c R[i].1) (n:Int) (ha:a<T.length) :
  Calls prog 148 #[.pointer (some ⟨b,0,none⟩),.agg #[.slice (some ⟨g,0,none⟩) R[i].1.length c,.slice (some ⟨g', 0,none⟩) R[i].2.length c', .int .i64 n],.int .i64 (a:Int)] w λ e w' => e=.returned (.bool (Zgk L T a R[i]))∧Za w w' := by
 have hf:=(h.good.facts hi).ok.1;have hP:=(Ze.1 hf);have hT:=(Ze.1 h.ok);obtain ⟨hE,hS⟩:=Zfy h.good hi h.ok ha;obtain ⟨W1,hW1⟩:∃ W1,W1=w.alloc (.cells #[.slice (some ⟨g,0,none⟩) R[i].1.length c,.slice (some ⟨g', 0,none⟩) R[i].2.length c', .int .i64 n] 144):=⟨_,rfl⟩;have KW:Za w W1:=by rw [hW1];exact Zal9
 have bx:W1.heap[w.heap.size]? = some (.cells #[.slice (some ⟨g,0,none⟩) R[i].1.length c,.slice (some ⟨g', 0,none⟩) R[i].2.length c', .int .i64 n] 144 (0,0)):=by rw [hW1];exact heap_alloc_new _ _
 have x0:=Zb bx 0;simp only [List.getElem?_toArray,List.getElem?_cons_zero] at x0;have CB:=Zp5 (hb:=(h.same KW).blk) (ht:=(h.same KW).tm.at') (left:=R[i].1) (lc:=c) (hl:=((t1.same KW).arg hP.1).at') a (by have:=hP.1;have:=hT.1;omega) (beg_in hT.2.2 ha hP.2.2);have KD:Za W1 W1.drew:=Zc.drew (Zc.refl _ _)
 have CK:Hid (∀ ww,Za W1.drew ww->ww.cell? ⟨b,0,none⟩=some (.pointer (some ⟨bs,0,none⟩))∧ww.cell? ⟨b,2,none⟩=some (.slice tto T.length tc)∧ww.cell? ⟨w.heap.size,0,none⟩=some (.slice (some ⟨g,0,none⟩) R[i].1.length c)):=λ ww hk=>by
  have h2:=(h.same ((KW.trans' KD).trans' hk)).blk;exact ⟨Zb h2 0,Zb h2 2,Zb ((KD.trans' hk).at0 bx) 0⟩
 have hD:=h.same (KW.trans' KD);have CM:=Zgn (w:=W1.drew) hD.sig (t1.same (KW.trans' KD)) hf hD.tm (by unfold maxLen;omega) hE;rw [hS] at CM
 have HB:Hid (Zkh T R[i].1 a=false->Zgk L T a R[i]=false):=λ hb=>by
  show Zh6 L R[i].1 1 (Jr L T a)=false;cases hq:Zh6 L R[i].1 1 (Jr L T a) with
  | false=>rfl
  | true=>
   have:=Zmd _ 1 _ a hP.2.2 (λ j hj=>Zxg hT.2.2 ha hj) hq;rw [hb] at this;cases this
 have KW2:Hid (Za w W1):=KW;have KD2:Hid (Za w W1.drew):=KW.trans' KD;clear h hf hP hT hE hS hD bx KW KD t1;cases hb:Zkh T R[i].1 a with
 | false=>
  have HB2:Hid (Zgk L T a R[i]=false):=HB.out hb;rw [hb] at CB;clear HB hb CM CK;generalize R[i].1.length=N at *;generalize R[i].2.length=M at *;generalize R[i]=ri at *
  go_enter func148,ntmps148
  go_upto_region 1 with fail
  rw [<- hW1];clear hW1
  go_wp2_with ((go_at_call 198;refine CB.mono ?_;rintro e w2 ⟨rfl,hw2⟩;have hw2:=hw2.symm;subst hw2))
  go_ret;exact ⟨by rw [HB2.out];rfl,KW2.out⟩
 | true=>
  rw [hb] at CB;clear HB hb;have HF:∀ q,Zgk L T a R[i]=q->Hid (Zgk L T a R[i]=q):=λ q h=>h;have HF2:=HF _ rfl;unfold Zgk at HF HF2 ⊢;generalize Zh6 L R[i].1 1 (Jr L T a)=fq at *;generalize Yw L R[i].1 T (a:Int)=MB at *;clear HF HF2;generalize R[i].1.length=N at *;generalize R[i].2.length=M at *
  go_enter func148,ntmps148
  go_upto_region 1 with fail
  rw [<- hW1];clear hW1
  go_upto_region 3 with ((go_at_call 198;refine CB.mono ?_;rintro e w2 ⟨rfl,hw2⟩;have hw2:=hw2.symm;subst hw2))
  have cc0:=CK.out W1.drew (Zc.refl _ _)
  go_region_held3 (λ ww=>ww.cell? ⟨b,0,none⟩=some (.pointer (some ⟨bs,0,none⟩))∧ww.cell? ⟨b,2,none⟩=some (.slice tto T.length tc)∧ww.cell? ⟨w.heap.size,0,none⟩=some (.slice (some ⟨g,0,none⟩) N c)) (with_reducible first | exact cc0 | exact cc1) (first
   | (go_at_call 110;refine CM.mono ?_;rintro e w3 ⟨bo,bc,rfl,_,k3⟩;have cc1:=CK.out w3 k3))
  all_goals
   go_wp2;go_ret;exact ⟨by first | rfl | simp,KD2.out.trans' (by assumption)⟩
theorem Zet:∀ {R:List Ru} (k0 k:Nat) (hk:k<R.length),Zgk L T a R[k]=true->(∀ j (h:j<k),Zgk L T a (R[j]'(by omega))=false)->Vu L T a k0 R=some (k0+k)
 | [],_,_,hk,_,_=>absurd hk (by simp)
 | x :: r,k0,0,_,h,_=>by
  rw [Vu,if_pos (by simpa using h)];rfl
 | x :: r,k0,k+1,hk,h,hn=>by
  have h0:=hn 0 (by omega);simp only [List.getElem_cons_zero] at h0;rw [Vu,if_neg (by rw [h0];simp),Zet (k0+1) k (by simpa using hk) (by simpa using h) (λ j hj=>by have:=hn (j+1) (by omega);simpa using this)];congr 1;omega
theorem Zgi:∀ {R:List Ru} (k0:Nat),(∀ j (h:j<R.length),Zgk L T a R[j]=false)->Vu L T a k0 R=none
 | [],_,_=>rfl
 | x :: r,k0,hn=>by
  have h0:=hn 0 (by simp);simp only [List.getElem_cons_zero] at h0;rw [Vu,if_neg (by rw [h0];simp),Zgi (k0+1) (λ j hj=>by have:=hn (j+1) (by simpa using hj);simpa using this)]
def Zsa (L:List Sym) (R:List Ru) (T:List Int) (a:Nat) (w:World) (e:Ending) (w' : World):Prop:=
 Za w w' ∧ ((∃ i,∃ hi:i<R.length,Vu L T a 0 R=some i∧Zgk L T a R[i]=true∧∃ g c g' c', e=.returned (.tuple #[.agg #[.slice (some ⟨g,0,none⟩) R[i].1.length c,.slice (some ⟨g', 0,none⟩) R[i].2.length c', .int .i64 (i:Int)],.bool true])∧Yu w' g c R[i].1∧Yu w' g' c' R[i].2) ∨
  (Vu L T a 0 R=none∧e=.returned (.tuple #[.agg #[.slice none 0 0,.slice none 0 0,.int .i64 0],.bool false])))
theorem Zst (w:World) (ro:Option Addr) (n c:Nat) :
  Calls prog 146 #[.slice ro n c] w λ e w' => e=.returned (.func (.func 197) #[] #[.pointer (some ⟨w.heap.size,0,none⟩)])∧w' = w.alloc (.cells #[.slice ro n c] 210):=by
 go_enter func146,ntmps146
 go_wp2;go_ret;exact ⟨rfl,rfl⟩
theorem Zlq {rc:Nat} (h:Zcu w b bs ro rc tto tc L R T) {ab:Nat} {a:Nat} (hc:w.cell? ⟨cb,0,none⟩=some (.pointer (some ⟨b,0,none⟩))) (hab:w.cell? ⟨ab,0,none⟩=some (.int .i64 (a:Int))) (ha:a<T.length) (hk:k<R.length) (t1:Yu w g c R[k].1) (n:Int) :
  Calls prog 147 #[.agg #[.slice (some ⟨g,0,none⟩) R[k].1.length c,.slice (some ⟨g', 0,none⟩) R[k].2.length c', .int .i64 n],.pointer (some ⟨cb,0,none⟩),.pointer (some ⟨ab,0,none⟩)] w λ e w' => e=.returned (.bool (Zgk L T a R[k]))∧Za w w' := by
 obtain ⟨W1,hW1⟩:∃ W1,W1=w.alloc (.cells #[.slice (some ⟨g,0,none⟩) R[k].1.length c,.slice (some ⟨g', 0,none⟩) R[k].2.length c', .int .i64 n] 144):=⟨_,rfl⟩;have KW:Za w W1:=by rw [hW1];exact Zal9
 have bx:W1.heap[w.heap.size]? = some (.cells #[.slice (some ⟨g,0,none⟩) R[k].1.length c,.slice (some ⟨g', 0,none⟩) R[k].2.length c', .int .i64 n] 144 (0,0)):=by rw [hW1];exact heap_alloc_new _ _
 have x0:=Zb bx 0;have x1:=Zb bx 1;have x2:=Zb bx 2;have c0:=(KW.cell (p:=⟨cb,0,none⟩) (World.block_lt_of_cell? _ _ hc) (λ f=>f)).trans hc;have c1:=(KW.cell (p:=⟨ab,0,none⟩) (World.block_lt_of_cell? _ _ hab) (λ f=>f)).trans hab;simp only [List.getElem?_toArray,List.getElem?_cons_zero,List.getElem?_cons_succ] at x0 x1 x2;have C:Calls prog 148 #[.pointer (some ⟨b,0,none⟩),.agg #[.slice (some ⟨g,0,none⟩) R[k].1.length c,.slice (some ⟨g', 0,none⟩) R[k].2.length c', .int .i64 n],.int .i64 (a:Int)] W1 _:=Zpw (h.same KW) hk (t1.same KW) n ha
 have KF:Hid (Za w W1):=KW;clear h hc hab t1 bx KW;generalize R[k].1.length=N at *;generalize R[k].2.length=M at *
 go_enter func147,ntmps147
 go_upto_region 1 with fail
 rw [<- hW1];clear hW1
 go_wp2_with ((go_at_call 148;refine C.mono ?_;rintro e w2 ⟨rfl,k2⟩))
 go_ret;exact ⟨rfl,KF.out.trans' k2⟩
theorem Zgd {rc:Nat} (h:Zcu w b bs ro rc tto tc L R T) (ha:a<T.length) :
  Calls prog 102 #[.pointer (some ⟨b,0,none⟩),.int .i64 (a:Int)] w (Zsa L R T a w):=by
 have hle:=h.good.1;obtain ⟨W1,hW1⟩:∃ W1,W1=((w.alloc (.cells #[.pointer (some ⟨b,0,none⟩)] 142)).alloc (.cells #[.int .i64 (a:Int)] 3)).alloc (.cells #[.slice none 0 0,.slice none 0 0,.int .i64 0] 144):=⟨_,rfl⟩;have KW:Za w W1:=by rw [hW1];exact (((Zc.refl _ w).alloc _).alloc _).alloc _
 have BK:Hid (∀ ww,Za W1 ww->ww.heap[w.heap.size]? = some (.cells #[.pointer (some ⟨b,0,none⟩)] 142 (0,0))∧ww.heap[w.heap.size+1]? = some (.cells #[.int .i64 (a:Int)] 3 (0,0))∧ww.heap[w.heap.size+1+1]? = some (.cells #[.slice none 0 0,.slice none 0 0,.int .i64 0] 144 (0,0))):=λ ww hk=>by
  have k1:Za (w.alloc (.cells #[.pointer (some ⟨b,0,none⟩)] 142)) W1:=by rw [hW1];exact (Zal9).alloc _
  have k2:Za ((w.alloc (.cells #[.pointer (some ⟨b,0,none⟩)] 142)).alloc (.cells #[.int .i64 (a:Int)] 3)) W1:=by rw [hW1];exact Zal9
  refine ⟨hk.at0 (k1.at0 (heap_alloc_new w _)),hk.at0 (k2.at0 (Zo _ _ _)),hk.at0 ?_⟩;have:=Zo (w.alloc (.cells #[.pointer (some ⟨b,0,none⟩)] 142)) (.cells #[.int .i64 (a:Int)] 3) (.cells #[.slice none 0 0,.slice none 0 0,.int .i64 0] 144);simp only [World.size_alloc] at this;rw [hW1];exact this
 obtain ⟨g0,g1,g2⟩:=BK.out W1 (Zc.refl _ _);have y0:=Zb g0 0;have y1:=Zb (h.same KW).blk 1;simp only [List.getElem?_toArray,List.getElem?_cons_zero,List.getElem?_cons_succ] at y0 y1;have CV:=Zst W1 ro R.length rc;obtain ⟨W2,hW2⟩:∃ W2,W2=W1.alloc (.cells #[.slice ro R.length rc] 210):=⟨_,rfl⟩;have K2:Za W1 W2:=by rw [hW2];exact Zal9
 have hB:W2.cell? ⟨W1.heap.size,0,none⟩=some (.slice ro R.length rc):=by rw [hW2];exact Zb (heap_alloc_new _ _) 0
 have hR:=(h.same (KW.trans' K2)).rs
 have CF:=Zpi (ro:=ro) hR hle hB (cb:=w.heap.size) (ab:=w.heap.size+1) (q:=λ j=>if hj:j<R.length then Zgk L T a R[j] else false) (λ k hk ww g c g' c' hs t1 t2=>by
  obtain ⟨q0,q1,_⟩:=BK.out ww (K2.trans' hs);have:=Zlq (h.same ((KW.trans' K2).trans' hs)) (Zb q0 0) (Zb q1 0) ha hk (g' := g') (c' := c') t1 (k:Int)
  simpa only [dif_pos hk] using this)
 have POST:Hid (∀ e w3,(Za W2 w3∧((∃ k,∃ hk:k<R.length,(if hj:k<R.length then Zgk L T a R[k] else false)=true∧(∀ j,j<k->(if hj:j<R.length then Zgk L T a R[j] else false)=false)∧∃ g c g' c', e=.returned (.tuple #[.agg #[.slice (some ⟨g,0,none⟩) R[k].1.length c,.slice (some ⟨g', 0,none⟩) R[k].2.length c', .int .i64 (k:Int)],.bool true])∧Yu w3 g c R[k].1∧Yu w3 g' c' R[k].2)∨((∀ j,j<R.length->(if hj:j<R.length then Zgk L T a R[j] else false)=false)∧e=.returned (.tuple #[.agg #[.slice none 0 0,.slice none 0 0,.int .i64 0],.bool false])))) ->
   ∃ p0 p1 p2 bb,e=.returned (.tuple #[.agg #[p0,p1,p2],.bool bb])∧(∃ o1 n1 c1 o2 n2 c2 m,p0=.slice o1 n1 c1∧p1=.slice o2 n2 c2∧p2=.int .i64 m)∧Hid (Zsa L R T a W2 e w3)):=λ e w3 h3=>by
  obtain ⟨k3,⟨k,hk,h1,h2,g,c,g', c', rfl,t1,t2⟩ | ⟨h1,rfl⟩⟩:=h3
  ·rw [dif_pos hk] at h1
   have hf:Vu L T a 0 R=some k:=by
    have:=Zet 0 k hk h1 (λ j hj=>by have:=h2 j hj;rwa [dif_pos (by omega)] at this)
    rwa [Nat.zero_add] at this
   exact ⟨_,_,_,_,rfl,⟨_,_,_,_,_,_,_,rfl,rfl,rfl⟩,k3,.inl ⟨k,hk,hf,h1,g,c,g', c', rfl,t1,t2⟩⟩
  ·have hf:Vu L T a 0 R=none:=Zgi 0 (λ j hj=>by have:=h1 j hj;rwa [dif_pos hj] at this)
   exact ⟨_,_,_,_,rfl,⟨_,_,_,_,_,_,_,rfl,rfl,rfl⟩,k3,.inr ⟨hf,rfl⟩⟩
 have PUT:Hid (∀ w3 o1 n1 c1 o2 n2 c2 m bb,Za W2 w3->(w3.cell? ⟨w.heap.size+1+1,0,none⟩=some (.slice none 0 0)∧w3.cell? ⟨w.heap.size+1+1,1,none⟩=some (.slice none 0 0)∧w3.cell? ⟨w.heap.size+1+1,2,none⟩=some (.int .i64 0))∧(w3.frozen? ⟨w.heap.size+1+1,0,none⟩=false∧w3.frozen? ⟨w.heap.size+1+1,1,none⟩=false∧w3.frozen? ⟨w.heap.size+1+1,2,none⟩=false)∧∃ Z,Hid (((w3.setCell ⟨w.heap.size+1+1,0,none⟩ (.slice o1 n1 c1)).setCell ⟨w.heap.size+1+1,1,none⟩ (.slice o2 n2 c2)).setCell ⟨w.heap.size+1+1,2,none⟩ (.int .i64 m)=Z)∧Hid ((Z.cell? ⟨w.heap.size+1+1,0,none⟩=some (.slice o1 n1 c1)∧Z.cell? ⟨w.heap.size+1+1,1,none⟩=some (.slice o2 n2 c2)∧Z.cell? ⟨w.heap.size+1+1,2,none⟩=some (.int .i64 m))∧(Zsa L R T a W2 (.returned (.tuple #[.agg #[.slice o1 n1 c1,.slice o2 n2 c2,.int .i64 m],.bool bb])) w3->Zsa L R T a w (.returned (.tuple #[.agg #[.slice o1 n1 c1,.slice o2 n2 c2,.int .i64 m],.bool bb])) Z))):=λ w3 o1 n1 c1 o2 n2 c2 m bb hk=>by
  obtain ⟨_,_,q2⟩:=BK.out w3 (K2.trans' hk);obtain ⟨p1,p2⟩:=Zhz q2 (.slice o1 n1 c1) (.slice o2 n2 c2) (.int .i64 m);refine ⟨⟨Zb q2 0,Zb q2 1,Zb q2 2⟩,⟨Zg q2 0,Zg q2 1,Zg q2 2⟩,_,rfl,⟨Zb p1 0,Zb p1 1,Zb p1 2⟩,λ ⟨k3,hr⟩=>⟨Zc.trans ((KW.trans' K2).trans' hk) p2 (λ i hi e=>by have e' : i=w.heap.size+1+1:=e;omega),?_⟩⟩
  rcases hr with ⟨i,hi,h1,h1', g,c,g', c', h2,t1,t2⟩ | hr
  ·exact .inl ⟨i,hi,h1,h1', g,c,g', c', h2,t1.kept p2 (λ q e cur hc=>by have e' : q=w.heap.size+1+1:=e;rw [e', q2] at hc;cases hc),t2.kept p2 (λ q e cur hc=>by have e' : q=w.heap.size+1+1:=e;rw [e', q2] at hc;cases hc)⟩
  ·exact .inr hr
 clear h hle KW g0 g1 g2 hB hR K2
 go_enter func102,ntmps102
 go_upto_region 1 with fail
 rw [<- hW1];clear hW1
 go_wp2_with (first
  | (go_at_call 146;refine CV.mono ?_;rintro e w2 ⟨rfl,rfl⟩)
  | (go_at_call 145;rw [<- hW2];refine CF.mono ?_;rintro e w3 h3;obtain ⟨p0,p1,p2,bb,rfl,⟨o1,n1,c1,o2,n2,c2,m,rfl,rfl,rfl⟩,hA⟩:=POST.out e w3 h3;have k3:=h3.1;clear h3;obtain ⟨⟨z0,z1,z2⟩,⟨f0,f1,f2⟩,Z,hZ,hZ2⟩:=PUT.out w3 o1 n1 c1 o2 n2 c2 m bb k3))
 rw [hZ.out];exact bodyPost_ret (v:=.tuple #[.agg #[.slice o1 n1 c1,.slice o2 n2 c2,.int .i64 m],.bool bb]) (by simp [results,results102,go_sem,hZ2.out.1.1,hZ2.out.1.2.1,hZ2.out.1.2.2]) rfl (hZ2.out.2 hA.out)
end
section
open Go.RowKit Go.Shelf
attribute [local go_sem] Oper.semAt_some
abbrev Vx (L:List Sym) (R:List Ru) (T:List Int):List (Nat × Nat):=Zp8 L R T 0 T.length
def RxLk (X:List (Nat × Nat)) (k:Nat) (vs:Array Value) (W:World):Prop:=
 ∃ hk:k<X.length,vs = #[.agg #[.int .i64 ((X[k].1:Nat):Int),.int .i64 ((X[k].2:Nat):Int)]]
def Zmn (L:List Sym) (R:List Ru) (T:List Int) (a k:Nat):Prop:=Zp8 L R T a (T.length-a)=(Vx L R T).drop k∧k<=(Vx L R T).length
theorem Zmn.zero (L:List Sym) (R:List Ru) (T:List Int):Zmn L R T 0 0:=⟨by simp,Nat.zero_le _⟩
theorem Zmn.none (h:Zmn L R T a k) (ha:a<T.length) (hr:Vu L T a 0 R=none):Zmn L R T (a+1) k:=by
 obtain ⟨h1,h2⟩:=h;obtain ⟨m,hm⟩:∃ m,T.length-a=m+1:=⟨T.length-a-1,by omega⟩;rw [hm,Zp8,hr] at h1;refine ⟨?_,h2⟩;rw [show T.length-(a+1)=m by omega];exact h1
theorem Zmn.some (h:Zmn L R T a k) (ha:a<T.length) (hr:Vu L T a 0 R=some i):Zmn L R T (a+1) (k+1)∧∃ hk:k<(Vx L R T).length,(Vx L R T)[k]=(a,i):=by
 obtain ⟨h1,h2⟩:=h;obtain ⟨m,hm⟩:∃ m,T.length-a=m+1:=⟨T.length-a-1,by omega⟩;rw [hm,Zp8,hr] at h1
 have hlt:k<(Vx L R T).length:=by
  by_cases q:k<(Vx L R T).length
  ·exact q
  ·rw [List.drop_of_length_le (by omega)] at h1;cases h1
 rw [List.drop_eq_getElem_cons hlt] at h1;simp only [List.cons.injEq] at h1;refine ⟨⟨?_,by omega⟩,hlt,h1.1.symm⟩;rw [show T.length-(a+1)=m by omega];exact h1.2
theorem Zmn.done (h:Zmn L R T T.length k):k=(Vx L R T).length:=by
 obtain ⟨h1,h2⟩:=h;rw [Nat.sub_self,Zp8] at h1;have:=congrArg List.length h1;rw [List.length_drop] at this;simp at this;omega
theorem Zo8 {wx:World} {rc:Nat} (h:Zcu w b bs ro rc tto tc L R T) (hwx:Za w wx) {Bn:Nat} (hbx:w.cell? ⟨Bn,0,none⟩=some (.pointer (some ⟨b,0,none⟩))) (hn:1<=n) :
  Zjg Fence.wide n prog 107 #[.pointer (some ⟨Bn,0,none⟩)] w.heap.size (Vx L R T).length (RxLk (Vx L R T)) wx:=by
 intro l J Z W hW hJ hZ hY h0;have hFn:∀ k,Fence.wide.fn k:=λ _=>trivial;have KW:Za w W:=hwx.trans' hW;have hlen:T.length<=2000:=(Ze.1 h.ok).1;have HS:Hid (∀ X,Za w X->Zcu X b bs ro rc tto tc L R T):=λ X hk=>h.same hk;have HB:Hid (∀ X,Za w X->X.cell? ⟨Bn,0,none⟩=some (.pointer (some ⟨b,0,none⟩))):=λ X hk=>(hk.cell (p:=⟨Bn,0,none⟩) (World.block_lt_of_cell? _ _ hbx) (λ f=>f)).trans hbx;have s1:=HB.out W KW;have s2:=Zb (HS.out W KW).blk 2;simp only [List.getElem?_toArray,List.getElem?_cons_zero,List.getElem?_cons_succ] at s2;clear h hbx;refine callsIn_of_wp func107 rfl trivial ?_ rfl;simp only [ntmps107,List.size_toArray,List.length_cons,List.length_nil,Nat.reduceAdd,Nat.reduceSub,Array.replicate_succ,Array.replicate_zero,List.push_toArray,List.append_toArray,List.nil_append,List.cons_append]
 gi_wp2_with fail
 gi_loopw [11] (λ i wr=>∃ a k:Nat,a<=T.length∧i=.int .i64 a∧Hid (Zmn L R T a k)∧Za w wr∧J k wr) (λ i _=>T.length-(intOf i).toNat)
 case atStart=>exact ⟨0,0,Nat.zero_le _,rfl,Zmn.zero L R T,KW,h0⟩
 case round=>
  clear s1 s2;obtain ⟨a,k,hk,rfl,hat,hs,hj⟩:=hrel
  by_cases hlt:a<T.length
  ·have hcl:=HS.out wr hs
   have r1:=HB.out wr hs;have i1:(0:Int)<=(a:Int):=by omega
   have i2:(a:Int)<(T.length:Int):=by omega
   have C:=(callsIn_wide (n:=n-1)).2 (Zgd hcl hlt);clear hcl;cases hr:Vu L T a 0 R with
   | none=>
    have C2:CallsIn Fence.wide (n-1) prog 102 #[.pointer (some ⟨b,0,none⟩),.int .i64 (a:Int)] wr λ e w' => e=.returned (.tuple #[.agg #[.slice none 0 0,.slice none 0 0,.int .i64 0],.bool false])∧Za wr w' := C.mono (λ e w' hc=>by
     obtain ⟨h1,⟨i,hi,h2,_⟩ | ⟨_,h2⟩⟩:=hc
     ·rw [hr] at h2;cases h2
     ·exact ⟨h2,h1⟩)
    have FIN:Hid (∀ w3 o,Za wr w3->Za w (w3.alloc o)∧J k (w3.alloc o)):=λ w3 o hk3=>by
     have k4:Za wr (w3.alloc o):=hk3.alloc o;exact ⟨hs.trans' k4,hJ k _ _ hj k4⟩
    have hat2:Hid (Zmn L R T (a+1) k):=hat.out.none hlt hr;clear C hr hj
    gi_wp2_with (gi_at_call 102;refine C2.mono ?_;rintro e w3 ⟨rfl,k3⟩;obtain ⟨m1,m2⟩:=FIN.out w3 (.cells #[.slice none 0 0,.slice none 0 0,.int .i64 0] 144) k3)
    go_roundw
    case rel=>exact ⟨a+1,k,by omega,by go_num,hat2,m1,m2⟩
    case measure=>simp [intOf];omega
   | some i=>
    obtain ⟨hat2,hkk,he⟩:=hat.out.some hlt hr;have HAT2:Hid (Zmn L R T (a+1) (k+1)):=hat2
    have C2:CallsIn Fence.wide (n-1) prog 102 #[.pointer (some ⟨b,0,none⟩),.int .i64 (a:Int)] wr λ e w' => ∃ o1 n1 c1 o2 n2 c2,e=.returned (.tuple #[.agg #[.slice o1 n1 c1,.slice o2 n2 c2,.int .i64 (i:Int)],.bool true])∧Za wr w' := C.mono (λ e w' hc=>by
     obtain ⟨h1,⟨i', hi,h2,_,g,c,g', c', h3,_⟩ | ⟨h2,_⟩⟩:=hc
     ·rw [hr] at h2;cases h2
      exact ⟨_,_,_,_,_,_,h3,h1⟩
     ·rw [hr] at h2;cases h2)
    have HY:Hid (∀ w3 o,Za wr w3->YieldAt Fence.wide (n-1) prog l #[.agg #[.int .i64 (a:Int),.int .i64 (i:Int)]] (w3.alloc o) λ e Y=>(e=.returned (.bool true)∧Za w Y∧J (k+1) Y)∨(e=.returned (.bool false)∧Z Y)):=λ w3 o hk3=>by
     have k4:Za wr (w3.alloc o):=hk3.alloc o;obtain ⟨fn,tmps,asg,bdy,hy,hR⟩:=hY k #[.agg #[.int .i64 (a:Int),.int .i64 (i:Int)]] (w3.alloc o) hkk (hJ k _ _ hj k4) ⟨hkk,by rw [he]⟩
     refine ⟨fn,tmps,asg,bdy,hy,hR.mono (λ e Y hp=>?_)⟩
     rcases hp with ⟨h1,h2,h3⟩ | ⟨h1,h2⟩
     ·exact .inl ⟨h1,Za.of_below ((hs.trans' k4).below.trans h3),h2⟩
     ·exact .inr ⟨h1,h2⟩
    clear C hr hat hat2 he hkk hj hs
    gi_wp2_with (gi_at_call 102;refine C2.mono ?_;rintro e w3 ⟨o1,n1,c1,o2,n2,c2,rfl,k3⟩;obtain ⟨fn,tmps,asg,bdy,hy,hR⟩:=HY.out w3 (.cells #[.slice o1 n1 c1,.slice o2 n2 c2,.int .i64 (i:Int)] 144) k3)
    refine hR.mono ?_;rintro e w4 (⟨rfl,hs4,hj4⟩ | ⟨rfl,hz4⟩)
    rotate_left
    ·clear hR hy
     gi_wp2_with fail
     go_returns
     exact ⟨⟨_,rfl⟩,.inr hz4⟩
    clear hR hy
    gi_wp2_with fail
    go_roundw
    case rel=>exact ⟨a+1,k+1,by omega,by go_num,HAT2,hs4,hj4⟩
    case measure=>simp [intOf];omega
  ·obtain rfl:a=T.length:=by omega
   have hk2:=hat.out.done
   gi_wp2_with fail
   go_end0
   exact ⟨⟨_,rfl⟩,.inl (hk2 ▸ hj)⟩
end
end Go.Proofs.YtmjgnfkbnofjoaaGreatDoor
