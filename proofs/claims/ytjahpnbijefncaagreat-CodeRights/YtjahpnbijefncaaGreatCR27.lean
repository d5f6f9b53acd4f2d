import Derived.Test.YtjahpnbijefncaaGreatCR26
import Derived.Test.YtjahpnbijefncaaGreatCR15
import Derived.Test.YtjahpnbijefncaaGreatCR13
import Derived.Test.YtjahpnbijefncaaGreatCR14
import Derived.Test.YtjahpnbijefncaaGreatCR17
import Derived.Test.YtjahpnbijefncaaGreatCR16
import Derived.Test.YtjahpnbijefncaaGreatCR25
import Derived.Test.YtjahpnbijefncaaGreatCR18
import Derived.Deep.RegionHeld3
import Derived.Test.YtjahpnbijefncaaGreatCR04
import Derived.Test.YtjahpnbijefncaaGreatCR06
import Derived.Test.YtjahpnbijefncaaGreatCR05
namespace Go.Proofs.YtjahpnbijefncaaGreat
set_option maxRecDepth 100000
set_option linter.unusedVariables false
open Go.RowKit
attribute [local go_sem ↓] Go.wp_at_zero Go.wp_at_succ
def StoredR (L:List Sym):List Ru→List Ru→List Ru→Prop
 | [],R,R' => R' = R
 | x :: r,R,R' => (Ans L R [x] []∧StoredR L r (R ++ [x]) R')∨(¬ Ans L R [x] []∧StoredR L r R R')
theorem StoredR.snoc {L:List Sym} {x:Ru}:∀ {l R R1 R2:List Ru},StoredR L l R R1→(Ans L R1 [x] []∧R2=R1 ++ [x])∨(¬ Ans L R1 [x] []∧R2=R1)→StoredR L (l ++ [x]) R R2
 | [],R,R1,R2,h,k=>by
  have h:R1=R:=h
  subst h
  rcases k with ⟨a,b⟩ | ⟨a,b⟩
  ·exact .inl ⟨a,b⟩
  ·exact .inr ⟨a,b⟩
 | y :: r,R,R1,R2,h,k=>by
  rcases h with ⟨a,b⟩ | ⟨a,b⟩
  ·exact .inl ⟨a,b.snoc k⟩
  ·exact .inr ⟨a,b.snoc k⟩
def FarB (w:World) (q:Nat):Prop:=(∃ c,w.heap[q]? = some (.cells c 139 (0,0)))∨(∃ c,w.heap[q]? = some (.cells c 68 (0,0)))∨∃ c,w.heap[q]? = some (.cells c 31 (0,0))
theorem FarB.no_int {w:World} {q:Nat} (h:FarB w q):∀ cur,w.heap[q]? ≠ some (.cells cur 3 (0,0)):=by
 intro cur e
 rcases h with ⟨c,h⟩ | ⟨c,h⟩ | ⟨c,h⟩ <;> (rw [h] at e;cases e)
theorem FarB.no_sym {w:World} {q:Nat} (h:FarB w q):∀ cur,w.heap[q]? ≠ some (.cells cur 129 (0,0)):=by
 intro cur e
 rcases h with ⟨c,h⟩ | ⟨c,h⟩ | ⟨c,h⟩ <;> (rw [h] at e;cases e)
theorem FarB.no_sig {w:World} {k b:Nat} {L:List Sym} {sv:Value} {mr:Option Nat} (h:FarB w k) (hs:SigAt w b L sv mr):¬ Foot b sv mr k:=by
 rintro (e | e | e)
 ·subst e
  have:=hs.blk
  rcases h with ⟨c,h⟩ | ⟨c,h⟩ | ⟨c,h⟩ <;> (rw [h] at this;cases this)
 ·obtain ⟨c', this⟩:=own_blk hs.row e
  exact h.no_sym c' this
 ·subst e
  obtain ⟨n,D,hm,_⟩:=hs.map
  obtain ⟨es,clock,this,_⟩:=hm
  rcases h with ⟨c,h⟩ | ⟨c,h⟩ | ⟨c,h⟩ <;> (rw [h] at this;cases this)
theorem Sg.keptF {n b:Nat} {w w' : World} {L:List Sym} {S:Nat→Prop} (h:Sg n w b L) (hk:Kept S w w') (hS:∀ k,S k→FarB w k):Sg n w' b L:=by
 obtain ⟨⟨sv,mr,h1,h2⟩,h3⟩:=h
 exact ⟨⟨sv,mr,h1.kept hk (fun k e s=>(hS k s).no_sig h1 e),h2⟩,h3⟩
theorem StAt.keptF {w w' : World} {b bs:Nat} {L:List Sym} {R:List Ru} {lv:Value} {vs:List Value} {S:Nat→Prop} (h:StAt w b bs L R lv vs) (hk:Kept S w w') (hS:∀ k,S k→FarB w k) (hb:¬ S b) (hr:∀ q,lv.ownBlock=some q→¬ S q):StAt w' b bs L R lv vs:=
 ⟨hk.at h.blk hb,sg_up (h.sig.keptF hk hS) hk.size,hk.row h.row (fun q e s=>hr q e s),h.own.kept hk (fun k s=>(hS k s).no_int),h.le,h.ok⟩
theorem MO.keptF {w w' : World} {m:Nat} {ro:Option Addr} {rc:Nat} {L:List Sym} {R:List Ru} {lv:Value} {vs:List Value} {S:Nat→Prop} (h:MO w m ro rc L R lv vs) (hk:Kept S w w') (hS:∀ k,S k→FarB w k) (hb:¬ S m) (hr:∀ q,lv.ownBlock=some q→¬ S q):MO w' m ro rc L R lv vs:=by
 obtain ⟨a1,a2,a3⟩:=h.rl
 refine ⟨hk.at h.blk hb,⟨hk.row a1 (fun q e s=>?_),fun q e=>Nat.lt_of_lt_of_le (a2 q e) hk.size,a3⟩,hk.row h.row (fun q e s=>hr q e s),h.own.kept hk (fun k s=>(hS k s).no_int),h.le,h.ok⟩
 obtain ⟨cu,hc⟩:=own_blk a1 e
 exact (hS q s).no_sym cu hc
structure Twin (w0 w:World) (L:List Sym) (R:List Ru) (bs b m:Nat) (ro:Option Addr) (rc:Nat) (lv:Value) (vs:List Value) (mv:Value) (ms:List Value):Prop where
 st:StAt w b bs L R lv vs
 mo:MO w m ro rc L R mv ms
 good:GoodR L R
 b0:w0.heap.size≤b
 m0:w0.heap.size≤m
 l0:∀ q,lv.ownBlock=some q→w0.heap.size≤q
 v0:∀ q,mv.ownBlock=some q→w0.heap.size≤q
 apart:∀ q,lv.ownBlock=some q→mv.ownBlock≠some q
 same:Same0 w0 w
theorem Twin.same' {w0 w w' : World} {L:List Sym} {R:List Ru} {bs b m:Nat} {ro:Option Addr} {rc:Nat} {lv:Value} {vs:List Value} {mv:Value} {ms:List Value} (h:Twin w0 w L R bs b m ro rc lv vs mv ms) (hk:Same0 w w'):Twin w0 w' L R bs b m ro rc lv vs mv ms:=
 ⟨h.st.same hk,h.mo.same hk,h.good,h.b0,h.m0,h.l0,h.v0,h.apart,h.same.trans' hk⟩
theorem Twin.bm {w0 w:World} {L:List Sym} {R:List Ru} {bs b m:Nat} {ro:Option Addr} {rc:Nat} {lv:Value} {vs:List Value} {mv:Value} {ms:List Value} (h:Twin w0 w L R bs b m ro rc lv vs mv ms):b≠m∧lv.ownBlock≠some m∧mv.ownBlock≠some b:=by
 refine ⟨fun e=>?_,fun e=>?_,fun e=>?_⟩
 ·subst e;have:=h.st.blk;rw [h.mo.blk] at this;cases this
 ·obtain ⟨c,hc⟩:=own_blk h.st.row e;rw [h.mo.blk] at hc;cases hc
 ·obtain ⟨c,hc⟩:=own_blk h.mo.row e;rw [h.st.blk] at hc;cases hc
theorem Twin.more {w0 w w1 w2:World} {L:List Sym} {R:List Ru} {bs b m:Nat} {ro:Option Addr} {rc:Nat} {lv:Value} {vs:List Value} {mv:Value} {ms:List Value} (h:Twin w0 w L R bs b m ro rc lv vs mv ms) {l:List Ru} (ha:Ans L R l []) {lv' : Value} {vs' : List Value} (s1:StAt w1 b bs L (R++l) lv' vs') (k1:Kept (StoB w b lv) w w1) (o1:∀ k,lv'.ownBlock=some k→lv.ownBlock=some k∨w.heap.size≤k) :
  MO w1 m ro rc L R mv ms∧Same0 w0 w1∧∀ (mv' : Value) (ms' : List Value),MO w2 m ro rc L (R++l) mv' ms' → (∀ q,mv'.ownBlock=some q→mv.ownBlock=some q∨w1.heap.size≤q)→Kept (fun q=>q=m∨mv.ownBlock=some q) w1 w2→Twin w0 w2 L (R++l) bs b m ro rc lv' vs' mv' ms' := by
 obtain ⟨e1,e2,e3⟩:=h.bm
 have F1:∀ k,StoB w b lv k→FarB w k:=fun k e=>by
  rcases e with e | e
  ·subst e;exact .inl ⟨_,h.st.blk⟩
  ·exact .inr (.inl (own_blk h.st.row e))
 have hmo:MO w1 m ro rc L R mv ms:=h.mo.keptF k1 F1 (fun e=>by
  rcases e with e | e
  ·exact e1 e.symm
  ·exact e2 e) (fun q e s=>by
  rcases s with s | s
  ·subst s;exact e3 e
  ·exact h.apart q s e)
 have hs1:Same0 w0 w1:=Kept.trans h.same k1 (fun i hi e=>by
  rcases e with e | e
  ·have:=h.b0;omega
  ·have:=h.l0 i e;omega)
 refine ⟨hmo,hs1,fun mv' ms' hm2 ho2 k2=>?_⟩
 have F2:∀ k,(k=m∨mv.ownBlock=some k)→FarB w1 k:=fun k e=>by
  rcases e with e | e
  ·subst e;exact .inr (.inr ⟨_,hmo.blk⟩)
  ·exact .inr (.inl (own_blk hmo.row e))
 have mlt:∀ q,mv.ownBlock=some q→q<w.heap.size:=fun q e=>by
  obtain ⟨c,hc⟩:=own_blk h.mo.row e;exact lt_of_at hc
 have llt:∀ q,lv'.ownBlock=some q→q<w1.heap.size:=fun q e=>by
  obtain ⟨c,hc⟩:=own_blk s1.row e;exact lt_of_at hc
 have ap1:∀ q,lv'.ownBlock=some q→mv.ownBlock≠some q:=fun q e f=>by
  rcases o1 q e with g | g
  ·exact h.apart q g f
  ·have:=mlt q f;omega
 refine ⟨s1.keptF k2 F2 (fun e=>by
  rcases e with e | e
  ·exact e1 e
  ·exact e3 e) (fun q e s=>by
  rcases s with s | s
  ·subst s
   obtain ⟨c,hc⟩:=own_blk s1.row e;rw [hmo.blk] at hc;cases hc
  ·exact ap1 q e s),hm2,h.good.add ha,h.b0,h.m0,fun q e=>?_,fun q e=>?_,fun q e f=>?_,Kept.trans hs1 k2 (fun i hi e=>by
  rcases e with e | e
  ·have:=h.m0;omega
  ·have:=h.v0 i e;omega)⟩
 ·rcases o1 q e with g | g
  ·exact h.l0 q g
  ·have:=h.same.size;omega
 ·rcases ho2 q e with g | g
  ·exact h.v0 q g
  ·have:=hs1.size;omega
 ·rcases ho2 q f with g | g
  ·exact ap1 q e g
  ·have:=llt q e;omega
theorem sg_nil8 (b:Nat) (w:World):(binOp .eql 25 (.pointer (some ⟨b,0,none⟩)) (.pointer none)).run Tryz.prog w=.ok (.bool false) w:=by kernel_rfl
theorem st_nil8 (b:Nat) (w:World):(binOp .eql 26 (.pointer (some ⟨b,0,none⟩)) (.pointer none)).run Tryz.prog w=.ok (.bool false) w:=by kernel_rfl
def StoPost (L:List Sym) (l:List Ru) (w:World) (e:Ending) (w' : World):Prop:=
 ∃ bs b m ro rc lv vs mv ms R,e=.returned (.tuple #[.pointer (some ⟨bs,0,none⟩),.pointer (some ⟨b,0,none⟩),.pointer (some ⟨m,0,none⟩)])∧Twin w w' L R bs b m ro rc lv vs mv ms∧StoredR L l [] R
theorem rsat_part {w:World} {lb loff:Nat} {l:List Ru} (h:RsAt w (some ⟨lb,loff,none⟩) l) {j:Nat} (hj:j<l.length):RsAt w (some ⟨lb,loff+j * 2,none⟩) [l[j]]:=by
 obtain ⟨b,off,e,hb,hc⟩:=h.get hj
 cases e
 refine .inr ⟨lb,loff+j * 2,rfl,hb,fun i hi=>?_⟩
 obtain rfl:i=0:=by simp at hi;omega
 simpa using hc
theorem twin_new {w0 w2:World} {L:List Sym} {bs b:Nat} {rv:Value} (hs:StAt w2 b bs L [] (.slice none 0 0) []) (hr:Rl w2.heap.size w2 rv L) (hb:w0.heap.size≤b) (hk:Same0 w0 w2):∃ ro rc,rv=.slice ro L.length rc∧Twin w0 (w2.alloc (.cells #[rv,.slice none 0 0] 31)) L [] bs b w2.heap.size ro rc (.slice none 0 0) [] (.slice none 0 0) []:=by
 obtain ⟨ro,rc,rfl⟩:=row_shape hr.1
 have ka:Same0 w2 (w2.alloc (.cells #[.slice ro L.length rc,.slice none 0 0] 31)):=(Kept.refl _ _).alloc _
 refine ⟨ro,rc,rfl,hs.same ka,⟨heap_alloc_new _ _,rl_up (hr.same ka) ka.size,World.ownsRow_nil _ _ _ _,⟨rfl,fun i hi=>absurd hi (by simp)⟩,by simp,fun x hx=>by simp at hx⟩,GoodR.nil L,hb,hk.size,(fun q e=>by cases e),(fun q e=>by cases e),(fun q e=>by cases e),hk.trans' ka⟩
set_option maxHeartbeats 16000000 in
theorem stored_any {w:World} {ao:Option Addr} {len cap:Nat} {xs:List Sym} (hx:SymsAt w ao len xs) (hm:len≤maxLen) {lo:Option Addr} {lc:Nat} {l:List Ru} (hl:RsAt w lo l) (hll:l.length≤140737488355328) (hlc:l.length≤lc) :
  Calls Tryz.prog 7 #[.slice ao len cap,.slice lo l.length lc] w (StoPost (madeL xs) l w):=by
 have hn1:=sg_nil8
 have hn2:=st_nil8
 have CM:=made_any ao len cap xs w hx hm
 have HL:Hid (∀ ww,Same0 w ww→RsAt ww lo l):=fun ww hk=>hl.same hk
 generalize madeL xs=L at *
 clear hx hl hm
 go_enter Tryz.func7,Tryz.ntmps7
 go_upto_region 4 with (first | (go_at_call 31;refine CM.mono ?_;rintro e w1 ⟨bs,rv,rfl,hsg,hrl,k1⟩))
 have CN:=snew_any hsg
 go_upto_region 5 with (first | (go_at_call 32;refine CN.mono ?_;rintro e w2 ⟨rfl,hst,k2⟩))
 obtain ⟨ro,rc,rfl,hT⟩:=twin_new hst (rl_up (hrl.same k2) k2.size) k1.size (k1.trans' k2)
 obtain ⟨b,hb⟩:∃ b,b=w1.heap.size:=⟨_,rfl⟩
 obtain ⟨m,hmm⟩:∃ m,m=w2.heap.size:=⟨_,rfl⟩
 have T0:Hid (Twin w (w2.alloc (.cells #[.slice ro L.length rc,.slice none 0 0] 31)) L [] bs b m ro rc (.slice none 0 0) [] (.slice none 0 0) []):=by rw [hb,hmm];exact hT
 have HMM:Hid (w2.heap.size=m):=hmm.symm
 rw [← hb]
 clear hT hst hrl hsg CN CM hb hmm
 go_wp2_with fail
 rw [HMM.out]
 go_loopw [11] (fun i wr=>∃ (j:Nat) (R:List Ru) (lv:Value) (vs:List Value) (mv:Value) (ms:List Value),j≤l.length∧i=.int .i64 (j:Int)∧Hid (Twin w wr L R bs b m ro rc lv vs mv ms)∧Hid (StoredR L (l.take j) [] R)) (fun i _=>l.length-(intOf i).toNat)
 case atStart=>exact ⟨0,[],_,_,_,_,Nat.zero_le _,rfl,T0,rfl⟩
 case round=>
  clear T0 k1 k2 HMM
  obtain ⟨j,R,lv,vs,mv,ms,hj,rfl,hT,hR⟩:=hrel
  by_cases hlt:j<l.length
  ·obtain ⟨lb,loff,rfl,_,_⟩:=(HL.out wr hT.out.same).get hlt
   have hj1:IntKind.i64.wrap ((j:Int)+1)=(j:Int)+1:=iwrap (by omega) (by omega)
   have i1:(0:Int)≤(j:Int):=by omega
   have i2:(j:Int)+1≤(lc:Int):=by omega
   have i3:(j:Int)≤(j:Int)+1:=by omega
   have hcj:¬ lc=j:=by omega
   have CA:=add_rules (l:=[l[j]]) (lc:=lc-j) hT.out.st (rsat_part (HL.out wr hT.out.same) hlt) (by simp) (by simp;omega)
   have CAH:Hid (Calls Tryz.prog 33 #[.pointer (some ⟨b,0,none⟩),.slice (some ⟨lb,loff+j * 2,none⟩) 1 (lc-j)] wr (AddPost L R [l[j]] b bs lv wr)):=CA
   have hsn:Hid (l.take (j+1)=l.take j ++ [l[j]]):=by show _=_;rw [List.take_add_one,List.getElem?_eq_getElem hlt];rfl
   by_cases hA:Ans L R [l[j]] []
   ·have hfit:=hA.fit hT.out.st.le
    have hs2:Hid (StoredR L (l.take (j+1)) [] (R ++ [l[j]])):=by show StoredR _ _ _ _;rw [hsn.out];exact hR.out.snoc (.inl ⟨hA,rfl⟩)
    have CA2:Hid (Calls Tryz.prog 33 #[.pointer (some ⟨b,0,none⟩),.slice (some ⟨lb,loff+j * 2,none⟩) 1 (lc-j)] wr fun e w1=>∃ lv' vs', e=.returned .nilIface∧Hid (StAt w1 b bs L (R ++ [l[j]]) lv' vs' ∧ Kept (StoB wr b lv) wr w1∧∀ k,lv'.ownBlock=some k→lv.ownBlock=some k∨wr.heap.size≤k)):=CAH.out.mono (fun e w1 ⟨ws,v,e1,ha,hv,_,_,hy⟩=>by
     obtain rfl:=ha.uniq hA
     obtain rfl:v=.nilIface:=hv
     obtain ⟨lv', vs', a1,a2,a3⟩:=hy rfl
     exact ⟨lv', vs', e1,a1,a2,a3⟩)
    have CB:Hid (∀ w1 lv' vs', StAt w1 b bs L (R ++ [l[j]]) lv' vs' ∧ Kept (StoB wr b lv) wr w1∧(∀ k,lv'.ownBlock=some k→lv.ownBlock=some k∨wr.heap.size≤k)→Calls Tryz.prog 34 #[.pointer (some ⟨m,0,none⟩),.slice (some ⟨lb,loff+j * 2,none⟩) 1 (lc-j)] w1 fun e w2=>∃ mv' ms', e=.returned (.slice none 0 0)∧Hid (Twin w w2 L (R ++ [l[j]]) bs b m ro rc lv' vs' mv' ms')):=fun w1 lv' vs' ⟨a1,a2,a3⟩=>by
     obtain ⟨hmo,hs1,hmore⟩:=hT.out.more (w2:=w1) hA a1 a2 a3
     refine (radd_yes (l:=[l[j]]) (lc:=lc-j) hmo (rsat_part (HL.out w1 hs1) hlt) (by simp) (fun e=>by cases e) hA hfit.2 (by simpa using hfit.1) (fun ww hk=>rsat_part (HL.out ww (Kept.trans hs1 hk (fun i hi e=>by
      rcases e with e | e
      ·have:=hT.out.m0;omega
      ·have:=hT.out.v0 i e;omega))) hlt)).mono ?_
     rintro e w2 ⟨mv', ms', rfl,m1,m2,m3⟩
     obtain ⟨_,_,hmore2⟩:=hT.out.more (w2:=w2) hA a1 a2 a3
     exact ⟨mv', ms', rfl,hmore2 mv' ms' m1 m2 m3⟩
    have CS:=fun ww=>same_flt (w:=ww) (er:=.nilIface) (lv:=.slice none 0 0) (ws:=[]) rfl ⟨none,0,rfl,.inl rfl⟩ (by simp)
    have CSH:Hid (∀ ww,Calls Tryz.prog 12 #[.nilIface,.slice none 0 0] ww fun e w' => e=.returned (.bool true)∧Same0 ww w'):=CS
    have D1:=CA2.out
    clear CA CAH CA2 CS hfit hT hR hsn
    go_upto_region 12 with (first | (go_at_call 33;refine D1.mono ?_;rintro e w4 ⟨lv', vs', rfl,h4⟩))
    have D2:=CB.out w4 lv' vs' h4.out
    go_upto_region 13 with (first | (go_at_call 34;refine D2.mono ?_;rintro e w5 ⟨mv', ms', rfl,h5⟩))
    have D3:=CSH.out w5
    go_wp2_with (first | (go_at_call 12;refine D3.mono ?_;rintro e w6 ⟨rfl,k6⟩))
    exact ⟨⟨j+1,R ++ [l[j]],lv', vs', mv', ms', by omega,by go_num,h5.out.same' k6,hs2⟩,by simp [intOf];omega⟩
   ·have hs2:Hid (StoredR L (l.take (j+1)) [] R):=by show StoredR _ _ _ _;rw [hsn.out];exact hR.out.snoc (.inr ⟨hA,rfl⟩)
    have CA2:Hid (Calls Tryz.prog 33 #[.pointer (some ⟨b,0,none⟩),.slice (some ⟨lb,loff+j * 2,none⟩) 1 (lc-j)] wr fun e w1=>∃ ws k,e=.returned (.iface 98 (.pointer (some ⟨k,0,none⟩)))∧Hid (Ans L R [l[j]] ws∧ws≠[]∧ws.length≤2∧FltAt w1 ws (.iface 98 (.pointer (some ⟨k,0,none⟩))))∧Same0 wr w1):=CAH.out.mono (fun e w1 ⟨ws,v,e1,ha,hv,h2,hno,_⟩=>by
     have hne:ws≠[]:=fun e=>hA (e ▸ ha)
     rcases ha.flt hv with ⟨e,_⟩ | ⟨_,k,rfl⟩
     ·exact absurd e hne
     ·exact ⟨ws,k,e1,⟨ha,hne,h2,hv⟩,hno hne⟩)
    have CB:Hid (∀ w1 ws,Same0 wr w1→Ans L R [l[j]] ws→ws≠[]→Calls Tryz.prog 34 #[.pointer (some ⟨m,0,none⟩),.slice (some ⟨lb,loff+j * 2,none⟩) 1 (lc-j)] w1 fun e w2=>∃ v,e=.returned v∧Hid (WrsAt w2 v ws)∧Same0 w1 w2):=fun w1 ws k1 ha hne=>radd7_no (l:=[l[j]]) (lc:=lc-j) (hT.out.same' k1).mo (rsat_part (HL.out w1 (hT.out.same' k1).same) hlt) (by simp) (fun e=>by cases e) ha hne
    have HT2:Hid (∀ ww,Same0 wr ww→Twin w ww L R bs b m ro rc lv vs mv ms):=fun ww hk=>hT.out.same' hk
    have D1:=CA2.out
    clear CA CAH CA2 hT hR hsn
    go_upto_region 12 with (first | (go_at_call 33;refine D1.mono ?_;rintro e w4 ⟨ws,k,rfl,h4,k4⟩))
    obtain ⟨q1,q2,q3,q4⟩:=h4.out
    have D2:=CB.out w4 ws k4 q1 q2
    go_upto_region 13 with (first | (go_at_call 34;refine D2.mono ?_;rintro e w5 ⟨v5,rfl,h5,k5⟩))
    have D3:=same_flt (FltAt.same k5 q4) h5.out q3
    clear q1 q2 q3 q4 D1 D2
    go_wp2_with (first | (go_at_call 12;refine D3.mono ?_;rintro e w6 ⟨rfl,k6⟩))
    exact ⟨⟨j+1,R,lv,vs,mv,ms,by omega,by go_num,HT2.out _ ((k4.trans' k5).trans' k6),hs2⟩,by simp [intOf];omega⟩
  ·obtain rfl:j=l.length:=by omega
   have hR2:Hid (StoredR L l [] R):=by have:=hR.out;rw [List.take_length] at this;exact this
   clear hR
   go_wp2_with fail
   go_ret3
   exact ⟨bs,b,m,ro,rc,lv,vs,mv,ms,R,rfl,hT.out,hR2.out⟩
theorem sameB_self (p:List Int):sameB p p=true:=by simp [sameB]
set_option maxHeartbeats 2000000 in
theorem fsame_any {w:World} {k r nd:Int} {p:List Int} {po po' : Option Addr} {pc pc' : Nat} (ha:IntsAt w po p) (hb:IntsAt w po' p) (hl:p.length≤maxLen) :
  Calls Tryz.prog 30 #[.agg #[.int .i64 k,.int .i64 r,.slice po p.length pc,.int .i64 nd],.agg #[.int .i64 k,.int .i64 r,.slice po' p.length pc', .int .i64 nd]] w fun e w' => e=.returned (.bool true)∧Same0 w w' := by
 obtain ⟨W1,hW1⟩:∃ W1,W1=(w.alloc (.cells #[.int .i64 k,.int .i64 r,.slice po p.length pc,.int .i64 nd] 85)).alloc (.cells #[.int .i64 k,.int .i64 r,.slice po' p.length pc', .int .i64 nd] 85):=⟨_,rfl⟩
 have KW:Same0 w W1:=by rw [hW1];exact ((Kept.refl _ w).alloc _).alloc _
 have BX:Hid (∀ ww,Same0 W1 ww→(ww.cell? ⟨w.heap.size,0,none⟩=some (.int .i64 k)∧ww.cell? ⟨w.heap.size,1,none⟩=some (.int .i64 r)∧ww.cell? ⟨w.heap.size,2,none⟩=some (.slice po p.length pc)∧ww.cell? ⟨w.heap.size,3,none⟩=some (.int .i64 nd))∧ww.cell? ⟨w.heap.size+1,0,none⟩=some (.int .i64 k)∧ww.cell? ⟨w.heap.size+1,1,none⟩=some (.int .i64 r)∧ww.cell? ⟨w.heap.size+1,2,none⟩=some (.slice po' p.length pc')∧ww.cell? ⟨w.heap.size+1,3,none⟩=some (.int .i64 nd)):=fun ww hk=>by
  have h1:=hk.at0 (show W1.heap[w.heap.size]? = _ by rw [hW1];exact heap_alloc2_old _ _ _)
  have h2:=hk.at0 (show W1.heap[w.heap.size+1]? = _ by rw [hW1];exact heap_al_al _ _ _)
  exact ⟨⟨cellAt h1 0,cellAt h1 1,cellAt h1 2,cellAt h1 3⟩,cellAt h2 0,cellAt h2 1,cellAt h2 2,cellAt h2 3⟩
 have CP:=same_any (acap:=pc) (bcap:=pc') (ha.same KW) (hb.same KW) hl
 rw [sameB_self] at CP
 obtain ⟨⟨x0,x1,x2,x3⟩,y0,y1,y2,y3⟩:=BX.out W1 (Kept.refl _ _)
 have ek:(k == k)=true:=by simp
 have er:(r == r)=true:=by simp
 have en:(nd == nd)=true:=by simp
 clear ha hb
 go_enter Tryz.func30,Tryz.ntmps30
 go_upto_region 1 with fail
 rw [← hW1]
 clear hW1
 go_upto_region 2 with (first | (go_at_call 27;refine CP.mono ?_;rintro e w2 ⟨rfl,k2⟩))
 obtain ⟨⟨u0,u1,u2,u3⟩,v0,v1,v2,v3⟩:=BX.out w2 k2
 clear x0 x1 x2 x3 y0 y1 y2 y3 CP
 go_wp2_with fail
 go_ret
 exact ⟨by simp,KW.trans' k2⟩
theorem nm8_z:nameB ⟨#[122]⟩=true:=by decide +kernel
theorem nm8_s:nameB ⟨#[115]⟩=true:=by decide +kernel
theorem nm8_add:nameB ⟨#[97,100,100]⟩=true:=by decide +kernel
theorem nm8_h:nameB ⟨#[104]⟩=true:=by decide +kernel
def tree8 (n:Nat):Tr (n+1+1):=(2,0,[0],[(0,((1,0,[],[]):Int × Int × List Int × List (Int × Tr n))),(1,((1,1,[],[]):Int × Int × List Int × List (Int × Tr n)))])
theorem SymsAt.same8 {w w' : World} {ao:Option Addr} {len:Nat} {xs:List Sym} (h:SymsAt w ao len xs) (hk:Same0 w w'):SymsAt w' ao len xs:=by
 obtain ⟨h1,h2,h3⟩:=h
 refine ⟨h1,h2.imp id ?_,h3⟩
 rintro ⟨b,off,e,hb,hc⟩
 refine ⟨b,off,e,Nat.lt_of_lt_of_le hb hk.size,fun i hi=>?_⟩
 obtain ⟨c1,c2,c3⟩:=hc i hi
 exact ⟨(hk.cell (p:=⟨b,_,none⟩) hb (fun f=>f)).trans c1,(hk.cell (p:=⟨b,_,none⟩) hb (fun f=>f)).trans c2,(hk.cell (p:=⟨b,_,none⟩) hb (fun f=>f)).trans c3⟩
abbrev L9x:List Sym:=[⟨⟨#[122]⟩,0,false⟩,⟨⟨#[115]⟩,1,false⟩,⟨⟨#[97,100,100]⟩,2,true⟩,⟨⟨#[104]⟩,0,true⟩]
theorem madeL_aw9:madeL L9x=L9x:=by
 simp [madeL,addL,addErr,nm8_z,nm8_s,nm8_add,nm8_h,findI]
abbrev ru9a:Ru:=([2,0, -1],[-1])
abbrev ru9b:Ru:=([2,1, -1, -2],[1,2, -1, -2])
theorem aw9_a:Ans L9x [] [ru9a] []:=Ans.of_all (by decide +kernel)
theorem aw9_b:Ans L9x [ru9a] [ru9b] []:=Ans.of_all (by decide +kernel)
theorem aw9_R {R:List Ru} (h:StoredR L9x [ru9a,ru9b] [] R):R=[ru9a,ru9b]:=by
 rcases h with ⟨_,h⟩ | ⟨h,_⟩
 ·rcases h with ⟨_,h⟩ | ⟨h,_⟩
  ·exact h
  ·exact absurd aw9_b h
 ·exact absurd aw9_a h
def fail9 (n:Nat):Tr (n+1):=(3,0,[],[])
theorem aw9_grow (n:Nat):growF L9x (n+1+1) (rootP L9x 2) (rootR L9x [ru9a,ru9b] 2)=.ok (tree8 n):=by rfl
theorem aw9_none (n:Nat):growF L9x (n+1) (rootP L9x 3) (rootR L9x [ru9a,ru9b] 3)=.ok (fail9 n):=by rfl
theorem aw9_tree:treeF L9x [ru9a,ru9b] 2=.ok (tree8 1999):=aw9_grow 1999
theorem aw9_fail:treeF L9x [ru9a,ru9b] 3=.ok (fail9 2000):=aw9_none 2000
abbrev ins9:List I3:=[(1,0,0),(2,0,4),(2,1,5),(3,0,0),(4,0,0),(4,1,0),(3,0,0)]
theorem aw9_lay (n:Nat):layS (n+1+1) (tree8 n) ([],[])=([(1,0,0),(2,0,4),(2,1,5),(3,0,0),(4,0,0),(4,1,0)],[[0]]):=by rfl
theorem aw9_lay2 (n:Nat) (s:St9):layS (n+1) (fail9 n) s=(s.1 ++ [(3,0,0)],s.2):=by rfl
theorem aw9_cmp:cmpS L9x [ru9a,ru9b] 4=((ins9,[[0]]),[-1, -1,0,6]):=by
 rw [cmpS_yes (k:=3) (by decide) aw9_fail,cmpS_yes (k:=2) (by decide) aw9_tree,cmpS_no (k:=1) (by decide),cmpS_no (k:=0) (by decide)]
 have e1:layS 2001 (tree8 1999) (cmpS L9x [ru9a,ru9b] 0).1=_:=aw9_lay 1999
 have e2:=fun s=>aw9_lay2 2000 s
 rw [e1]
 erw [e2]
 rfl
theorem aw9_all:∀ k,k<L9x.length→defB L9x (k:Int)=true→∃ t,treeF L9x [ru9a,ru9b] k=.ok t:=by
 intro k hk hd
 have hk' : k<4:=hk
 match k,hk' with
 | 0,_=>exact absurd hd (by decide)
 | 1,_=>exact absurd hd (by decide)
 | 2,_=>exact ⟨_,aw9_tree⟩
 | 3,_=>exact ⟨_,aw9_fail⟩
theorem aw9_run:codeF L9x (clsB L9x [2,1,0,0]) [2,1,0,0] ins9 [[0]] [-1, -1,0,6] 2 0=(1,1,[],0,0):=by decide +kernel
theorem aw9_idx:idxB 1 (rightsL L9x [ru9a,ru9b]).length=true:=by decide +kernel
theorem aw9_len:∀ i (h:i<(rightsL L9x [ru9a,ru9b]).length),(rightsL L9x [ru9a,ru9b])[i].length≤140737488355328:=by
 intro i h
 have h1:∀ q∈rightsL L9x [ru9a,ru9b],q.length≤140737488355328:=by decide +kernel
 exact h1 _ (List.getElem_mem h)
theorem aw9_wt:wtN ((rightsL L9x [ru9a,ru9b]).getD (1:Int).toNat [])=2:=by decide +kernel
theorem aw9_lit (w:World):InsAt (w.alloc (.cells #[.int .i64 1,.int .i64 0,.int .i64 0,.int .i64 2,.int .i64 0,.int .i64 4,.int .i64 2,.int .i64 1,.int .i64 5,.int .i64 3,.int .i64 0,.int .i64 0,.int .i64 4,.int .i64 0,.int .i64 0,.int .i64 4,.int .i64 1,.int .i64 0,.int .i64 3,.int .i64 0,.int .i64 0] 117)) (some ⟨w.heap.size,0,none⟩) ins9:=by
 refine .inr ⟨_,_,rfl,by simp,fun i hi=>?_⟩
 have hi' : i<7:=by simpa using hi
 rw [cellAt (heap_alloc_new w _),cellAt (heap_alloc_new w _),cellAt (heap_alloc_new w _)]
 match i,hi' with
 | 0,_=>exact ⟨rfl,rfl,rfl⟩
 | 1,_=>exact ⟨rfl,rfl,rfl⟩
 | 2,_=>exact ⟨rfl,rfl,rfl⟩
 | 3,_=>exact ⟨rfl,rfl,rfl⟩
 | 4,_=>exact ⟨rfl,rfl,rfl⟩
 | 5,_=>exact ⟨rfl,rfl,rfl⟩
 | 6,_=>exact ⟨rfl,rfl,rfl⟩
theorem syms_aw9 (w:World) (T:TypeId):SymsAt (w.alloc (.cells #[.string ⟨#[122]⟩,.int .i64 0,.bool false,.string ⟨#[115]⟩,.int .i64 1,.bool false,.string ⟨#[97,100,100]⟩,.int .i64 2,.bool true,.string ⟨#[104]⟩,.int .i64 0,.bool true] T)) (some ⟨w.heap.size,0,none⟩) 4 L9x:=by
 refine ⟨rfl,.inr ⟨_,_,rfl,by simp,fun i hi=>?_⟩,?_⟩
 ·have hi' : i<4:=by simpa using hi
  rw [cellAt (heap_alloc_new w _),cellAt (heap_alloc_new w _),cellAt (heap_alloc_new w _)]
  match i,hi' with
  | 0,_=>exact ⟨rfl,rfl,rfl⟩
  | 1,_=>exact ⟨rfl,rfl,rfl⟩
  | 2,_=>exact ⟨rfl,rfl,rfl⟩
  | 3,_=>exact ⟨rfl,rfl,rfl⟩
 ·intro x hx
  simp at hx
  rcases hx with rfl | rfl | rfl | rfl <;> exact ⟨by decide +kernel,by decide +kernel⟩
set_option maxHeartbeats 1000000 in
theorem plain9_any (w:World):Calls Tryz.prog 45 #[] w fun e w' => ∃ g g', e=.returned (.tuple #[.slice (some ⟨g,0,none⟩) 4 4,.slice (some ⟨g', 0,none⟩) 2 2])∧SymsAt w' (some ⟨g,0,none⟩) 4 L9x∧RsAt w' (some ⟨g', 0,none⟩) [ru9a,ru9b]∧Same0 w w' := by
 have S:=syms_aw9 w 129
 have K:Same0 w (w.alloc (.cells #[.string ⟨#[122]⟩,.int .i64 0,.bool false,.string ⟨#[115]⟩,.int .i64 1,.bool false,.string ⟨#[97,100,100]⟩,.int .i64 2,.bool true,.string ⟨#[104]⟩,.int .i64 0,.bool true] 129)):=(Kept.refl _ w).alloc _
 have RR:=rs_two (w.alloc (.cells #[.string ⟨#[122]⟩,.int .i64 0,.bool false,.string ⟨#[115]⟩,.int .i64 1,.bool false,.string ⟨#[97,100,100]⟩,.int .i64 2,.bool true,.string ⟨#[104]⟩,.int .i64 0,.bool true] 129)) [2,0, -1] [-1] [2,1, -1, -2] [1,2, -1, -2] 3 3 3 3 68 (by decide) (by decide) (by decide) (by decide) rfl rfl rfl rfl rfl
 have HH:Hid _:=RR
 have HS:Hid _:=S
 clear RR S
 go_enter Tryz.func45,Tryz.ntmps45
 go_wp2
 go_ret2
 obtain ⟨r1,r2⟩:=HH.out
 simp only [World.size_alloc] at r1 r2
 exact ⟨_,_,rfl,SymsAt.same8 HS.out r2,r1,K.trans' r2⟩
theorem aw9_err (w:World):(binOp .neq 37 .nilIface .nilIface).run Tryz.prog w=.ok (.bool false) w:=by kernel_rfl
theorem aw9_arg {W:World} {k:Nat} (h:W.heap[k]? = some (.cells #[.int .i64 2,.int .i64 1,.int .i64 0,.int .i64 0] 3 (0,0))):Arg W (some ⟨k,0,none⟩) [2,1,0,0] 4:=by
 refine ⟨?_,Nat.le_refl _,(fun e=>by cases e),by decide⟩
 refine .inr ⟨_,_,rfl,lt_of_at h,fun i hi=>?_⟩
 have hi' : i<4:=by simpa using hi
 rw [cellAt h]
 match i,hi' with
 | 0,_=>rfl
 | 1,_=>rfl
 | 2,_=>rfl
 | 3,_=>rfl
theorem zf9 {W:World} {k:Nat} (h:W.heap[k]? = some (.cells #[.int .i64 0,.int .i64 0,.slice none 0 0,.int .i64 0] 85 (0,0))):W.cell? ⟨k,0,none⟩=some (.int .i64 0)∧W.cell? ⟨k,1,none⟩=some (.int .i64 0)∧W.cell? ⟨k,2,none⟩=some (.slice none 0 0)∧W.cell? ⟨k,3,none⟩=some (.int .i64 0)∧W.frozen? ⟨k,0,none⟩=false∧W.frozen? ⟨k,1,none⟩=false∧W.frozen? ⟨k,2,none⟩=false∧W.frozen? ⟨k,3,none⟩=false:=
 ⟨cellAt h 0,cellAt h 1,cellAt h 2,cellAt h 3,frozenAt h 0,frozenAt h 1,frozenAt h 2,frozenAt h 3⟩
set_option maxHeartbeats 16000000 in
theorem awake9_any (w:World):Calls Tryz.prog 13 #[] w fun e w' => e=.returned (.bool true)∧Same0 w w' := by
 have hnn:=aw9_err
 have hpn:=ptr_nil
 have CP:=plain9_any w
 go_enter Tryz.func13,Tryz.ntmps13
 go_upto_region 2 with (first | (go_at_call 45;refine CP.mono ?_;rintro e w0 ⟨g,g', rfl,hsy,hru,K0⟩))
 have CS:=stored_any (cap:=4) (lc:=2) hsy (by decide) hru (by decide) (by decide)
 rw [madeL_aw9] at CS
 clear CP hsy hru
 go_upto_region 3 with (first | (go_at_call 7;refine CS.mono ?_;rintro e w1 ⟨bs,b,m,ro,rc,lv,vs,mv,ms,R,rfl,hT,hR⟩))
 obtain rfl:=aw9_R hR
 have K1:Same0 w w1:=K0.trans' hT.same
 have hst:=hT.st
 clear CS hR K0 hT
 have CC:Calls Tryz.prog 14 #[.pointer (some ⟨b,0,none⟩)] w1 fun e w' => ∃ io ic po pc eo ec ro rc,e=.returned (.tuple #[.agg #[.slice io 7 ic,.slice po 1 pc,.slice eo 4 ec,.slice ro 2 rc],.nilIface])∧Hid (InsAt w' io ins9∧PthAt w' po [[0]]∧IntsAt w' eo [-1, -1,0,6]∧RgAt w' ro (rightsL L9x [ru9a,ru9b]))∧Same0 w1 w' := by
  refine (compile_ok hst aw9_all).mono ?_
  intro e w' h
  have e4:cmpS L9x [ru9a,ru9b] L9x.length=_:=aw9_cmp
  unfold CmpOut at h
  rw [e4] at h
  obtain ⟨io,ic,po,pc,eo,ec,ro,rc,cs,rfl,hL,hE,hrr,hrt,k2⟩:=h
  refine ⟨io,ic,po,pc,eo,ec,ro,rc,rfl,⟨hL.insAt,hL.pthAt,?_,hrt.rgAt hrr⟩,k2⟩
  obtain ⟨eo', ec', e1,h1,_⟩:=hE.ints
  cases e1
  exact h1
 have HSG:Hid (∀ ww,Same0 w1 ww→Sg ww.heap.size ww bs L9x):=fun ww hk=>(hst.same hk).sig
 clear hst
 go_upto_region 6 with (first | (go_at_call 14;refine CC.mono ?_;rintro e w2 ⟨io,ic,po,pc,eo,ec,ro', rc', rfl,hL,k2⟩))
 obtain ⟨w3,hw3⟩:∃ w3,w3=w2.alloc (.cells #[.slice io 7 ic,.slice po 1 pc,.slice eo 4 ec,.slice ro' 2 rc'] 51):=⟨_,rfl⟩
 have k3:Same0 w2 w3:=by rw [hw3];exact (Kept.refl _ _).alloc _
 have HC:Hid (∀ ww,Same0 w3 ww→ww.cell? ⟨w2.heap.size,0,none⟩=some (.slice io 7 ic)∧ww.cell? ⟨w2.heap.size,1,none⟩=some (.slice po 1 pc)∧ww.cell? ⟨w2.heap.size,2,none⟩=some (.slice eo 4 ec)∧ww.cell? ⟨w2.heap.size,3,none⟩=some (.slice ro' 2 rc')):=fun ww hk=>by
  have h0:w3.heap[w2.heap.size]? = some (.cells #[.slice io 7 ic,.slice po 1 pc,.slice eo 4 ec,.slice ro' 2 rc'] 51 (0,0)):=by rw [hw3];exact heap_alloc_new w2 _
  have h1:=hk.at0 h0
  exact ⟨cellAt h1 0,cellAt h1 1,cellAt h1 2,cellAt h1 3⟩
 have HL:Hid (∀ ww,Same0 w3 ww→InsAt ww io ins9∧PthAt ww po [[0]]∧IntsAt ww eo [-1, -1,0,6]∧RgAt ww ro' (rightsL L9x [ru9a,ru9b])):=fun ww hk=>by
  obtain ⟨h1,h2,h3,h4⟩:=hL.out
  exact ⟨h1.same (k3.trans' hk),h2.same (k3.trans' hk),h3.same (k3.trans' hk),h4.same (k3.trans' hk)⟩
 have K3:Same0 w1 w3:=k2.trans' k3
 rw [← hw3]
 clear hw3 hL CC k2 k3
 have k4:Same0 w3 (w3.alloc (.cells #[.int .i64 1,.int .i64 0,.int .i64 0,.int .i64 2,.int .i64 0,.int .i64 4,.int .i64 2,.int .i64 1,.int .i64 5,.int .i64 3,.int .i64 0,.int .i64 0,.int .i64 4,.int .i64 0,.int .i64 0,.int .i64 4,.int .i64 1,.int .i64 0,.int .i64 3,.int .i64 0,.int .i64 0] 117)):=(Kept.refl _ _).alloc _
 obtain ⟨c0,c1,c2,c3⟩:=HC.out _ k4
 have B1:=sameIns_any (HL.out _ k4).1 (aw9_lit w3) (by decide) ic 7
 go_upto_region 8 with (first | (go_at_call 46;refine B1.mono ?_;rintro e w5 ⟨rfl,k5⟩))
 have K5:Same0 w3 w5:=k4.trans' k5
 clear c0 c1 c2 c3 B1 k4 k5
 go_upto_region 10 with fail
 have C0:=HC.out w5 K5
 have CO:Hid (∀ ww k,Same0 w3 ww→ww.heap[k]? = some (.cells #[.int .i64 2,.int .i64 1,.int .i64 0,.int .i64 0] 3 (0,0))→Calls Tryz.prog 48 #[.pointer (some ⟨bs,0,none⟩),.slice (some ⟨k,0,none⟩) 4 4] ww fun e w' => ∃ ho hn hc go gn gc,e=.returned (.agg #[.slice ho hn hc,.slice go gn gc])∧Hid (∃ base,VwAt base w' L9x (clsB L9x [2,1,0,0]) [2,1,0,0] (.agg #[.slice ho hn hc,.slice go gn gc]))∧Same0 ww w'):=fun ww k hk hr=>by
  refine (over_any (HSG.out ww (K3.trans' hk)) (aw9_arg hr)).mono ?_
  rintro e w' ⟨ho,hn,hc,go,gn,gc,rfl,h1,h2⟩
  exact ⟨ho,hn,hc,go,gn,gc,rfl,⟨_,h1⟩,h2⟩
 have CR:Hid (∀ ww ho hn hc go gn gc,Same0 w3 ww→(∃ base,VwAt base ww L9x (clsB L9x [2,1,0,0]) [2,1,0,0] (.agg #[.slice ho hn hc,.slice go gn gc]))→Calls Tryz.prog 47 #[.agg #[.slice io 7 ic,.slice po 1 pc,.slice eo 4 ec,.slice ro' 2 rc'],.int .i64 2,.iface 121 (.agg #[.slice ho hn hc,.slice go gn gc]),.int .i64 0] ww fun e w' => ∃ qo qc,e=.returned (.tuple #[.agg #[.int .i64 1,.int .i64 1,.slice qo 0 qc,.int .i64 0],.int .i64 0])∧Same0 ww w'):=fun ww ho hn hc go gn gc hk hv=>by
  obtain ⟨base,hv⟩:=hv
  obtain ⟨h1,h2,h3,_⟩:=HL.out ww hk
  refine (run_any hv h1 (by decide) h2 h3 ic pc ec ro' 2 rc' 2 0).mono ?_
  intro e w' h
  rw [aw9_run] at h
  obtain ⟨qo,qc,rfl,_,h5⟩:=h
  exact ⟨qo,qc,rfl,h5⟩
 go_cut [10,11] from 51 to 59 (fun s10 s11 wc=>∃ g qo qc,s10=.pointer (some ⟨g,0,none⟩)∧s11=.int .i64 0∧wc.heap[g]? = some (.cells #[.int .i64 1,.int .i64 1,.slice qo 0 qc,.int .i64 0] 85 (0,0))∧Same0 w3 wc)
 case first=>
  go_region_held3 (fun w' => w'.cell? ⟨w2.heap.size,0,none⟩=some (.slice io 7 ic)∧w'.cell? ⟨w2.heap.size,1,none⟩=some (.slice po 1 pc)∧w'.cell? ⟨w2.heap.size,2,none⟩=some (.slice eo 4 ec)∧w'.cell? ⟨w2.heap.size,3,none⟩=some (.slice ro' 2 rc')) (first | exact C0 | exact cc1 | exact cc2 | exact HC.out _ (by repeat (first | assumption | exact Kept.refl _ _ | refine Kept.alloc ?_ _ | refine Kept.drew ?_ | refine Same0.own ?_ (by omega) _))) (first
   | (go_at_call 48;refine (CO.out _ _ (by repeat (first | assumption | exact Kept.refl _ _ | refine Kept.alloc ?_ _ | refine Kept.drew ?_ | refine Same0.own ?_ (by omega) _)) (by first | exact heap_alloc_new _ _ | exact heap_alloc2_old _ _ _ | exact heap_al_al _ _ _)).mono ?_;rintro e w6 ⟨ho,hn,hc,go,gn,gc,rfl,hV,k6⟩;have K6:Same0 w3 w6:=Same0.trans' (by repeat (first | assumption | exact Kept.refl _ _ | refine Kept.alloc ?_ _ | refine Kept.drew ?_ | refine Same0.own ?_ (by omega) _)) k6;have cc1:=HC.out _ K6)
   | (go_at_call 47;refine (CR.out _ _ _ _ _ _ _ (by repeat (first | assumption | exact Kept.refl _ _ | refine Kept.alloc ?_ _ | refine Kept.drew ?_ | refine Same0.own ?_ (by omega) _)) (by obtain ⟨bb,hh⟩:=hV.out;exact ⟨bb,hh.same (by repeat (first | assumption | exact Kept.refl _ _ | refine Kept.alloc ?_ _ | refine Kept.drew ?_ | refine Same0.own ?_ (by omega) _))⟩)).mono ?_;rintro e w7 ⟨qo,qc,rfl,k7⟩;have K7:Same0 w3 w7:=Same0.trans' (by repeat (first | assumption | exact Kept.refl _ _ | refine Kept.alloc ?_ _ | refine Kept.drew ?_ | refine Same0.own ?_ (by omega) _)) k7;have cc2:=HC.out _ K7;have z5:=K5.size;have z6:=K6.size;first | (have zb:w7.heap[w6.heap.size]? = some (.cells #[.int .i64 0,.int .i64 0,.slice none 0 0,.int .i64 0] 85 (0,0)):=k7.at0 (heap_alloc_new w6 _);obtain ⟨zc0,zc1,zc2,zc3,zf0,zf1,zf2,zf3⟩:=zf9 zb) | (have zb:w7.heap[w5.heap.size]? = some (.cells #[.int .i64 0,.int .i64 0,.slice none 0 0,.int .i64 0] 85 (0,0)):=k7.at0 (k6.at0 (heap_alloc2_old w5.drew _ _));obtain ⟨zc0,zc1,zc2,zc3,zf0,zf1,zf2,zf3⟩:=zf9 zb) | (have zb:w7.heap[w5.heap.size+1]? = some (.cells #[.int .i64 0,.int .i64 0,.slice none 0 0,.int .i64 0] 85 (0,0)):=k7.at0 (k6.at0 (heap_al_al w5.drew _ _));obtain ⟨zc0,zc1,zc2,zc3,zf0,zf1,zf2,zf3⟩:=zf9 zb) | skip))
  all_goals
   go_wp2_with fail
   go_meet
   case rel=>
    first
     | exact ⟨_,qo,qc,rfl,rfl,heap_alloc_new w7 _,by repeat (first | assumption | exact Kept.refl _ _ | refine Kept.alloc ?_ _ | refine Kept.drew ?_ | refine Same0.own ?_ (by omega) _)⟩
     | exact ⟨_,qo,qc,rfl,rfl,setAt (setAt (setAt (setAt zb 0 _) 1 _) 2 _) 3 _,Same0.own (Same0.own (Same0.own (Same0.own K7 (by omega) _) (by omega) _) (by omega) _) (by omega) _⟩
 case rest=>
  obtain ⟨g,qo,qc,rfl,rfl,hg,kc⟩:=hcut
  obtain ⟨c0,c1,c2,c3⟩:=HC.out wc kc
  have BW:=weight_any (HL.out wc kc).2.2.2 aw9_len io po eo 7 ic 1 pc 4 ec rc' 1
  rw [aw9_idx,aw9_wt] at BW
  clear CO CR C0
  go_upto_region 12 with (first | (go_at_call 18;refine BW.mono ?_;rintro e w8 ⟨rfl,k8⟩))
  have hg8:=k8.at0 hg
  have g0:=cellAt hg8 0
  have g1:=cellAt hg8 1
  have g2:=cellAt hg8 2
  have g3:=cellAt hg8 3
  have BS:=fsame_any (w:=w8) (k:=1) (r:=1) (nd:=0) (p:=[]) (po:=qo) (po' := none) (pc:=qc) (pc' := 0) (.inl rfl) (.inl rfl) (by decide)
  have KF:Same0 w w8:=((K1.trans' K3).trans' kc).trans' k8
  go_wp2_with (first | (go_at_call 30;refine BS.mono ?_;rintro e w9 ⟨rfl,k9⟩))
  go_ret
  exact ⟨rfl,KF.trans' k9⟩
end Go.Proofs.YtjahpnbijefncaaGreat
namespace Go.Proofs.YtjahpnbijefncaaGreat
set_option maxRecDepth 100000
set_option linter.unusedVariables false
open Go.RowKit
def OwC (B:Nat→Prop) (w:World) (po:Option Addr) (p:List Int) (pc:Nat) (kv:Value) (n:Nat):Prop:=
 ArgT w po p pc∧(∀ a,po=some a→B a.block)∧(∃ us,w.ownsRow 0 89 5 kv n us)∧∀ g,kv.ownBlock=some g→B g
def CsO (B:Nat→Prop) (w:World):(n:Nat)→Value→Tr n→Prop
 | 0,_,_=>False
 | n+1,v,(k,r,p,l)=>∃ po pc ko kc,v=.agg #[.int .i64 k,.int .i64 r,.slice po p.length pc,.slice ko l.length kc]∧OwC B w po p pc (.slice ko l.length kc) l.length∧(ko=none→kc=0)∧l.length≤kc ∧
   (l=[]∨∃ (g:Nat) (β:Nat→Nat),ko=some ⟨g,0,none⟩∧B g∧g<w.heap.size∧(∀ i,β i≤β (i+1))∧∀ i (h:i<l.length),∃ c0 c1 c2 c3,w.cell? ⟨g,i * 5,none⟩=some (.int .i64 l[i].1)∧w.cell? ⟨g,i * 5+1,none⟩=some c0∧w.cell? ⟨g,i * 5+2,none⟩=some c1∧w.cell? ⟨g,i * 5+3,none⟩=some c2∧w.cell? ⟨g,i * 5+4,none⟩=some c3∧CsO (fun b=>(B b∧b≠g∧∀ a,po=some a→a.block≠b)∧β i≤b∧b<β (i+1)) w n (.agg #[c0,c1,c2,c3]) l[i].2)
theorem OwC.mono {B B' : Nat→Prop} {w:World} {po:Option Addr} {p:List Int} {pc:Nat} {kv:Value} {n:Nat} (h:OwC B w po p pc kv n) (hB:∀ b,b<w.heap.size→B b→B' b):OwC B' w po p pc kv n:=by
 obtain ⟨h1,h2,⟨us,h3⟩,h4⟩:=h
 refine ⟨h1,fun a e=>?_,⟨us,h3⟩,fun g e=>hB g (h3.lt g e).2 (h4 g e)⟩
 obtain ⟨cur,hc⟩:=h1.2 a e
 exact hB _ (lt_of_at hc) (h2 a e)
theorem CsO.mono {w:World}:∀ {n:Nat} {B B' : Nat→Prop} (hB:∀ b,b<w.heap.size→B b→B' b) {v:Value} {t:Tr n},CsO B w n v t→CsO B' w n v t
 | 0,_,_,_,_,_,h=>h
 | n+1,B,B', hB,v,(k,r,p,l),h=>by
  obtain ⟨po,pc,ko,kc,h1,h2,h4,h5,h6⟩:=h
  refine ⟨po,pc,ko,kc,h1,h2.mono hB,h4,h5,h6.imp id ?_⟩
  rintro ⟨b,β,e,hb,hl,hm,hc⟩
  refine ⟨b,β,e,hB b hl hb,hl,hm,fun i hi=>?_⟩
  obtain ⟨c0,c1,c2,c3,q0,q1,q2,q3,q4,q5⟩:=hc i hi
  exact ⟨c0,c1,c2,c3,q0,q1,q2,q3,q4,CsO.mono (fun b' hb' q=>⟨⟨hB b' hb' q.1.1,q.1.2⟩,q.2⟩) q5⟩
def KCelO (B:Nat→Prop) (w:World) (n:Nat) (us:List Value) (l:List (Int × Tr n)):Prop:=
 us.length=l.length * 5∧∃ β:Nat→Nat,(∀ i,β i≤β (i+1))∧∀ i (h:i<l.length),∃ c0 c1 c2 c3,us[i * 5]? = some (.int .i64 l[i].1)∧us[i * 5+1]? = some c0∧us[i * 5+2]? = some c1∧us[i * 5+3]? = some c2∧us[i * 5+4]? = some c3∧CsO (fun b=>B b∧β i≤b∧b<β (i+1)) w n (.agg #[c0,c1,c2,c3]) l[i].2
theorem KCelO.mono {B B' : Nat→Prop} {w:World} {n:Nat} {us:List Value} {l:List (Int × Tr n)} (h:KCelO B w n us l) (hB:∀ b,b<w.heap.size→B b→B' b):KCelO B' w n us l:=by
 obtain ⟨h1,β,h2,h3⟩:=h
 refine ⟨h1,β,h2,fun i hi=>?_⟩
 obtain ⟨c0,c1,c2,c3,q0,q1,q2,q3,q4,q5⟩:=h3 i hi
 exact ⟨c0,c1,c2,c3,q0,q1,q2,q3,q4,CsO.mono (fun b hb q=>⟨hB b hb q.1,q.2⟩) q5⟩
end Go.Proofs.YtjahpnbijefncaaGreat
namespace Go.Proofs.YtjahpnbijefncaaGreat
set_option maxRecDepth 100000
set_option linter.unusedVariables false
open Go.RowKit
attribute [local go_sem ↓] Go.wp_at_zero Go.wp_at_succ
def IW8 (w:World) (xo:Option Addr) (n xc:Nat):Prop:=(xo=none∧n=0∧xc=0)∨∃ b cur,xo=some ⟨b,0,none⟩∧w.heap[b]? = some (.cells cur 3 (0,0))∧cur.size=xc∧n≤xc∧xc≤maxLen∧n * 8≤140737488351232
def KW8 (w:World) (xo:Option Addr) (n xc:Nat):Prop:=(xo=none∧n=0∧xc=0)∨∃ b cur,xo=some ⟨b,0,none⟩∧w.heap[b]? = some (.cells cur 89 (0,0))∧cur.size=xc * 5∧n≤xc∧xc≤maxLen∧n≤1000000000
structure SpJ (B:Nat→Prop) (w wr:World) (n:Nat) (po:Option Addr) (pl pc:Nat) (ko:Option Addr) (kc:Nat) (l:List (Int × Tr n)) (j:Nat):Prop where
 k:Kept B w wr
 i:IW8 wr po pl pc
 kw:KW8 wr ko l.length kc
 kid:l=[]∨∃ (g:Nat) (β:Nat→Nat),ko=some ⟨g,0,none⟩∧B g∧g<wr.heap.size∧(∀ i,β i≤β (i+1))∧∀ i (h:i<l.length),j≤i→∃ c0 c1 c2 c3,wr.cell? ⟨g,i * 5+1,none⟩=some c0∧wr.cell? ⟨g,i * 5+2,none⟩=some c1∧wr.cell? ⟨g,i * 5+3,none⟩=some c2∧wr.cell? ⟨g,i * 5+4,none⟩=some c3∧CsO (fun b=>(B b∧b≠g∧∀ a,po=some a→a.block≠b)∧β i≤b∧b<β (i+1)) wr n (.agg #[c0,c1,c2,c3]) l[i].2
theorem first_bad (L:List Sym) (R:List Ru):∀ m:Nat,AllT L R m∨∃ (K:Nat) (z:Int),K<m∧defB L (K:Int)=true∧treeF L R K=.error z∧AllT L R K
 | 0=>.inl (fun k h=>absurd h (by omega))
 | m+1=>by
  rcases first_bad L R m with h | ⟨K,z,h1,h2⟩
  ·by_cases hd:defB L (m:Int)=true
   ·cases ht:treeF L R m with
    | ok t=>exact .inl (h.step_yes ht)
    | error z=>exact .inr ⟨m,z,by omega,hd,ht,h⟩
   ·exact .inl (h.step_no (by simpa using hd))
  ·exact .inr ⟨K,z,by omega,h2⟩
def clsB8 (L:List Sym) (T:List Int):Bool:=decide (checkE L T=0) && !(T.any (fun x=>decide (x<0)))
theorem cls_neg8 {L:List Sym} {t:List Int} {k:Nat} (h:k<t.length) (hx:t[k]<0):clsB8 L t=false:=by
 have:t.any (fun x=>decide (x<0))=true:=List.any_eq_true.2 ⟨t[k],List.getElem_mem h,by simpa using hx⟩
 simp [clsB8,this]
theorem cls_none8 {L:List Sym} {t:List Int} (h:∀ x∈t,0≤x):clsB8 L t=decide (checkE L t=0):=by
 have:t.any (fun x=>decide (x<0))=false:=by
  rw [List.any_eq_false]
  intro x hx
  have:=h x hx
  simp;omega
 simp [clsB8,this]
theorem cls_pos8 {L:List Sym} {t:List Int} (h:clsB8 L t=true):checkE L t=0∧∀ x∈t,0≤x:=by
 unfold clsB8 at h
 simp only [Bool.and_eq_true,decide_eq_true_eq,Bool.not_eq_true', List.any_eq_false,decide_eq_true_eq] at h
 exact ⟨h.1,fun x hx=>by have:=h.2 x hx;omega⟩
set_option maxHeartbeats 4000000 in
theorem rclosed8_any {n:Nat} {w:World} {rv:Value} {L:List Sym} (h:Rl n w rv L) {ao:Option Addr} {cap:Nat} {t:List Int} (ht:IntsAt w ao t) (hm:t.length≤maxLen) :
  Calls Tryz.prog 20 #[rv,.slice ao t.length cap] w fun e w' => e=.returned (.bool (clsB8 L t))∧w' = w:=by
 have CK:=rcheck_any (cap:=cap) h ht hm
 unfold maxLen at hm
 obtain ⟨ro,rcap,rfl⟩:=row_shape h.1
 go_enter Tryz.func20,Tryz.ntmps20
 go_wp2
 go_loopw [5] (fun i wr=>∃ k:Nat,k≤t.length∧i=.int .i64 (k:Int)∧Hid (∀ x∈t.take k,0≤x)∧wr=w) (fun i _=>t.length-(intOf i).toNat)
 case atStart=>exact ⟨0,Nat.zero_le _,rfl,fun x hx=>by simp at hx,rfl⟩
 case round=>
  obtain ⟨k,hk,rfl,hH,rfl⟩:=hrel
  by_cases hlt:k<t.length
  ·obtain ⟨b,off,rfl,hb,hc⟩:=ht.get hlt
   have i1:(0:Int)≤(k:Int):=by omega
   have i2:(k:Int)<(t.length:Int):=by omega
   by_cases hx:t[k]<0
   ·have H:Hid (clsB8 L t=false):=cls_neg8 hlt hx
    generalize t[k]=x at *
    go_wp2
    go_ret
    exact ⟨by rw [H.out];rfl,rfl⟩
   ·have H:Hid (∀ x∈t.take (k+1),0≤x):=fun x hm' => by
     rw [← List.take_append_getElem hlt,List.mem_append] at hm'
     rcases hm' with h1 | h1
     ·exact hH.out x h1
     ·simp at h1;omega
    generalize t[k]=x at *
    go_wp2
    go_roundw
    case rel=>exact ⟨k+1,by omega,by go_num,H,trivial⟩
    case measure=>simp [intOf];omega
  ·have H:Hid (clsB8 L t=decide (checkE L t=0)):=cls_none8 (fun x hx=>hH.out x (by rw [List.take_of_length_le (by omega)];exact hx))
   generalize checkE L t=z at *
   go_wp2_with (first | (go_at_call 57;refine CK.mono ?_;rintro e w2 ⟨rfl,rfl⟩))
   go_ret
   exact ⟨by rw [H.out];rfl,rfl⟩
end Go.Proofs.YtjahpnbijefncaaGreat
namespace Go.Proofs.YtjahpnbijefncaaGreat
set_option linter.unusedVariables false
open Go.RowKit
attribute [local go_sem ↓] Go.wp_at_zero Go.wp_at_succ
def leadRA (L:List Sym) (t:List Int) (a:Nat) (path:List Int):Int:=match leads L t a path with | some q=>(q:Int) | none=>-1
theorem leads_badA {L:List Sym} {t path:List Int} {a q k:Nat} (h:leads L t a path=leads L t q (path.drop k)) (hk:k<path.length) (hq:q<t.length) (hn:path[k]<0∨(arN L t[q]:Int)≤path[k]):leads L t a path=none:=by
 rw [h,List.drop_eq_getElem_cons hk,leads]
 split
 ·rfl
 ·rw [argsN_eq hq,List.getElem?_eq_none (by rw [starts_length];omega)]
theorem leads_goodA {L:List Sym} {t path:List Int} {a q k i:Nat} (h:leads L t a path=leads L t q (path.drop k)) (hk:k<path.length) (hq:q<t.length) (hi:path[k]=(i:Int)) (hn:i<arN L t[q]):leads L t a path=leads L t (past L t i (q+1)) (path.drop (k+1)):=by
 rw [h,List.drop_eq_getElem_cons hk,leads,hi,if_neg (by omega),argsN_eq hq]
 simp only [Int.toNat_natCast]
 rw [starts_at hn]
set_option maxHeartbeats 4000000 in
theorem rfromA_any {n:Nat} {w:World} {rv:Value} {L:List Sym} (h:Rl n w rv L) {ao po:Option Addr} {cap pcap:Nat} {t path:List Int} (ht:IntsAt w ao t) (hm:t.length≤2000) (hT:IsT L t) {a:Nat} (ha:a<t.length) (hp:IntsAt w po path) (hpm:path.length≤maxLen) :
  Calls Tryz.prog 25 #[rv,.slice ao t.length cap,.int .i64 (a:Int),.slice po path.length pcap] w fun e w' => e=.returned (.int .i64 (leadRA L t a path))∧Same0 w w' := by
 unfold maxLen at hpm
 have c1:∀ w1 q,Same0 w w1→q<t.length→Calls Tryz.prog 66 #[rv,.slice ao t.length cap,.int .i64 (q:Int)] w1 fun e w' => ∃ v,e=.returned v∧Row w1.heap.size w' v (ofN (argsN L t q))∧Same0 w1 w' := fun w1 q hk hq=>rargs_any (cap:=cap) (h.same hk) (ht.same hk) hm hT q hq
 obtain ⟨ro,rcap,rfl⟩:=row_shape h.1
 go_enter Tryz.func25,Tryz.ntmps25
 go_wp2
 go_loopw [2,9] (fun at' i wr=>∃ k q:Nat,k≤path.length∧i=.int .i64 (k:Int)∧at' = .int .i64 (q:Int)∧q<t.length∧Hid (leads L t a path=leads L t q (path.drop k))∧Same0 w wr) (fun _ i _=>path.length-(intOf i).toNat)
 case atStart=>exact ⟨0,a,Nat.zero_le _,rfl,rfl,ha,by simp [Hid],Kept.refl _ _⟩
 case round=>
  obtain ⟨k,q,hk,rfl,rfl,hq,HL,hs⟩:=hrel
  by_cases hlt:k<path.length
  ·have cA:=c1 _ _ hs hq
   obtain ⟨pb,poff,rfl,hpb,hpc⟩:=(hp.same hs).get hlt
   have i1:(0:Int)≤(k:Int):=by omega
   have i2:(k:Int)<(path.length:Int):=by omega
   have hlen:(ofN (argsN L t q)).length=arN L t[q]:=by rw [argsN_eq hq];simp [ofN,starts_length]
   clear c1
   go_wp2_with fail
   refine cA.mono ?_
   rintro e w2 ⟨v,rfl,hr,hk2⟩
   have hpc2:w2.cell? ⟨pb,poff+k,none⟩=some (.int .i64 path[k]):=(hk2.cell (p:=⟨pb,poff+k,none⟩) hpb (fun f=>f)).trans hpc
   have hs2:=hs.trans' hk2
   clear cA hpc
   by_cases hn0:path[k]<0
   ·have H:Hid (leadRA L t a path = -1):=by
     have:=leads_badA HL.out hlt hq (.inl hn0)
     simp [leadRA,this,Hid]
    obtain ⟨vo,vcap,rfl⟩:=row_shape hr
    go_wp2
    go_ret
    exact ⟨ret_int H.out.symm,hs2⟩
   ·by_cases hna:(arN L t[q]:Int)≤path[k]
    ·have H:Hid (leadRA L t a path = -1):=by
      have:=leads_badA HL.out hlt hq (.inr hna)
      simp [leadRA,this,Hid]
     obtain ⟨vo,vcap,rfl⟩:=row_shape hr
     have hna' : ((ofN (argsN L t q)).length:Int)≤path[k]:=by omega
     go_wp2
     go_ret
     exact ⟨ret_int H.out.symm,hs2⟩
    ·obtain ⟨i,hi⟩:∃ i:Nat,path[k]=(i:Int):=⟨path[k].toNat,by omega⟩
     have hia:i<arN L t[q]:=by omega
     have HN:Hid (leads L t a path=leads L t (past L t i (q+1)) (path.drop (k+1))):=leads_goodA HL.out hlt hq hi hia
     have hpl:=past_lt hT hq hia
     obtain ⟨g,vcap,rfl,hg,hgc⟩:=hr.get (i:=i) (by omega)
     have hge:(ofN (argsN L t q))[i]'(by omega)=((past L t i (q+1):Nat):Int):=by
      have e1:=starts_at (L:=L) (t:=t) (p:=q+1) hia
      rw [← argsN_eq hq] at e1
      have e2:=(List.getElem?_eq_some_iff.1 e1).2
      simp [ofN,e2]
     rw [hge] at hgc
     rw [hi] at hpc2
     have j1:(0:Int)≤(i:Int):=by omega
     have j2:(i:Int)<((ofN (argsN L t q)).length:Int):=by omega
     have j3:¬ (ofN (argsN L t q)).length≤i:=by omega
     have j4:decide ((ofN (argsN L t q)).length≤i)=false:=by simp;omega
     clear hge hn0 hna HL hi
     generalize (ofN (argsN L t q)).length=N at *
     generalize past L t i (q+1)=P at *
     go_wp2
     exact ⟨⟨k+1,P,by omega,by go_num,rfl,hpl,HN,hs2⟩,by simp [intOf];omega⟩
  ·have H:Hid (leadRA L t a path=(q:Int)):=by
    have:=HL.out
    rw [List.drop_eq_nil_of_le (by omega)] at this
    simp [leadRA,this,leads,Hid]
   clear c1
   go_wp2
   go_ret
   exact ⟨ret_int H.out.symm,hs⟩
end Go.Proofs.YtjahpnbijefncaaGreat
namespace Go.Proofs.YtjahpnbijefncaaGreat
set_option maxRecDepth 100000
set_option linter.unusedVariables false
open Go.RowKit
theorem match_some {L:List Sym} {p T:List Int} {a:Nat} {σ:Tb} (hE:matchE L p T (a:Int)=0) (hS:matchS L p T (a:Int)=some σ):mw L p (subN L T a) noT=some σ∧matchB L p T (a:Int)=blN σ 100:=by
 refine ⟨?_,by rw [matchB,hS]⟩
 rw [matchS,if_pos hE] at hS
 simpa using hS
theorem apply_right {L:List Sym} {p r T:List Int} {a:Nat} {σ:Tb} (hp:checkE L p=0) (hr:checkE L r=0) (hT:checkE L T=0) (ha:a<T.length) (hm:mw L p (subN L T a) noT=some σ) :
  applyE L r (blN σ 100)=(if 2000<(appT σ r).length then 20 else 0)∧(¬ 2000<(appT σ r).length→applyA L r (blN σ 100)=appT σ r)∧∀ x∈blN σ 100,x.2.length≤2000:=by
 obtain ⟨p1,p2,p3⟩:=checkE_zero.1 hp
 obtain ⟨t1,t2,t3⟩:=checkE_zero.1 hT
 have hse:=sub_end t3 ha
 have hev:=even_term p3 (sub_need t3 ha)
 have hb:badE L (subN L T a)=0:=by
  rw [badE_zero] at t2 ⊢
  exact fun x hx=>t2 x (List.mem_of_mem_take (List.mem_of_mem_drop hx))
 obtain ⟨f1,f2⟩:=fits_tab (fun x hx=>(badE_zero.1 p2 x hx).2) hev hb (by omega) hm
 have e:applyE L r (blN σ 100)=(if 2000<(appT σ r).length then 20 else 0):=by
  unfold applyE
  rw [if_neg (by simp [hr]),f1]
 refine ⟨e,fun h=>?_,fun x hx=>?_⟩
 ·unfold applyA
  rw [e,if_neg h,if_pos rfl,f1]
 ·obtain ⟨y,_,rfl,hy⟩:=blN_mem hx
  have:=mw_good hev hb (by omega) hm (fun v h=>absurd rfl h) y hy
  exact (checkE_zero.1 this).1
theorem inst_term {L:List Sym} {p T:List Int} {a:Nat} {σ:Tb} (hp:checkE L p=0) (hT:checkE L T=0) (ha:a<T.length) (hm:mw L p (subN L T a) noT=some σ) {y:Int} (hn:y<0):0<(inst σ y).length:=by
 obtain ⟨p1,p2,p3⟩:=checkE_zero.1 hp
 obtain ⟨t1,t2,t3⟩:=checkE_zero.1 hT
 have hse:=sub_end t3 ha
 have hb:badE L (subN L T a)=0:=by
  rw [badE_zero] at t2 ⊢
  exact fun x hx=>t2 x (List.mem_of_mem_take (List.mem_of_mem_drop hx))
 have:=mw_good (even_term p3 (sub_need t3 ha)) hb (by omega) hm (fun v h=>absurd rfl h)
 exact isT_pos (inst_need (L:=L) (fun v hv=>(checkE_zero.1 (this v hv)).2.2) hn)
theorem app_take_le (σ:Tb) (r:List Int) (k:Nat):(appT σ (r.take k)).length≤(appT σ r).length:=by
 rw [app_cut σ r k,List.length_append];omega
theorem imatch_any {w:World} {bs:Nat} {L:List Sym} (hs:Sg w.heap.size w bs L) {P T:List Int} {g c:Nat} (hP:TmAt w g c P) (hz:checkE L P=0) {tto:Option Addr} {tc:Nat} (hT:Arg w tto T tc) (htm:T.length≤maxLen) {a:Nat} (hE:matchE L P T (a:Int)=0) :
  Calls Tryz.prog 23 #[.pointer (some ⟨bs,0,none⟩),.slice (some ⟨g,0,none⟩) P.length c,.slice tto T.length tc,.int .i64 (a:Int)] w fun e w' => ∃ bo bc,e=.returned (.tuple #[.slice bo (matchB L P T (a:Int)).length bc,.bool (matchS L P T (a:Int)).isSome,.int .i64 0])∧Hid (BindsAt w' bo (matchB L P T (a:Int)))∧Same0 w w' := by
 have h200:=(checkE_zero.1 hz).1
 have hA:=hP.arg h200
 refine (match_any hs (Nat.le_refl _) (pcap:=c) hA.at' (by unfold maxLen;omega) hT.at' htm hT.cap' (a:Int)).mono ?_
 rintro e w' ⟨v,l,rfl,hB,h2⟩
 obtain ⟨bo,bc,rfl,hBA,_⟩:=hB.at'
 rw [hE]
 exact ⟨bo,bc,rfl,hBA,h2⟩
theorem iapply_any {w:World} {bs:Nat} {L:List Sym} (hs:Sg w.heap.size w bs L) {G:List Int} {g c:Nat} (hG:TmAt w g c G) (hz:checkE L G=0) {bo:Option Addr} {B:List Bd} (hB:BindsAt w bo B) (hl:B.length≤100) (hx:∀ x∈B,x.2.length≤2000) (bc:Nat) :
  Calls Tryz.prog 24 #[.pointer (some ⟨bs,0,none⟩),.slice (some ⟨g,0,none⟩) G.length c,.slice bo B.length bc] w fun e w' => ∃ ao ac,e=.returned (.tuple #[.slice ao (applyA L G B).length ac,.int .i64 (applyE L G B)])∧Hid (IntsAt w' ao (applyA L G B))∧Same0 w w' := by
 have h200:=(checkE_zero.1 hz).1
 have hA:=hG.arg h200
 refine (apply_any (cap:=c) (lcap:=bc) hs hA.at' (by unfold maxLen;omega) hB (by unfold maxLen;omega) (fun x h=>by have:=hx x h;unfold maxLen;omega)).mono ?_
 rintro e w' ⟨v,rfl,hr,hk⟩
 obtain ⟨ao,ac,rfl,i1,_⟩:=hr.ints
 exact ⟨ao,ac,rfl,i1,hk⟩
theorem rsubH_any {n:Nat} {w:World} {rv:Value} {L:List Sym} (h:Rl n w rv L) {ao:Option Addr} {cap:Nat} {t:List Int} (ht:Arg w ao t cap) (hm:t.length≤2000) (hT:IsT L t) {p:Nat} (hp:p<t.length) {U:List Int} (hU:subN L t p=U) (hpos:0<U.length) :
  Calls Tryz.prog 26 #[rv,.slice ao t.length cap,.int .i64 (p:Int)] w fun e w' => ∃ ub uf uc,e=.returned (.slice (some ⟨ub,uf,none⟩) U.length uc)∧IntsAt w' (some ⟨ub,uf,none⟩) U∧Same0 w w' := by
 refine (rsub_any h ht.at' hm ht.cap' hT p hp).mono ?_
 rintro e w' ⟨v,rfl,hr,hk⟩
 rw [hU] at hr
 obtain ⟨uo,uc,rfl,i1,_⟩:=hr.ints
 obtain ⟨ub,uf,rfl,_,_⟩:=i1.get hpos
 exact ⟨ub,uf,uc,rfl,i1,hk⟩
end Go.Proofs.YtjahpnbijefncaaGreat
