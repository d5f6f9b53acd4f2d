import Derived.Test.YtcbplgfkgkefeaaGH01
import Derived.Laws.OwnMore
import Derived.SizedLaws
namespace Go.Proofs.Ytcbplgfkgkefeaa
set_option maxRecDepth 100000
set_option linter.unusedVariables false
open Go.RowKit
attribute [local go_sem ↓] Go.wp_at_zero Go.wp_at_succ
set_option maxHeartbeats 1000000 in
theorem next_any {w:World} {x:Nd} {ao:Option Addr} {ac:Nat} (hx:ArgT w ao x.2.1 ac) :
  Calls Try.prog 63 #[nodeV x ao ac] w fun e w' => ∃ bo bc,e=.returned (.slice bo (downL x).length bc)∧IntsAt w' bo (downL x)∧(∀ a,bo=some a→ao=some a∨(w.heap.size≤a.block∧a.block<w'.heap.size))∧Same0 w w' := by
 obtain ⟨W0,hW0⟩:∃ W0,W0=w.alloc (.cells #[.int .i64 x.1,.slice ao x.2.1.length ac,.int .i64 x.2.2.1,.bool x.2.2.2.1,.int .i64 x.2.2.2.2] 45):=⟨_,rfl⟩
 have k0:Same0 w W0:=by rw [hW0];exact (Kept.refl _ w).alloc _
 have hb:W0.heap[w.heap.size]? = some (.cells #[.int .i64 x.1,.slice ao x.2.1.length ac,.int .i64 x.2.2.1,.bool x.2.2.2.1,.int .i64 x.2.2.2.2] 45 (0,0)):=by rw [hW0];exact heap_alloc_new w _
 obtain ⟨b0,b1,b2,b3,b4⟩:=box5 hb
 have hz:=k0.size
 obtain ⟨pb,hp⟩:∃ pb,x.2.2.2.1=pb:=⟨_,rfl⟩
 cases pb
 ·have hd:downL x=x.2.1:=by unfold downL;rw [hp];rfl
  have H:Hid (IntsAt W0 ao x.2.1∧Same0 w W0):=⟨hx.1.at'.same k0,k0⟩
  rw [hd]
  rw [hp] at b3
  clear hd hx k0 hb hz hp
  go_enter Try.func63,Try.ntmps63
  go_upto_region 1 with fail
  rw [← hW0]
  clear hW0
  go_wp2
  go_ret
  exact ⟨ao,ac,rfl,H.out.1,fun a e=>.inl e,H.out.2⟩
 ·have hd:downL x=[x.2.2.2.2]:=by unfold downL;rw [hp];rfl
  have H:Hid (IntsAt (W0.alloc (.cells #[.int .i64 x.2.2.2.2] 3)) (some ⟨W0.heap.size,0,none⟩) [x.2.2.2.2]∧(∀ a,some (⟨W0.heap.size,0,none⟩:Addr)=some a→ao=some a∨(w.heap.size≤a.block∧a.block<(W0.alloc (.cells #[.int .i64 x.2.2.2.2] 3)).heap.size))∧Same0 w (W0.alloc (.cells #[.int .i64 x.2.2.2.2] 3))):=⟨ints_one _ _,fun a e=>by cases e;exact .inr ⟨hz,by simp⟩,k0.alloc _⟩
  rw [hd]
  rw [hp] at b3
  clear hd hx k0 hb hz hp
  go_enter Try.func63,Try.ntmps63
  go_upto_region 1 with fail
  rw [← hW0]
  clear hW0
  go_wp2
  go_ret
  exact ⟨_,1,rfl,H.out.1,H.out.2.1,H.out.2.2⟩
theorem info_boolT:(Try.prog.info? 4).map (fun i=>(i.zero,i.size,i.bytes))=some (some (.bool false),1,1):=by kernel_rfl
def bv (m:List Bool):List Value:=m.map Value.bool
theorem bv_set (m:List Bool) (k:Nat) (b:Bool):bv (m.set k b)=(bv m).set k (.bool b):=by simp [bv,List.map_set]
theorem made_bools (n:Nat):(madeCells (Value.bool false).cells (n * 1)).toList=bv (List.replicate n false):=by
 rw [Nat.mul_one,show (Value.bool false).cells = #[Value.bool false] from rfl,toList_madeCells_one]
 simp [bv]
theorem row_bool {w:World} {base g N:Nat} {m:List Bool} (h:w.ownsRow base 4 1 (.slice (some ⟨g,0,none⟩) N N) N (bv m)) {k:Nat} (hk:k<N):∃ b,m[k]? = some b∧w.cell? ⟨g,k,none⟩=some (.bool b)∧w.frozen? ⟨g,k,none⟩=false:=by
 have hl:m.length=N:=by have:=h.1;simp [bv] at this;omega
 refine ⟨m[k]'(by omega),by simp [hl,hk],?_,h.frozenAt k⟩
 rw [h.cellAt k (by omega)]
 simp [bv,hl,hk]
theorem ofN_snoc (F:List Nat) (b:Nat):ofN (F ++ [b])=ofN F ++ [(b:Int)]:=by simp [ofN]
theorem ofN_len' (F:List Nat):(ofN F).length=F.length:=by simp [ofN]
theorem ofN_at {F:List Nat} {i:Nat} (h:i<(ofN F).length):(ofN F)[i]=((F[i]'(by simpa [ofN] using h):Nat):Int):=by simp [ofN]
structure NsAt (w:World) (g N:Nat) (l:List Nd):Prop where
 lt:g<w.heap.size
 le:l.length≤N
 big:N≤4000
 each:∀ i (hi:i<l.length),NdC (fun b=>b<w.heap.size) w g (i * 5) l[i]
 inl:InL l
 few:∀ x∈l,x.2.1.length≤6
theorem NsAt.same {w w' : World} {g N:Nat} {l:List Nd} (h:NsAt w g N l) (hk:Same0 w w'):NsAt w' g N l:=
 ⟨Nat.lt_of_lt_of_le h.lt hk.size,h.le,h.big,fun i hi=>((h.each i hi).kept h.lt hk (fun f=>f) (fun _ _ f=>f.elim)).mono (fun k _ _ e=>Nat.lt_of_lt_of_le e hk.size),h.inl,h.few⟩
theorem HpB.ns {B:Nat→Prop} {w:World} {h g room:Nat} {l:List Nd} (p:HpB B w h g room l):NsAt w g room l:=
 ⟨p.ltG,p.le,p.rm2,fun i hi=>(p.each i hi).mono (fun k hk _ _=>hk),p.inl,fun x hx=>(may_facts (p.may x hx)).2.1⟩
structure StAt' (w wr:World) (mb N:Nat) (met:List Bool) (F:List Nat) (v:Value):Prop where
 mt:wr.ownsRow w.heap.size 4 1 (.slice (some ⟨mb,0,none⟩) N N) N (bv met)
 fd:Row (mb+1) wr v (ofN F)
 kp:Same0 w wr
 lo:w.heap.size≤mb
theorem StAt'.same {w wr w' : World} {mb N:Nat} {met:List Bool} {F:List Nat} {v:Value} (h:StAt' w wr mb N met F v) (hk:Same0 wr w'):StAt' w w' mb N met F v:=
 ⟨hk.row h.mt (fun _ _ f=>f),hk.row h.fd (fun _ _ f=>f),h.kp.trans' hk,h.lo⟩
theorem wpList_pushN {w0:World} {ops:Array Oper} {rest:List Oper} {o:Oper} {a:Act} {Q:Exit→Act→World→Prop} (hgd:o.guard=none) (s x:Operand) (t:TypeId)
  (ho:o.op=.call { callee:=.builtin .append,args:=#[s,x],argTypes:=#[t,t] }) (ht:Try.prog.underlying t=some (.slice 3))
  (base:Nat) (xs:List Int) (v:Value) (hs:a.eval s=v) (hr:Row base w0 v xs) (y:Int) (n:Nat) (hn:w0.heap.size=n) (hx:a.eval x=.slice (some ⟨n,0,none⟩) 1 1) (hb:base≤w0.heap.size) (hsz:(xs.length+1) * 8≤140737488355328)
  (h:∀ g cap w', Row base w' (.slice (some ⟨g,0,none⟩) (xs.length+1) cap) (xs ++ [y])→Kept (fun k=>v.ownBlock=some k) w0 w' → (v.ownBlock=some g∨w0.heap.size≤g)→wpList Try.prog ops Q rest (a.put o.dst (.slice (some ⟨g,0,none⟩) (xs.length+1) cap)) w') :
  wpList Try.prog ops Q (o :: rest) a (w0.alloc (.cells #[.int .i64 y] 3)):=by
 subst hn
 exact wpList_push hgd s x t ho ht base xs v hs hr y hx hb hsz h
theorem row_one (w:World) (base:Nat) (hb:base≤w.heap.size) (z:Int):Row base (w.alloc (.cells #[.int .i64 z] 3)) (.slice (some ⟨w.heap.size,0,none⟩) 1 1) [z]:=
 ⟨rfl,.inr ⟨w.heap.size,1, #[.int .i64 z],rfl,hb,heap_alloc_new w _,Nat.le_refl _,by unfold maxLen;omega,rfl,rfl⟩⟩
theorem StAt'.put {w wr:World} {mb N:Nat} {met:List Bool} {F:List Nat} {v:Value} (h:StAt' w wr mb N met F v) (b:Nat):StAt' w (wr.setCell ⟨mb,b,none⟩ (.bool true)) mb N (met.set b true) F v∧Kept (fun k=>k=mb) wr (wr.setCell ⟨mb,b,none⟩ (.bool true)):=by
 have K:Kept (fun k=>k=mb) wr (wr.setCell ⟨mb,b,none⟩ (.bool true)):=Kept.setCell (S:=fun k=>k=mb) (Kept.refl _ _) (p:=⟨mb,b,none⟩) (fun _=>rfl) _
 refine ⟨⟨by rw [bv_set];exact (h.mt.stored b _).1,K.row h.fd (fun k e q=>?_),h.kp.own h.lo _,h.lo⟩,K⟩
 have:=(h.fd.lt k e).1
 omega
theorem StAt'.push {w wr w4:World} {mb N:Nat} {met:List Bool} {F:List Nat} {v v' : Value} {b:Nat} (h:StAt' w wr mb N met F v) (hr:Row (mb+1) w4 v' (ofN F ++ [(b:Int)])) (hk:Kept (fun k=>v.ownBlock=some k) wr w4):StAt' w w4 mb N met (F ++ [b]) v' := by
 have lo:=h.lo
 refine ⟨hk.row h.mt (fun k e q=>?_),by rw [ofN_snoc];exact hr,h.kp.trans hk (fun i hi e=>?_),h.lo⟩
 ·have:=(h.fd.lt k q).1
  have e' : mb=k:=Option.some.inj e
  omega
 ·have:=(h.fd.lt i e).1
  omega
set_option maxHeartbeats 4000000 in
theorem stands_any {w:World} {g N cap:Nat} {l:List Nd} (h:NsAt w g N l) (a top:Nat) (ha:a<l.length) (ht:top<l.length) :
  Calls Try.prog 54 #[.slice (some ⟨g,0,none⟩) N cap,.int .i64 (a:Int),.int .i64 (top:Int)] w fun e w' => ∃ b:Bool,e=.returned (.bool b)∧(b=true ↔ Rc l top a)∧Same0 w w' := by
 obtain ⟨i,hi,hz0,hz1,hz2⟩:=info_parts info_boolT
 have hle:=h.le
 have hbig:=h.big
 have i1:(0:Int)≤(top:Int):=by omega
 have i2:(top:Int)<(N:Int):=by omega
 have i3:(0:Int)≤(a:Int):=by omega
 have i4:(a:Int)<(N:Int):=by omega
 have i5:(0:Int)≤(N:Int):=by omega
 go_enter Try.func54,Try.ntmps54
 go_upto_region 2 with (first | (at_make;refine wpList_make_full _ rfl _ _ 77 rfl w.heap.size 4 i _ 1 Try.underlying77 hi hz0 hz1 _ _ _ _ N rfl rfl rfl rfl (by rw [hz2];omega) (by unfold maxLen;omega) (Nat.le_refl _) ?_;intro w1 hown hgrow))
 rw [made_bools] at hown
 have K1:Same0 w w1:=Same0.grown (Kept.refl _ w) hgrow
 obtain ⟨mb,hmb⟩:∃ mb,mb=w.heap.size:=⟨_,rfl⟩
 have Hmb:Hid (mb=w.heap.size):=hmb
 have s1:=(hown.stored top (.bool true)).1
 rw [← bv_set] at s1
 have hg1:mb<w1.heap.size:=by have:=(hown.lt w.heap.size rfl).2;omega
 have K2:Same0 w (w1.setCell ⟨w.heap.size,top,none⟩ (.bool true)):=K1.own (Nat.le_refl _) _
 obtain ⟨_, -,m1,m2⟩:=row_bool hown (show top<N by omega)
 have S0:Hid (StAt' w ((w1.setCell ⟨mb,top,none⟩ (.bool true)).alloc (.cells #[.int .i64 (top:Int)] 3)) mb N ((List.replicate N false).set top true) [top] (.slice (some ⟨w1.heap.size,0,none⟩) 1 1)):=by
  have k9:Same0 (w1.setCell ⟨mb,top,none⟩ (.bool true)) ((w1.setCell ⟨mb,top,none⟩ (.bool true)).alloc (.cells #[.int .i64 (top:Int)] 3)):=(Kept.refl _ _).alloc _
  have e9:(w1.setCell ⟨mb,top,none⟩ (.bool true)).heap.size=w1.heap.size:=by simp [World.setCell]
  subst hmb
  refine ⟨k9.row s1 (fun _ _ f=>f),?_,K2.trans' k9,Nat.le_refl _⟩
  have:=row_one (w1.setCell ⟨w.heap.size,top,none⟩ (.bool true)) (w.heap.size+1) (by rw [e9];omega) (top:Int)
  rw [e9] at this
  exact this
 have HB0:Hid (Bf l top N ((List.replicate N false).set top true) [top]):=Bf.start ht (by omega)
 have HN:Hid (∀ ww,Same0 w ww→NsAt ww g N l):=fun ww hk=>h.same hk
 have HL:Hid (∀ ww,Same0 w ww→∀ j (hj:j<l.length),∃ ao ac,ww.cell? ⟨g,j * 5,none⟩=some (.int .i64 l[j].1)∧ww.cell? ⟨g,j * 5+1,none⟩=some (.slice ao l[j].2.1.length ac)∧ww.cell? ⟨g,j * 5+2,none⟩=some (.int .i64 l[j].2.2.1)∧ww.cell? ⟨g,j * 5+3,none⟩=some (.bool l[j].2.2.2.1)∧ww.cell? ⟨g,j * 5+4,none⟩=some (.int .i64 l[j].2.2.2.2)∧ArgT ww ao l[j].2.1 ac∧∀ x,ao=some x→x.block<w.heap.size):=fun ww hk j hj=>by
  obtain ⟨ao,ac,n0,n1,n2,n3,n4,n5,n6⟩:=(h.each j hj).kept h.lt hk (fun f=>f) (fun _ _ f=>f.elim)
  exact ⟨ao,ac,n0,n1,n2,n3,n4,n5,n6⟩
 have HI:Hid (InL l):=h.inl
 have HW:Hid (∀ x∈l,x.2.1.length≤6):=h.few
 rw [← hmb] at m1 m2 ⊢
 clear hmb hown hgrow s1 K1 K2 hz0 hz1 hz2 hi h
 go_upto_region 4 with fail
 go_wp2
 clear m1 m2
 go_loopw [8,9] (fun f i wr=>∃ (k:Nat) (met:List Bool) (F:List Nat),i=.int .i64 (k:Int)∧k≤(ofN F).length∧Hid (StAt' w wr mb N met F f)∧Hid (Bf l top N met F)∧Hid (Cl l F k)) (fun _ i _=>N+1-(intOf i).toNat)
 case atStart=>exact ⟨0,_,_,rfl,Nat.zero_le _,S0,HB0,fun k hk h0=>absurd h0 (Nat.not_lt_zero _)⟩
 case round=>
  clear S0 HB0
  obtain ⟨k,met,F,rfl,hk,HS,HB,HC⟩:=hrel
  have hFN:(ofN F).length≤N:=by rw [ofN_len'];exact HB.out.le
  obtain ⟨fo,fc,rfl⟩:=row_shape HS.out.fd
  obtain ⟨b,hb1,hb2,hb3⟩:=row_bool HS.out.mt (show a<N by omega)
  have HB1:Hid (met[a]? = some b):=hb1
  clear hb1 hb3
  by_cases hlt:k<(ofN F).length
  ·cases b
   ·have j1:(k:Int)<((ofN F).length:Int):=by omega
    have j0:(0:Int)≤(k:Int):=by omega
    have hkF:k<F.length:=by rwa [ofN_len'] at hlt
    obtain ⟨fk,hfk⟩:∃ fk,fk=F[k]:=⟨_,rfl⟩
    have hfl:fk<l.length:=by rw [hfk];exact (HB.out.each _ (List.getElem_mem hkF)).1
    have j2:(0:Int)≤(fk:Int):=by omega
    have j3:(fk:Int)<(N:Int):=by omega
    obtain ⟨fo', ac', e,hfi, -, -⟩:=HS.out.fd.ints
    cases e
    obtain ⟨fb,foff,rfl, -,cF⟩:=hfi.get hlt
    rw [ofN_at hlt,← hfk] at cF
    obtain ⟨ao,ac,n0,n1,n2,n3,n4,n5,n6⟩:=HL.out wr HS.out.kp fk hfl
    have CN:=next_any n5
    have HFK:Hid (F[k]? = some fk):=by show _=_;rw [hfk];simp [hkF]
    have HRC:Hid (Rc l top fk):=by show Rc _ _ _;rw [hfk];exact (HB.out.each _ (List.getElem_mem hkF)).2
    have HD:Hid (∀ z∈downL l[fk],0≤z∧z<(l.length:Int)):=HI.out fk hfl
    have HDE:Hid (∀ z:Nat,(z:Int)∈downL l[fk]→Ed l fk z):=fun z hz=>⟨hfl,hz⟩
    have HDL:Hid ((if h:fk<l.length then downL l[fk] else [])=downL l[fk]):=by show _=_;rw [dif_pos hfl]
    have HAO:Hid (∀ x,ao=some x→x.block<w.heap.size):=n6
    have dl:(downL l[fk]).length≤1000:=by have:=HW.out _ (List.getElem_mem hfl);unfold downL;split <;> (simp;try omega)
    generalize downL l[fk]=D at *
    clear n5 n6 hfi hfk
    go_upto_region 8 with (first | (go_at_call 63;refine CN.mono ?_;rintro e w3 ⟨bo,bc,rfl,hD,hbo,hk3⟩))
    have HS3:Hid (StAt' w w3 mb N met F (.slice (some ⟨fb,foff,none⟩) (ofN F).length fc)):=HS.out.same hk3
    have HBO:Hid (IntsAt w3 bo D∧∀ x,bo=some x→x.block<w3.heap.size∧(Value.slice (some ⟨fb,foff,none⟩) (ofN F).length fc).ownBlock≠some x.block∧x.block≠mb):=by
     have hkp:=HS.out.kp
     have hlo:=HS.out.lo
     refine ⟨hD,fun x e=>?_⟩
     have hfb:=HS.out.fd.lt fb rfl
     have hmb:=HS.out.mt.lt mb rfl
     have hne:(Value.slice (some ⟨fb,foff,none⟩) (ofN F).length fc).ownBlock=some fb:=rfl
     rcases hbo x e with q | q
     ·have q1:=HAO.out x q
      have:=hk3.size
      have:=hkp.size
      exact ⟨by omega,fun t=>by rw [hne] at t;cases t;omega,by omega⟩
     ·exact ⟨q.2,fun t=>by rw [hne] at t;cases t;omega,by omega⟩
    clear hbo hk3 hD CN n0 n1 n2 n3 n4 cF hb2
    go_loopw [8,42] (fun f c wr2=>∃ (q:Nat) (met' : List Bool) (F' : List Nat),c=.int .i64 (q:Int)∧q≤D.length∧Hid (StAt' w wr2 mb N met' F' f)∧Hid (Bf l top N met' F')∧Hid (Cl l F' k∧F'[k]? = some fk)∧Hid (∀ z∈D.take q,z.toNat∈F')∧Hid (IntsAt wr2 bo D∧∀ x,bo=some x→x.block<wr2.heap.size∧f.ownBlock≠some x.block∧x.block≠mb)) (fun _ c _=>D.length-(intOf c).toNat)
    case atStart=>exact ⟨0,met,F,rfl,Nat.zero_le _,HS3,HB,⟨HC.out,HFK.out⟩,fun z hz=>by simp at hz,HBO⟩
    case round=>
     clear HS3 HBO
     obtain ⟨q,met', F', rfl,hq,HS', HB', HC', HT', HO'⟩:=hrel
     obtain ⟨fo2,fc2,rfl⟩:=row_shape HS'.out.fd
     by_cases hql:q<D.length
     ·have q0:(0:Int)≤(q:Int):=by omega
      have q1:(q:Int)<(D.length:Int):=by omega
      obtain ⟨db,doff,rfl, -,cD⟩:=HO'.out.1.get hql
      have hz:=HD.out _ (List.getElem_mem hql)
      obtain ⟨b,hb⟩:∃ b:Nat,D[q]=(b:Int):=⟨D[q].toNat,by omega⟩
      rw [hb] at cD hz
      have HE:Hid (Ed l fk b):=HDE.out b (hb ▸ List.getElem_mem hql)
      have HTQ:Hid (∀ F2:List Nat,(∀ z∈D.take q,z.toNat∈F2)→b∈F2→∀ z∈D.take (q+1),z.toNat∈F2):=fun F2 h1 h2 z hz=>by
       rw [List.take_succ_eq_append_getElem hql,List.mem_append] at hz
       rcases hz with hz | hz
       ·exact h1 z hz
       ·simp at hz;rw [hz,hb];simpa using h2
      have q2:(0:Int)≤(b:Int):=by omega
      have q3:(b:Int)<(N:Int):=by omega
      obtain ⟨vb,m0,m1,m2⟩:=row_bool HS'.out.mt (show b<N by omega)
      have HM:Hid (met'[b]? = some vb):=m0
      have hFN' : (ofN F').length≤N:=by rw [ofN_len'];exact HB'.out.le
      have hbl:b<l.length:=by omega
      clear hb m0
      cases vb
      ·obtain ⟨P1,PK⟩:=HS'.out.put b
       have HP1:Hid (StAt' w (wr.setCell ⟨mb,b,none⟩ (.bool true)) mb N (met'.set b true) F' (.slice fo2 (ofN F').length fc2)):=P1
       have HPK:Hid (Kept (fun k=>k=mb) wr (wr.setCell ⟨mb,b,none⟩ (.bool true))):=PK
       have RW:=P1.fd
       have hbs:mb+1≤(wr.setCell ⟨mb,b,none⟩ (.bool true)).heap.size:=by have:=(P1.mt.lt mb rfl).2;omega
       have esz:(wr.setCell ⟨mb,b,none⟩ (.bool true)).heap.size=wr.heap.size:=by simp [World.setCell]
       clear P1 PK
       go_wp2_with (first | (at_builtin;refine wpList_pushN rfl _ _ 31 rfl Try.underlying31 (mb+1) (ofN F') _ rfl RW (b:Int) _ esz rfl hbs (by omega) ?_;intro g4 cap4 w4 hr4 hk4 hor))
       have P4:StAt' w w4 mb N (met'.set b true) (F' ++ [b]) (.slice (some ⟨g4,0,none⟩) ((ofN F').length+1) cap4):=HP1.out.push hr4 hk4
       have P5:Hid (StAt' w w4 mb N (met'.set b true) (F' ++ [b]) (.slice (some ⟨g4,0,none⟩) ((ofN F').length+1) cap4)):=P4
       have B5:Hid (Bf l top N (met'.set b true) (F' ++ [b])):=HB'.out.push HM.out hbl (HRC.out.snoc HE.out)
       have C5:Hid (Cl l (F' ++ [b]) k∧(F' ++ [b])[k]? = some fk):=by
        obtain ⟨c1,c2⟩:=HC'.out
        have hk' := (List.getElem?_eq_some_iff.1 c2).1
        exact ⟨c1.push (by omega) b,by rw [List.getElem?_append_left hk'];exact c2⟩
       have T5:Hid (∀ z∈D.take (q+1),z.toNat∈F' ++ [b]):=HTQ.out _ (fun z hz=>List.mem_append.2 (.inl (HT'.out z hz))) (by simp)
       have O5:Hid (IntsAt w4 (some ⟨db,doff,none⟩) D∧∀ x,some (⟨db,doff,none⟩:Addr)=some x→x.block<w4.heap.size∧(Value.slice (some ⟨g4,0,none⟩) ((ofN F').length+1) cap4).ownBlock≠some x.block∧x.block≠mb):=by
        obtain ⟨o1,o2⟩:=HO'.out
        have ox:=o2 ⟨db,doff,none⟩ rfl
        have hsz:(wr.setCell ⟨mb,b,none⟩ (.bool true)).heap.size=wr.heap.size:=by simp [World.setCell]
        refine ⟨(o1.kept HPK.out (fun x e t=>by cases e;exact ox.2.2 t)).kept hk4 (fun x e t=>by cases e;exact ox.2.1 t),fun x e=>?_⟩
        cases e
        refine ⟨Nat.lt_of_lt_of_le (by rw [hsz];exact ox.1) hk4.size,fun t=>?_,ox.2.2⟩
        have t' : g4=db:=by simpa [Value.ownBlock] using t
        rcases hor with q | q
        ·rw [t'] at q;exact ox.2.1 q
        ·rw [hsz] at q;have:=ox.1;simp at this;omega
       clear P4 HP1 hr4 hk4 hor RW HTQ
       go_roundw
       case rel=>exact ⟨q+1,_,_,by go_num,by omega,P5,B5,C5,T5,O5⟩
       case measure=>simp [intOf];omega
      ·have HBF:Hid (b∈F'):=(HB'.out.iff b).1 HM.out
       go_wp2
       go_roundw
       case rel=>exact ⟨q+1,met', F', by go_num,by omega,HS', HB', HC', HTQ.out F' HT'.out HBF.out,HO'⟩
       case measure=>simp [intOf];omega
     ·obtain rfl:q=D.length:=by omega
      have hFN' : (ofN F').length≤N:=by rw [ofN_len'];exact HB'.out.le
      go_wp2
      go_roundw
      case rel=>exact ⟨k+1,met', F', by go_num,by
        have:=(List.getElem?_eq_some_iff.1 HC'.out.2).1
        rw [ofN_len'];omega,HS', HB', by
        obtain ⟨c1,c2⟩:=HC'.out
        obtain ⟨c3,c4⟩:=List.getElem?_eq_some_iff.1 c2
        refine c1.next c3 (fun z hz=>HT'.out z ?_)
        rw [List.take_length]
        rw [c4] at hz
        exact HDL.out ▸ hz⟩
      case measure=>simp [intOf];omega
   ·have j1:(k:Int)<((ofN F).length:Int):=by omega
    go_wp2
    go_ret
    exact ⟨true,rfl,⟨fun _=>HB.out.has HB1.out,fun _=>rfl⟩,HS.out.kp⟩
  ·obtain rfl:k=(ofN F).length:=by omega
   clear hlt
   go_wp2
   go_ret
   refine ⟨b,rfl,?_,HS.out.kp⟩
   rw [← HB.out.done (by have:=HC.out;rwa [ofN_len'] at this) a,HB1.out]
   simp
def isMk (n:Int):Bool:=decide (0≤n) && decide (n≤2)
set_option maxHeartbeats 1000000 in
theorem isMark_any (n:Int) (w:World):Calls Try.prog 55 #[.int .i64 n] w fun e w' => e=.returned (.bool (isMk n))∧w' = w:=by
 by_cases h1:0≤n
 ·by_cases h2:n≤2
  ·have H:Hid (isMk n=true):=by show _=_;simp [isMk,h1,h2]
   go_enter Try.func55,Try.ntmps55
   go_wp2
   go_ret
   exact ⟨ret_bool H.out.symm,rfl⟩
  ·have H:Hid (isMk n=false):=by show _=_;simp [isMk,h1,h2]
   go_enter Try.func55,Try.ntmps55
   go_wp2
   go_ret
   exact ⟨ret_bool H.out.symm,rfl⟩
 ·have H:Hid (isMk n=false):=by show _=_;simp [isMk,h1]
  go_enter Try.func55,Try.ntmps55
  go_wp2
  go_ret
  exact ⟨ret_bool H.out.symm,rfl⟩
def marked (x:Nd) (m:Int):Nd:=(x.1,x.2.1,m,x.2.2.2.1,x.2.2.2.2)
theorem may_marked {n:Nat} {x:Nd} (h:mayB n x=true) {m:Int} (hm:0≤m∧m≤2) (hp:x.2.2.2.1=true→m=0):mayB n (marked x m)=true:=by
 unfold mayB at h ⊢
 unfold marked
 cases hq:x.2.2.2.1
 ·simp [hq] at h ⊢
  exact ⟨⟨⟨⟨h.1.1.1.1,hm.1⟩,hm.2⟩,h.1.2⟩,h.2⟩
 ·simp [hq] at h ⊢
  have:=hp hq
  subst this
  exact ⟨⟨⟨⟨h.1.1.1.1,hm.1⟩,hm.2⟩,h.1.2⟩,⟨⟨⟨h.2.1.1.1,h.2.1.1.2⟩,rfl⟩,h.2.2⟩⟩
theorem ac_same {l l' : List Nd} (h:Ac l) (hl:l'.length=l.length) (he:∀ i (h1:i<l'.length) (h2:i<l.length),downL l'[i]=downL l[i]):Ac l' := by
 obtain ⟨r,hr⟩:=h
 refine ⟨r,fun i j e=>hr i j ?_⟩
 obtain ⟨h1,h2⟩:=e
 exact ⟨by omega,by rw [he i h1 (by omega)] at h2;exact h2⟩
theorem HpB.marked {B:Nat→Prop} {w:World} {h g room:Nat} {l:List Nd} (p:HpB B w h g room l) {i:Nat} (hi:i<l.length) {m:Int} (hm:0≤m∧m≤2) (hp:l[i].2.2.2.1=true→m=0) :
  HpB B (w.setCell ⟨g,i * 5+2,none⟩ (.int .i64 m)) h g room (l.set i (Ytcbplgfkgkefeaa.marked l[i] m))∧Kept (fun k=>k=g) w (w.setCell ⟨g,i * 5+2,none⟩ (.int .i64 m)):=by
 have K:Kept (fun k=>k=g) w (w.setCell ⟨g,i * 5+2,none⟩ (.int .i64 m)):=Kept.setCell (S:=fun k=>k=g) (Kept.refl _ _) (p:=⟨g,i * 5+2,none⟩) (fun _=>rfl) _
 obtain ⟨cs,h1,h2⟩:=p.blk
 have q:=setAt h1 (i * 5+2) (.int .i64 m)
 have hle:=p.le
 have gi:∀ k,k=g→NotI w k:=fun k e cur h=>by rw [e,h1] at h;cases h
 have old:∀ o,o≠i * 5+2→(w.setCell ⟨g,i * 5+2,none⟩ (.int .i64 m)).cell? ⟨g,o,none⟩=w.cell? ⟨g,o,none⟩:=fun o ho=>by
  rw [cellAt q,cellAt h1,Array.getElem?_setIfInBounds,if_neg (by omega)]
 have new:(w.setCell ⟨g,i * 5+2,none⟩ (.int .i64 m)).cell? ⟨g,i * 5+2,none⟩=some (.int .i64 m):=by
  rw [cellAt q,Array.getElem?_setIfInBounds,if_pos rfl,if_pos (by omega)]
 refine ⟨⟨by rw [List.length_set];exact K.at p.box p.ne,⟨_,q,by simpa using h2⟩,p.rm1,p.rm2,by simpa using hle,fun j hj=>?_,?_,?_⟩,K⟩
 ·have hj' : j<l.length:=by simpa using hj
  obtain ⟨ao,ac,n0,n1,n2,n3,n4,n5,n6⟩:=p.each j hj'
  by_cases e:j=i
  ·subst e
   rw [List.getElem_set_self]
   exact ⟨ao,ac,(old _ (by omega)).trans n0,(old _ (by omega)).trans n1,new,(old _ (by omega)).trans n3,(old _ (by omega)).trans n4,n5.kept K gi,n6⟩
  ·rw [List.getElem_set_ne (by omega)]
   exact ⟨ao,ac,(old _ (by omega)).trans n0,(old _ (by omega)).trans n1,(old _ (by omega)).trans n2,(old _ (by omega)).trans n3,(old _ (by omega)).trans n4,n5.kept K gi,n6⟩
 ·intro x hx
  rw [List.length_set]
  rcases List.mem_or_eq_of_mem_set hx with e | e
  ·exact p.may x e
  ·subst e;exact may_marked (p.may _ (List.getElem_mem hi)) hm hp
 ·refine ac_same p.ac (by simp) (fun j h3 h4=>?_)
  by_cases e:j=i
  ·subst e;rw [List.getElem_set_self];rfl
  ·rw [List.getElem_set_ne (by omega)]
def markE (l:List Nd) (a m:Int):Int:=if ¬ (0≤a∧a<(l.length:Int)) then 112 else if (l.getD a.toNat (0,[],0,false,0)).2.2.2.1=true then 112 else if 0≤m∧m≤2 then 0 else 1
set_option maxHeartbeats 1000000 in
theorem mark_out {B:Nat→Prop} {w:World} {h g room:Nat} {l:List Nd} (p:HpB B w h g room l) (a m:Int) (ha:¬ (0≤a∧a<(l.length:Int))):Calls Try.prog 32 #[.pointer (some ⟨h,0,none⟩),.int .i64 a,.int .i64 m] w fun e w' => e=.returned (.int .i64 112)∧Same0 w w' := by
 have k1:Same0 w (w.alloc (.cells #[.int .i64 a] 3)):=(Kept.refl _ _).alloc _
 have C:=refusal_hp (p.same k1) 1 (ints_one w a) (by simp)
 rw [refE_no ha] at C
 clear p ha
 go_enter Try.func32,Try.ntmps32
 go_wp2_with (first | (go_at_call 46;refine C.mono ?_;rintro e w' ⟨rfl,rfl⟩))
 go_ret
 exact ⟨rfl,k1⟩
set_option maxHeartbeats 2000000 in
theorem mark_in {B:Nat→Prop} {w:World} {h g room:Nat} {l:List Nd} (p:HpB B w h g room l) (i:Nat) (hi:i<l.length) (m:Int):Calls Try.prog 32 #[.pointer (some ⟨h,0,none⟩),.int .i64 (i:Int),.int .i64 m] w fun e w' =>
  (markE l (i:Int) m≠0∧e=.returned (.int .i64 (markE l (i:Int) m))∧Same0 w w')∨(markE l (i:Int) m=0∧l[i].2.2.2.1=false∧0≤m∧m≤2∧e=.returned (.int .i64 0)∧HpB B w' h g room (l.set i (marked l[i] m))∧Kept (fun k=>k=g) w w'):=by
 have k1:Same0 w (w.alloc (.cells #[.int .i64 (i:Int)] 3)):=(Kept.refl _ _).alloc _
 have p1:=p.same k1
 have C:=refusal_hp p1 1 (ints_one w (i:Int)) (by simp)
 rw [refE_one (by omega)] at C
 have C2:=isMark_any m
 obtain ⟨c0,c1⟩:=p1.cells
 have hle:=p.le
 obtain ⟨ao,ac,n0,n1,n2,n3,n4, -, -⟩:=p1.each i hi
 have i1:(0:Int)≤(i:Int):=by omega
 have i2:(i:Int)<(room:Int):=by omega
 have f2:=p1.free.2 (i * 5+2)
 have hge:l.getD i (0,[],0,false,0)=l[i]:=by simp [hi]
 obtain ⟨pb,hp⟩:∃ pb,l[i].2.2.2.1=pb:=⟨_,rfl⟩
 cases pb
 ·rw [hp] at n3
  by_cases hm:0≤m∧m≤2
  ·have e1:isMk m=true:=by simp [isMk,hm]
   rw [e1] at C2
   have M:=p1.marked hi hm (by rw [hp];intro h;cases h)
   have H:Hid (markE l (i:Int) m=0∧l[i].2.2.2.1=false∧0≤m∧m≤2∧HpB B ((w.alloc (.cells #[.int .i64 (i:Int)] 3)).setCell ⟨g,i * 5+2,none⟩ (.int .i64 m)) h g room (l.set i (marked l[i] m))∧Kept (fun k=>k=g) w ((w.alloc (.cells #[.int .i64 (i:Int)] 3)).setCell ⟨g,i * 5+2,none⟩ (.int .i64 m))):=⟨by rw [markE,if_neg (by omega)];simp [hi,hp,hm],hp,hm.1,hm.2,M.1,(k1.mono (fun _ _ f=>f.elim)).trans M.2 (fun _ _ e=>e)⟩
   clear p p1 k1 hp M e1 hge hm n0 n1 n4
   go_enter Try.func32,Try.ntmps32
   go_wp2_with (first | (go_at_call 46;refine C.mono ?_;rintro e w' ⟨rfl,rfl⟩) | (go_at_call 55;refine (C2 _).mono ?_;rintro e w' ⟨rfl,rfl⟩))
   go_ret
   obtain ⟨q1,q2,q3,q4,q5,q6⟩:=H.out
   exact .inr ⟨q1,q2,q3,q4,rfl,q5,q6⟩
  ·have e1:isMk m=false:=by simp [isMk];omega
   rw [e1] at C2
   have H:Hid (markE l (i:Int) m=1∧Same0 w (w.alloc (.cells #[.int .i64 (i:Int)] 3))):=⟨by rw [markE,if_neg (by omega)];simp [hi,hp,hm],k1⟩
   clear p p1 k1 hp e1 hge hm n0 n1 n2 n4
   go_enter Try.func32,Try.ntmps32
   go_wp2_with (first | (go_at_call 46;refine C.mono ?_;rintro e w' ⟨rfl,rfl⟩) | (go_at_call 55;refine (C2 _).mono ?_;rintro e w' ⟨rfl,rfl⟩))
   go_ret
   obtain ⟨q1,q2⟩:=H.out
   exact .inl ⟨by rw [q1];decide,ret_int q1.symm,q2⟩
 ·rw [hp] at n3
  have H:Hid (markE l (i:Int) m=112∧Same0 w (w.alloc (.cells #[.int .i64 (i:Int)] 3))):=⟨by rw [markE,if_neg (by omega)];simp [hi,hp],k1⟩
  clear p p1 k1 hp hge n0 n1 n2 n4
  go_enter Try.func32,Try.ntmps32
  go_wp2_with (first | (go_at_call 46;refine C.mono ?_;rintro e w' ⟨rfl,rfl⟩))
  go_ret
  obtain ⟨q1,q2⟩:=H.out
  exact .inl ⟨by rw [q1];decide,ret_int q1.symm,q2⟩
theorem ArgT.nil (w:World):ArgT w none [] 0:=⟨⟨.inl rfl,Nat.le_refl _,fun _=>⟨rfl,rfl⟩,by simp⟩,fun a e=>by cases e⟩
abbrev indN (t:Nat):Nd:=(0,[],0,true,(t:Int))
theorem may_ind {n t:Nat} (h:t<n):mayB n (indN t)=true:=by
 unfold mayB
 simp;omega
theorem HpB.pointed {B:Nat→Prop} {w:World} {h g room:Nat} {l:List Nd} (p:HpB B w h g room l) {i t:Nat} (hi:i<l.length) (ht:t<l.length) (hn:¬ Rc l t i) :
  HpB B (put5 w g (i * 5) (.int .i64 0) (.slice none 0 0) (.int .i64 0) (.bool true) (.int .i64 (t:Int))) h g room (l.set i (indN t))∧Kept (fun k=>k=g) w (put5 w g (i * 5) (.int .i64 0) (.slice none 0 0) (.int .i64 0) (.bool true) (.int .i64 (t:Int))):=by
 have hle:=p.le
 obtain ⟨q1,q2,q3⟩:=put5_nodes (B' := B) (i:=i) (x:=indN t) (ao:=none) (ac:=0) p.blk p.each (by omega) (ArgT.nil w) (fun a e=>by cases e) (fun k e=>e)
 have K:=put5_kept w g (i * 5) (.int .i64 0) (.slice none 0 0) (.int .i64 0) (.bool true) (.int .i64 (t:Int))
 refine ⟨⟨by rw [List.length_set];exact K.at p.box p.ne,q2,p.rm1,p.rm2,by simpa using hle,fun j hj=>?_,?_,?_⟩,K⟩
 ·have hj' : j<l.length:=by simpa using hj
  by_cases e:j=i
  ·subst e;rw [List.getElem_set_self];exact q1
  ·rw [List.getElem_set_ne (by omega)];exact q3 j hj' e
 ·intro x hx
  rw [List.length_set]
  rcases List.mem_or_eq_of_mem_set hx with e | e
  ·exact p.may x e
  ·subst e;exact may_ind ht
 ·refine p.ac.point hn _ (fun j hj=>?_)
  unfold downL at hj
  simp at hj
  omega
theorem refE_two {n:Nat} {a b:Int} (h:(0≤a∧a<(n:Int))∧0≤b∧b<(n:Int)):refE (n:Int) [a,b]=0:=by
 unfold refE;rw [if_pos (insB_iff.2 (by simpa using h))]
theorem refE_no2 {n:Nat} {a b:Int} (h:¬ ((0≤a∧a<(n:Int))∧0≤b∧b<(n:Int))):refE (n:Int) [a,b]=112:=by
 unfold refE;rw [if_neg (fun e=>h (by simpa using insB_iff.1 e))]
set_option maxHeartbeats 1000000 in
theorem point_out {B:Nat→Prop} {w:World} {h g room:Nat} {l:List Nd} (p:HpB B w h g room l) (a t:Int) (ha:¬ ((0≤a∧a<(l.length:Int))∧0≤t∧t<(l.length:Int))):Calls Try.prog 31 #[.pointer (some ⟨h,0,none⟩),.int .i64 a,.int .i64 t] w fun e w' => e=.returned (.int .i64 112)∧Same0 w w' := by
 have k1:Same0 w (w.alloc (.cells #[.int .i64 a,.int .i64 t] 3)):=(Kept.refl _ _).alloc _
 have C:=refusal_hp (p.same k1) 2 (ints_two w a t) (by simp)
 rw [refE_no2 ha] at C
 clear p ha
 go_enter Try.func31,Try.ntmps31
 go_wp2_with (first | (go_at_call 46;refine C.mono ?_;rintro e w' ⟨rfl,rfl⟩))
 go_ret
 exact ⟨rfl,k1⟩
set_option maxHeartbeats 2000000 in
theorem point_in {B:Nat→Prop} {w:World} {h g room:Nat} {l:List Nd} (p:HpB B w h g room l) (i t:Nat) (hi:i<l.length) (ht:t<l.length):Calls Try.prog 31 #[.pointer (some ⟨h,0,none⟩),.int .i64 (i:Int),.int .i64 (t:Int)] w fun e w' =>
  (Rc l t i∧e=.returned (.int .i64 113)∧Same0 w w')∨(¬ Rc l t i∧e=.returned (.int .i64 0)∧HpB B w' h g room (l.set i (indN t))∧Kept (fun k=>k=g) w w'):=by
 have k1:Same0 w (w.alloc (.cells #[.int .i64 (i:Int),.int .i64 (t:Int)] 3)):=(Kept.refl _ _).alloc _
 have p1:=p.same k1
 have C:=refusal_hp p1 2 (ints_two w (i:Int) (t:Int)) (by simp)
 rw [refE_two (by omega)] at C
 have CS:=stands_any (cap:=room) p1.ns i t hi ht
 obtain ⟨c0,c1⟩:=p1.cells
 have hle:=p.le
 have i1:(0:Int)≤(i:Int):=by omega
 have i2:(i:Int)<(room:Int):=by omega
 have HP:Hid (∀ ww,Same0 (w.alloc (.cells #[.int .i64 (i:Int),.int .i64 (t:Int)] 3)) ww→HpB B ww h g room l):=fun ww hk=>p1.same hk
 have HK:Hid (∀ ww,Same0 (w.alloc (.cells #[.int .i64 (i:Int),.int .i64 (t:Int)] 3)) ww→Same0 w ww):=fun ww hk=>k1.trans' hk
 clear p p1 k1
 go_enter Try.func31,Try.ntmps31
 go_upto_region 4 with (first | (go_at_call 46;refine C.mono ?_;rintro e w' ⟨rfl,rfl⟩))
 clear C
 go_upto_if 22 with (first | (go_at_call 54;refine CS.mono ?_;rintro e w2 ⟨b,rfl,hb,hk2⟩))
 clear CS c0 c1
 have HBR:Hid (b=true ↔ Rc l t i):=hb
 cases b
 ·have hn:¬ Rc l t i:=fun q=>by have:=HBR.out.2 q;cases this
  have P2:=HP.out w2 hk2
  obtain ⟨d0,d1⟩:=P2.cells
  obtain ⟨u0,u1,u2,u3,u4,t0,t1,t2,t3,t4⟩:=P2.there (show i<room by omega)
  have f0:=P2.free.2 (i * 5)
  have f1:=P2.free.2 (i * 5+1)
  have f2:=P2.free.2 (i * 5+2)
  have f3:=P2.free.2 (i * 5+3)
  have f4:=P2.free.2 (i * 5+4)
  obtain ⟨M1,M2⟩:=P2.pointed hi ht hn
  have FF:Hid (¬ Rc l t i∧HpB B (put5 w2 g (i * 5) (.int .i64 0) (.slice none 0 0) (.int .i64 0) (.bool true) (.int .i64 (t:Int))) h g room (l.set i (indN t))∧Kept (fun k=>k=g) w (put5 w2 g (i * 5) (.int .i64 0) (.slice none 0 0) (.int .i64 0) (.bool true) (.int .i64 (t:Int)))):=⟨hn,M1,((HK.out w2 hk2).mono (fun _ _ f=>f.elim)).trans M2 (fun _ _ e=>e)⟩
  clear P2 M1 M2 hn hb HBR HP HK
  go_wp2
  go_ret
  obtain ⟨q1,q2,q3⟩:=FF.out
  exact .inr ⟨q1,rfl,q2,q3⟩
 ·have FF:Hid (Rc l t i∧Same0 w w2):=⟨HBR.out.1 rfl,HK.out w2 hk2⟩
  clear hb HBR HP HK
  go_wp2
  go_ret
  exact .inl ⟨FF.out.1,rfl,FF.out.2⟩
abbrev I64 (c:Int):Prop:=-9223372036854775808≤c∧c<9223372036854775808
theorem hwrap {c:Int} (h1 : -9223372036854775808≤c) (h2:c<9223372036854775808):IntKind.i64.wrap c=c:=by
 simp [IntKind.wrap,IntKind.bits,IntKind.signed];omega
def pickF (c n:Int):Nat:=((if c<0 then -(c+1) else c) % n).toNat
theorem pick_lt (c:Int) {n:Int} (hn:0<n):(pickF c n:Int)<n:=by
 unfold pickF
 have h1:=Int.emod_nonneg (if c<0 then -(c+1) else c) (show n≠0 by omega)
 have h2:=Int.emod_lt_of_pos (if c<0 then -(c+1) else c) hn
 omega
set_option maxHeartbeats 1000000 in
theorem pick_any (c:Int) (hc:I64 c) (n:Int) (hn:1≤n) (hn' : n≤1000000) (w:World):Calls Try.prog 25 #[.int .i64 c,.int .i64 n] w fun e w' => e=.returned (.int .i64 (pickF c n:Int))∧w' = w:=by
 have hz:¬ n=0:=by omega
 have hz' : (n == 0)=false:=by simpa using hz
 by_cases h:c<0
 ·have h1:IntKind.i64.wrap (c+1)=c+1:=hwrap (by omega) (by omega)
  have h2:IntKind.i64.wrap (-(c+1)) = -(c+1):=hwrap (by omega) (by omega)
  have HE:Hid ((pickF c n:Int)=(-(c+1)) % n):=by
   show _=_
   unfold pickF
   rw [if_pos h]
   have:=Int.emod_nonneg (-(c+1)) hz
   omega
  have hp:0 ≤ -(c+1):=by omega
  go_enter Try.func25,Try.ntmps25
  go_wp2
  go_ret
  refine ⟨ret_int ?_,rfl⟩
  rw [HE.out]
  first | rfl | (rw [← Int.neg_tmod,Int.tmod_eq_emod_of_nonneg (by omega)]) | (rw [Int.tmod_eq_emod_of_nonneg (by omega)])
 ·have HE:Hid ((pickF c n:Int)=c % n):=by
   show _=_
   unfold pickF
   rw [if_neg h]
   have:=Int.emod_nonneg c hz
   omega
  have hp:0≤c:=by omega
  go_enter Try.func25,Try.ntmps25
  go_wp2
  go_ret
  refine ⟨ret_int ?_,rfl⟩
  rw [HE.out]
abbrev Hp (w:World) (h g room:Nat) (l:List Nd):Prop:=HpB (fun _=>True) w h g room l
theorem HpB.any {B:Nat→Prop} {w:World} {h g room:Nat} {l:List Nd} (p:HpB B w h g room l):Hp w h g room l:=p.mono (fun _ _ _ _=>trivial)
theorem arg_nil (w:World):Arg w none [] 0:=(ArgT.nil w).1
theorem arg_one (w:World) (z:Int):Arg (w.alloc (.cells #[.int .i64 z] 3)) (some ⟨w.heap.size,0,none⟩) [z] 1:=⟨ints_one w z,Nat.le_refl _,(fun e=>by cases e),by simp⟩
theorem arg_two (w:World) (z y:Int):Arg (w.alloc (.cells #[.int .i64 z,.int .i64 y] 3)) (some ⟨w.heap.size,0,none⟩) [z,y] 2:=⟨ints_two w z y,Nat.le_refl _,(fun e=>by cases e),by simp⟩
theorem Same0.heap {w w1 w2:World} (k:Same0 w w1) {h g:Nat} (hh:w.heap.size≤h) (hg:w.heap.size≤g) (k2:Kept (fun k=>k=h∨k=g) w1 w2):Same0 w w2:=k.trans k2 (fun i hi e=>by omega)
theorem make_err {B:Nat→Prop} {w:World} {h g room:Nat} {l:List Nd} (p:HpB B w h g room l) (s:Int) {ao:Option Addr} {xs:List Int} {cap:Nat} (hx:Arg w ao xs cap) {E:Int} (hE:mkE l room s xs=E) (he:E≠0) :
  Calls Try.prog 29 #[.pointer (some ⟨h,0,none⟩),.int .i64 s,.slice ao xs.length cap] w fun e w' => e=.returned (.tuple #[.int .i64 0,.int .i64 E])∧Same0 w w' := by
 subst hE;exact make_no p s hx he
set_option maxHeartbeats 4000000 in
theorem awake11_any (w:World):Calls Try.prog 12 #[] w fun e w' => e=.returned (.bool true)∧Same0 w w' := by
 have C0:=hnew_yes 3 w (by decide) (by decide)
 go_enter Try.func12,Try.ntmps12
 go_upto_region 4 with (first | (go_at_call 13;refine C0.mono ?_;rintro e w1 ⟨h,g,rfl,p1,k1,hh,hg⟩))
 have C1:=make_yes p1 5 (arg_nil w1) (by decide)
 clear C0
 go_upto_region 5 with (first | (go_at_call 29;refine C1.mono ?_;rintro e w2 ⟨rfl,p2,k2⟩))
 have K2:Same0 w w2:=k1.heap hh hg k2
 have p2' := p2.any.same (show Same0 w2 (w2.alloc (.cells #[.int .i64 0,.int .i64 0] 3)) from (Kept.refl _ _).alloc _)
 have C2:=make_yes p2' 7 (arg_two w2 0 0) (by decide)
 clear C1 p2
 go_upto_region 6 with (first | (go_at_call 29;refine C2.mono ?_;rintro e w3 ⟨rfl,p3,k3⟩))
 have K3:Same0 w w3:=Same0.heap (Kept.alloc K2 _) hh hg k3
 have p3' := p3.any.same (show Same0 w3 (w3.alloc (.cells #[.int .i64 2] 3)) from (Kept.refl _ _).alloc _)
 have C3:=make_err p3' 8 (arg_one w3 2) (E:=112) (by decide) (by decide)
 clear C2 p3 p2'
 go_upto_region 7 with (first | (go_at_call 29;refine C3.mono ?_;rintro e w4 ⟨rfl,k4⟩))
 have p4:=p3'.same k4
 have K4:Same0 w w4:=Same0.trans' (Kept.alloc K3 _) k4
 have C4:=hat_yes p4 1 (by decide)
 clear C3 p3'
 have HP:Hid (∀ ww,Same0 w4 ww→Hp ww h g 3 ([] ++ [(5,[],0,false,0)] ++ [(7,[0,0],0,false,0)])):=fun ww hk=>p4.same hk
 go_upto_region 8 with (first | (go_at_call 21;refine C4.mono ?_;rintro e w5 ⟨bo,bc,rfl,ha,hbb,k5⟩))
 have p6:=HP.out _ (Kept.alloc k5 (.cells #[.int .i64 7,.slice bo 2 bc,.int .i64 0,.bool false,.int .i64 0] 45))
 have C6:=room_any p6
 have C7:=used_any p6
 have K6:Hid (Same0 w (w5.alloc (.cells #[.int .i64 7,.slice bo 2 bc,.int .i64 0,.bool false,.int .i64 0] 45))):=Same0.trans' K4 (Kept.alloc k5 _)
 clear C4 HP p6 p4 p1 ha hbb
 go_wp2_with (first | (go_at_call 28;refine C6.mono ?_;rintro e w7 ⟨rfl,rfl⟩) | (go_at_call 18;refine C7.mono ?_;rintro e w7 ⟨rfl,rfl⟩))
 go_ret
 exact ⟨rfl,K6.out⟩
end Go.Proofs.Ytcbplgfkgkefeaa
namespace Go.Proofs.Ytcbplgfkgkefeaa
set_option linter.unusedVariables false
open Go.RowKit Go.Deep
theorem i64_wf {n:Int} (h:(Lit.int .i64 n).wf=true):I64 n:=by
 have h1:(IntKind.i64.min≤n)∧n≤IntKind.i64.max:=by simpa [Lit.wf] using h
 have e1:IntKind.i64.min = -9223372036854775808:=by decide
 have e2:IntKind.i64.max=9223372036854775807:=by decide
 omega
abbrev Raw4:=Int × Int × Int × Int
def Raw4.ok (x:Raw4):Prop:=I64 x.1∧I64 x.2.1∧I64 x.2.2.1∧I64 x.2.2.2
abbrev rawV (x:Raw4):Value:=.agg #[.int .i64 x.1,.int .i64 x.2.1,.int .i64 x.2.2.1,.int .i64 x.2.2.2]
def RawsAt (w:World) (ro:Option Addr) (rs:List Raw4):Prop:=
 rs=[]∨∃ b off,ro=some ⟨b,off,none⟩∧b<w.heap.size∧∀ i (h:i<rs.length),w.cell? ⟨b,off+i * 4,none⟩=some (.int .i64 rs[i].1)∧w.cell? ⟨b,off+i * 4+1,none⟩=some (.int .i64 rs[i].2.1)∧w.cell? ⟨b,off+i * 4+2,none⟩=some (.int .i64 rs[i].2.2.1)∧w.cell? ⟨b,off+i * 4+3,none⟩=some (.int .i64 rs[i].2.2.2)
theorem RawsAt.same {w w' : World} {ro:Option Addr} {rs:List Raw4} (h:RawsAt w ro rs) (hk:Same0 w w'):RawsAt w' ro rs:=by
 refine h.imp id ?_
 rintro ⟨b,off,rfl,hlt,hc⟩
 refine ⟨b,off,rfl,Nat.lt_of_lt_of_le hlt hk.size,fun i hi=>?_⟩
 obtain ⟨h0,h1,h2,h3⟩:=hc i hi
 exact ⟨(hk.cell (p:=⟨b,off+i * 4,none⟩) hlt (fun f=>f)).trans h0,(hk.cell (p:=⟨b,off+i * 4+1,none⟩) hlt (fun f=>f)).trans h1,(hk.cell (p:=⟨b,off+i * 4+2,none⟩) hlt (fun f=>f)).trans h2,(hk.cell (p:=⟨b,off+i * 4+3,none⟩) hlt (fun f=>f)).trans h3⟩
theorem RawsAt.get {w:World} {ro:Option Addr} {rs:List Raw4} (h:RawsAt w ro rs) {i:Nat} (hi:i<rs.length):∃ b off,ro=some ⟨b,off,none⟩∧w.cell? ⟨b,off+i * 4,none⟩=some (.int .i64 rs[i].1)∧w.cell? ⟨b,off+i * 4+1,none⟩=some (.int .i64 rs[i].2.1)∧w.cell? ⟨b,off+i * 4+2,none⟩=some (.int .i64 rs[i].2.2.1)∧w.cell? ⟨b,off+i * 4+3,none⟩=some (.int .i64 rs[i].2.2.2):=by
 rcases h with rfl | ⟨b,off,e,hlt,hc⟩
 ·simp at hi
 ·exact ⟨b,off,e,hc i hi⟩
theorem cells_raw:Try.prog.cellsOf 53=4:=by kernel_rfl
section
variable {H : Type} {enc : TypeId × Value → H} {w : World} {spare : Nat → Bool} {held : Bool}
theorem trod_four {t:TypeId} {f0 f1 f2 f3:Field} {fuel:Nat} {cs:List Value} {x:DataW H × List MemPlace} (ht:Try.prog.underlying t=some (.struct #[f0,f1,f2,f3])) (h:DataW.trod enc Try.prog w 0 spare held fuel t cs=some x) :
  ∃ y0 y1 y2 y3 n,DataW.trod enc Try.prog w 0 spare held n f0.type ((cs.drop f0.offset).take (Try.prog.cellsOf f0.type))=some y0 ∧
   DataW.trod enc Try.prog w 0 spare held n f1.type ((cs.drop f1.offset).take (Try.prog.cellsOf f1.type))=some y1∧DataW.trod enc Try.prog w 0 spare held n f2.type ((cs.drop f2.offset).take (Try.prog.cellsOf f2.type))=some y2 ∧
   DataW.trod enc Try.prog w 0 spare held n f3.type ((cs.drop f3.offset).take (Try.prog.cellsOf f3.type))=some y3:=by
 obtain ⟨xs,n,hn,rfl,hl,hlen,hf⟩:=DataW.trod_struct ht h
 match xs,hlen with
 | [y0,y1,y2,y3],_=>exact ⟨y0,y1,y2,y3,n,by simpa using hf 0 f0 rfl,by simpa using hf 1 f1 rfl,by simpa using hf 2 f2 rfl,by simpa using hf 3 f3 rfl⟩
theorem trod_raw {fuel:Nat} {cs:List Value} {x:DataW H × List MemPlace} (hl:cs.length=4) (h:DataW.trod enc Try.prog w 0 spare held fuel 53 cs=some x):∃ r:Raw4,r.ok∧cs=[.int .i64 r.1,.int .i64 r.2.1,.int .i64 r.2.2.1,.int .i64 r.2.2.2]:=by
 obtain ⟨y0,y1,y2,y3,n', g0,g1,g2,g3⟩:=trod_four Try.underlying53 h
 match cs,hl with
 | [c0,c1,c2,c3],_=>
  simp only [cells_int,List.drop_zero,List.take_succ_cons,List.take_zero,List.drop_succ_cons] at g0 g1 g2 g3
  obtain ⟨z0,e0,_,w0⟩:=DataW.trod_int Try.underlying3 g0
  obtain ⟨z1,e1,_,w1⟩:=DataW.trod_int Try.underlying3 g1
  obtain ⟨z2,e2,_,w2⟩:=DataW.trod_int Try.underlying3 g2
  obtain ⟨z3,e3,_,w3⟩:=DataW.trod_int Try.underlying3 g3
  simp only [List.cons.injEq,and_true] at e0 e1 e2 e3
  subst e0 e1 e2 e3
  exact ⟨(z0,z1,z2,z3),⟨i64_wf w0,i64_wf w1,i64_wf w2,i64_wf w3⟩,rfl⟩
theorem open_raws {fuel:Nat} {ao:Option Addr} {len cap:Nat} {x:DataW H × List MemPlace} (h:DataW.trod enc Try.prog w 0 spare held fuel 38 [.slice ao len cap]=some x) :
  ∃ rs:List Raw4,rs.length=len∧RawsAt w ao rs∧len≤maxLen∧∀ r∈rs,r.ok:=by
 rcases open_elems Try.underlying38 cells_raw (by omega) h with ⟨rfl,rfl,rfl⟩ | ⟨a,rfl,hl1,hl2,hall⟩
 ·exact ⟨[],rfl,.inl rfl,Nat.zero_le _,by simp⟩
 ·have each:∀ i,i<len→∃ r:Raw4,r.ok∧w.cell? ⟨a.block,a.off+i * 4,none⟩=some (.int .i64 r.1)∧w.cell? ⟨a.block,a.off+i * 4+1,none⟩=some (.int .i64 r.2.1)∧w.cell? ⟨a.block,a.off+i * 4+2,none⟩=some (.int .i64 r.2.2.1)∧w.cell? ⟨a.block,a.off+i * 4+3,none⟩=some (.int .i64 r.2.2.2):=by
   intro i hi
   obtain ⟨_,_,cs,n,y,hl,hcell,hy⟩:=hall i hi
   obtain ⟨r,hr,rfl⟩:=trod_raw hl hy
   exact ⟨r,hr,by simpa using hcell 0 (by omega),by simpa using hcell 1 (by omega),by simpa using hcell 2 (by omega),by simpa using hcell 3 (by omega)⟩
  obtain ⟨f,hf⟩:=Classical.axiomOfChoice (r:=fun (i:Fin len) (r:Raw4)=>r.ok∧w.cell? ⟨a.block,a.off+i * 4,none⟩=some (.int .i64 r.1)∧w.cell? ⟨a.block,a.off+i * 4+1,none⟩=some (.int .i64 r.2.1)∧w.cell? ⟨a.block,a.off+i * 4+2,none⟩=some (.int .i64 r.2.2.1)∧w.cell? ⟨a.block,a.off+i * 4+3,none⟩=some (.int .i64 r.2.2.2)) (fun i=>each i i.2)
  refine ⟨List.ofFn f,by simp,?_,by omega,fun r hr=>?_⟩
  ·by_cases h0:len=0
   ·subst h0;exact .inl (by simp)
   ·obtain ⟨ea,hlt,_⟩:=hall 0 (by omega)
    refine .inr ⟨a.block,a.off,by rw [← ea],hlt,fun i hi=>?_⟩
    have hi' : i<len:=by simpa using hi
    simpa using (hf ⟨i,hi'⟩).2
  ·obtain ⟨i,rfl⟩:=List.mem_ofFn.1 hr
   exact (hf i).1
end
end Go.Proofs.Ytcbplgfkgkefeaa
namespace Go.Proofs.Ytcbplgfkgkefeaa
set_option maxRecDepth 100000
set_option linter.unusedVariables false
open Go.RowKit
attribute [local go_sem ↓] Go.wp_at_zero Go.wp_at_succ
theorem mk_ok {l:List Nd} {room:Nat} {s:Int} {xs:List Int} (h0:0≤s) (h1:xs.length≤6) (h2:∀ z∈xs,0≤z∧z<(l.length:Int)) (h3:l.length<room):mkE l room s xs=0:=by
 rw [mkE,if_neg (by omega),if_neg (by rw [insB_iff.2 h2];simp),if_neg (by omega)]
def StepR (l:List Nd) (x:Raw4) (er:Int) (l' : List Nd):Prop:=
 (er≠0∧l' = l)∨(er=0∧pickF x.1 7<4∧∃ y,l' = l ++ [y]) ∨
 (er=0∧(pickF x.1 7=4∨pickF x.1 7=5)∧∃ h:pickF x.2.1 (l.length:Int)<l.length,l' = l.set (pickF x.2.1 (l.length:Int)) (indN (pickF x.2.2.1 (l.length:Int)))) ∨
 (er=0∧pickF x.1 7=6∧∃ h:pickF x.2.1 (l.length:Int)<l.length,l[pickF x.2.1 (l.length:Int)].2.2.2.1=false∧l' = l.set (pickF x.2.1 (l.length:Int)) (marked l[pickF x.2.1 (l.length:Int)] (pickF x.2.2.1 3:Int)))
def StepQ (w:World) (h g room:Nat) (l:List Nd) (x:Raw4) (e:Ending) (w' : World):Prop:=
 ∃ er l', e=.returned (.int .i64 er)∧Hp w' h g room l' ∧ Kept (fun k=>k=h∨k=g) w w' ∧ StepR l x er l'
theorem box4 {w:World} {b:Nat} {v0 v1 v2 v3:Value} {t:TypeId} (h:w.heap[b]? = some (.cells #[v0,v1,v2,v3] t (0,0))):w.cell? ⟨b,0,none⟩=some v0∧w.cell? ⟨b,1,none⟩=some v1∧w.cell? ⟨b,2,none⟩=some v2∧w.cell? ⟨b,3,none⟩=some v3:=
 ⟨cellAt h 0,cellAt h 1,cellAt h 2,cellAt h 3⟩
theorem kept_two {w w' : World} {h g:Nat} (k:Kept (fun k=>k=g) w w'):Kept (fun k=>k=h∨k=g) w w' := k.mono (fun _ _ e=>.inr e)
theorem kept_none {w w' : World} {h g:Nat} (k:Same0 w w'):Kept (fun k=>k=h∨k=g) w w' := k.mono (fun _ _ f=>f.elim)
theorem kept_at {w w1 w2:World} {h g:Nat} (k:Same0 w w1) (k2:Kept (fun k=>k=h∨k=g) w1 w2):Kept (fun k=>k=h∨k=g) w w2:=(kept_none k).trans k2 (fun _ _ e=>e)
theorem point_q {w:World} {h g room:Nat} {l:List Nd} (p:Hp w h g room l) (i t:Nat) (hl:∀ n:Nat,n=max l.length 1→i<n∧t<n):Calls Try.prog 31 #[.pointer (some ⟨h,0,none⟩),.int .i64 (i:Int),.int .i64 (t:Int)] w fun e w' =>
  ∃ er l', e=.returned (.int .i64 er)∧Hp w' h g room l' ∧ Kept (fun k=>k=h∨k=g) w w' ∧ ((er≠0∧l' = l)∨(er=0∧i<l.length∧l' = l.set i (indN t))):=by
 have q:=hl _ rfl
 by_cases h0:l.length=0
 ·refine (point_out p (i:Int) (t:Int) (by omega)).mono ?_
  rintro e w' ⟨rfl,hk⟩
  exact ⟨112,l,rfl,p.same hk,kept_none hk,.inl ⟨by decide,rfl⟩⟩
 ·refine (point_in p i t (by omega) (by omega)).mono ?_
  rintro e w' (⟨-,rfl,hk⟩ | ⟨-,rfl,hp,hk⟩)
  ·exact ⟨113,l,rfl,p.same hk,kept_none hk,.inl ⟨by decide,rfl⟩⟩
  ·exact ⟨0,_,rfl,hp,kept_two hk,.inr ⟨rfl,by omega,rfl⟩⟩
theorem mark_q {w:World} {h g room:Nat} {l:List Nd} (p:Hp w h g room l) (i t:Nat) (hl:∀ n:Nat,n=max l.length 1→i<n) (ht:t<3):Calls Try.prog 32 #[.pointer (some ⟨h,0,none⟩),.int .i64 (i:Int),.int .i64 (t:Int)] w fun e w' =>
  ∃ er l', e=.returned (.int .i64 er)∧Hp w' h g room l' ∧ Kept (fun k=>k=h∨k=g) w w' ∧ ((er≠0∧l' = l)∨(er=0∧∃ hi:i<l.length,l[i].2.2.2.1=false∧l' = l.set i (marked l[i] (t:Int)))):=by
 have q:=hl _ rfl
 by_cases h0:l.length=0
 ·refine (mark_out p (i:Int) (t:Int) (by omega)).mono ?_
  rintro e w' ⟨rfl,hk⟩
  exact ⟨112,l,rfl,p.same hk,kept_none hk,.inl ⟨by decide,rfl⟩⟩
 ·refine (mark_in p i (by omega) (t:Int)).mono ?_
  rintro e w' (⟨he,rfl,hk⟩ | ⟨-,hp, -, -,rfl,hh,hk⟩)
  ·exact ⟨_,l,rfl,p.same hk,kept_none hk,.inl ⟨he,rfl⟩⟩
  ·exact ⟨0,_,rfl,hh,kept_two hk,.inr ⟨rfl,by omega,hp,rfl⟩⟩
theorem make_q {w:World} {h g room:Nat} {l:List Nd} (p:Hp w h g room l) (s:Int) {ao:Option Addr} {xs:List Int} {cap:Nat} (hx:Arg w ao xs cap):Calls Try.prog 29 #[.pointer (some ⟨h,0,none⟩),.int .i64 s,.slice ao xs.length cap] w fun e w' =>
  ∃ a er l', e=.returned (.tuple #[.int .i64 a,.int .i64 er])∧Hp w' h g room l' ∧ Kept (fun k=>k=h∨k=g) w w' ∧ ((er≠0∧l' = l)∨(er=0∧∃ y,l' = l ++ [y])):=by
 by_cases h0:mkE l room s xs=0
 ·refine (make_yes p s hx h0).mono ?_
  rintro e w' ⟨rfl,hp,hk⟩
  exact ⟨_,0,_,rfl,hp.any,hk,.inr ⟨rfl,_,rfl⟩⟩
 ·refine (make_no p s hx h0).mono ?_
  rintro e w' ⟨rfl,hk⟩
  exact ⟨_,_,l,rfl,p.same hk,kept_none hk,.inl ⟨h0,rfl⟩⟩
theorem wrap_i64 (z:Int):I64 (IntKind.i64.wrap z):=by
 simp [IntKind.wrap,IntKind.bits,IntKind.signed];omega
theorem pick_of {l:List Nd} {n:Nat} (hn:n=max l.length 1) (h:0<l.length) (c:Int):pickF c (n:Int)=pickF c (l.length:Int):=by rw [show n=l.length by omega]
set_option maxHeartbeats 2000000 in
theorem step_point {w:World} {h g room:Nat} {l:List Nd} (p:Hp w h g room l) (x:Raw4) (hx:x.ok) (K:Int) (hK:(pickF x.1 7:Int)=K) (hk:K=4∨K=5):Calls Try.prog 23 #[.pointer (some ⟨h,0,none⟩),rawV x] w fun e w' => StepQ w h g room l x e w' := by
 obtain ⟨W0,hW0⟩:∃ W0,W0=w.alloc (.cells #[.int .i64 x.1,.int .i64 x.2.1,.int .i64 x.2.2.1,.int .i64 x.2.2.2] 53):=⟨_,rfl⟩
 have k0:Same0 w W0:=by rw [hW0];exact (Kept.refl _ w).alloc _
 have hb:W0.heap[w.heap.size]? = some (.cells #[.int .i64 x.1,.int .i64 x.2.1,.int .i64 x.2.2.1,.int .i64 x.2.2.2] 53 (0,0)):=by rw [hW0];exact heap_alloc_new w _
 obtain ⟨b0,b1,b2,b3⟩:=box4 hb
 have p0:=p.same k0
 have CU:=used_any p0
 have hle:=p.le
 have hr2:=p.rm2
 obtain ⟨n,hn⟩:∃ n:Nat,n=max l.length 1:=⟨_,rfl⟩
 have HN:Hid ((if (l.length:Int)<1 then (1:Int) else (l.length:Int))=(n:Int)):=by show _=_;split <;> omega
 have hn1:1≤(n:Int):=by omega
 have hn2:(n:Int)≤4000:=by omega
 obtain ⟨hx0,hx1,hx2,hx3⟩:=hx
 have HNN:Hid (n=max l.length 1):=hn
 have CP:Hid (∀ c ww,I64 c→Calls Try.prog 25 #[.int .i64 c,.int .i64 (n:Int)] ww fun e w' => e=.returned (.int .i64 (pickF c (n:Int):Int))∧w' = ww):=fun c ww hc=>pick_any c hc (n:Int) hn1 (by omega) ww
 have HLT:Hid (∀ c,pickF c (n:Int)<n):=fun c=>by have:=pick_lt c (show (0:Int)<(n:Int) by omega);omega
 have C7:=pick_any x.1 hx0 7 (by decide) (by decide) W0
 rw [hK] at C7
 have PQ:Hid (∀ ww,Same0 W0 ww→Calls Try.prog 31 #[.pointer (some ⟨h,0,none⟩),.int .i64 (pickF x.2.1 (n:Int):Int),.int .i64 (pickF x.2.2.1 (n:Int):Int)] ww fun e w' => ∃ er l', e=.returned (.int .i64 er)∧Hp w' h g room l' ∧ Kept (fun k=>k=h∨k=g) ww w' ∧ ((er≠0∧l' = l)∨(er=0∧pickF x.2.1 (n:Int)<l.length∧l' = l.set (pickF x.2.1 (n:Int)) (indN (pickF x.2.2.1 (n:Int)))))):=fun ww hk=>point_q (p0.same hk) _ _ (fun m hm=>by rw [hm,← hn];exact ⟨HLT.out _,HLT.out _⟩)
 have FIN:Hid (∀ er l', ((er≠0∧l' = l)∨(er=0∧pickF x.2.1 (n:Int)<l.length∧l' = l.set (pickF x.2.1 (n:Int)) (indN (pickF x.2.2.1 (n:Int)))))→StepR l x er l'):=fun er l' hq=>by
  rcases hq with q | ⟨q1,q2,q3⟩
  ·exact .inl q
  ·have e1:=pick_of hn (by omega) x.2.1
   have e2:=pick_of hn (by omega) x.2.2.1
   rw [e1] at q2 q3
   rw [e2] at q3
   exact .inr (.inr (.inl ⟨q1,by omega,q2,q3⟩))
 have K0:Hid (Same0 w W0):=k0
 have kd:Same0 W0 W0.drew:=(Kept.refl _ _).drew
 have PQd:=PQ.out _ kd
 have HKD:Hid (∀ ww,Kept (fun k=>k=h∨k=g) W0.drew ww→Kept (fun k=>k=h∨k=g) w ww):=fun ww hk=>kept_at (k0.trans' kd) hk
 clear p p0 hb hn k0 kd PQ hK HNN HLT
 rcases hk with rfl | rfl
 all_goals
  go_enter Try.func23,Try.ntmps23
  go_upto_region 1 with fail
  rw [← hW0]
  clear hW0
  go_upto_region 2 with (first | (go_at_call 18;refine CU.mono ?_;rintro e w1 ⟨rfl,h1⟩;have h1:=h1.symm;subst h1))
  rw [HN.out]
  clear CU HN
  go_upto_region 5 with (first | (go_at_call 25;refine C7.mono ?_;rintro e w1 ⟨rfl,h1⟩;have h1:=h1.symm;subst h1))
  clear C7
  go_region_with (first | (go_at_call 25;refine (CP.out _ _ (by first | exact hx1 | exact hx2)).mono ?_;rintro e w3 ⟨rfl,h3⟩;have h3:=h3.symm;subst h3) | (go_at_call 31;refine PQd.mono ?_;rintro e w4 ⟨er,l', rfl,hp4,hk4,hq4⟩))
  all_goals
   go_wp2
   go_ret
   exact ⟨er,l', rfl,hp4,HKD.out _ hk4,FIN.out _ _ hq4⟩
set_option maxHeartbeats 400000 in
theorem step_mark {w:World} {h g room:Nat} {l:List Nd} (p:Hp w h g room l) (x:Raw4) (hx:x.ok) (hK:(pickF x.1 7:Int)=6):Calls Try.prog 23 #[.pointer (some ⟨h,0,none⟩),rawV x] w fun e w' => StepQ w h g room l x e w' := by
 obtain ⟨W0,hW0⟩:∃ W0,W0=w.alloc (.cells #[.int .i64 x.1,.int .i64 x.2.1,.int .i64 x.2.2.1,.int .i64 x.2.2.2] 53):=⟨_,rfl⟩
 have k0:Same0 w W0:=by rw [hW0];exact (Kept.refl _ w).alloc _
 have hb:W0.heap[w.heap.size]? = some (.cells #[.int .i64 x.1,.int .i64 x.2.1,.int .i64 x.2.2.1,.int .i64 x.2.2.2] 53 (0,0)):=by rw [hW0];exact heap_alloc_new w _
 obtain ⟨b0,b1,b2,b3⟩:=box4 hb
 have p0:=p.same k0
 have CU:=used_any p0
 have hle:=p.le
 have hr2:=p.rm2
 obtain ⟨n,hn⟩:∃ n:Nat,n=max l.length 1:=⟨_,rfl⟩
 have HN:Hid ((if (l.length:Int)<1 then (1:Int) else (l.length:Int))=(n:Int)):=by show _=_;split <;> omega
 have hn1:1≤(n:Int):=by omega
 have hn2:(n:Int)≤4000:=by omega
 obtain ⟨hx0,hx1,hx2,hx3⟩:=hx
 have HNN:Hid (n=max l.length 1):=hn
 have CP:Hid (∀ c ww,I64 c→Calls Try.prog 25 #[.int .i64 c,.int .i64 (n:Int)] ww fun e w' => e=.returned (.int .i64 (pickF c (n:Int):Int))∧w' = ww):=fun c ww hc=>pick_any c hc (n:Int) hn1 (by omega) ww
 have HLT:Hid (∀ c,pickF c (n:Int)<n):=fun c=>by have:=pick_lt c (show (0:Int)<(n:Int) by omega);omega
 have C7:=pick_any x.1 hx0 7 (by decide) (by decide) W0
 rw [hK] at C7
 have h3:pickF x.2.2.1 3<3:=by have:=pick_lt x.2.2.1 (show (0:Int)<3 by decide);omega
 have CG:Hid (∀ c m ww,I64 c→1≤m→m≤4000→Calls Try.prog 25 #[.int .i64 c,.int .i64 m] ww fun e w' => e=.returned (.int .i64 (pickF c m:Int))∧w' = ww):=fun c m ww hc h1 h2=>pick_any c hc m h1 (by omega) ww
 have PQ:Hid (∀ ww,Same0 W0 ww→Calls Try.prog 32 #[.pointer (some ⟨h,0,none⟩),.int .i64 (pickF x.2.1 (n:Int):Int),.int .i64 (pickF x.2.2.1 3:Int)] ww fun e w' => ∃ er l', e=.returned (.int .i64 er)∧Hp w' h g room l' ∧ Kept (fun k=>k=h∨k=g) ww w' ∧ ((er≠0∧l' = l)∨(er=0∧∃ hi:pickF x.2.1 (n:Int)<l.length,l[pickF x.2.1 (n:Int)].2.2.2.1=false∧l' = l.set (pickF x.2.1 (n:Int)) (marked l[pickF x.2.1 (n:Int)] (pickF x.2.2.1 3:Int))))):=fun ww hk=>mark_q (p0.same hk) _ _ (fun m hm=>by rw [hm,← hn];exact HLT.out _) h3
 have FIN:Hid (∀ er l', ((er≠0∧l' = l)∨(er=0∧∃ hi:pickF x.2.1 (n:Int)<l.length,l[pickF x.2.1 (n:Int)].2.2.2.1=false∧l' = l.set (pickF x.2.1 (n:Int)) (marked l[pickF x.2.1 (n:Int)] (pickF x.2.2.1 3:Int))))→StepR l x er l'):=fun er l' hq=>by
  rcases hq with q | ⟨q1,q2,q3,q4⟩
  ·exact .inl q
  ·have e1:=pick_of hn (by omega) x.2.1
   generalize pickF x.2.1 (n:Int)=j at *
   subst e1
   exact .inr (.inr (.inr ⟨q1,by omega,q2,q3,q4⟩))
 have K0:Hid (Same0 w W0):=k0
 have kd:Same0 W0 W0.drew:=(Kept.refl _ _).drew
 have PQd:=PQ.out _ kd
 have HKD:Hid (∀ ww,Kept (fun k=>k=h∨k=g) W0.drew ww→Kept (fun k=>k=h∨k=g) w ww):=fun ww hk=>kept_at (k0.trans' kd) hk
 clear p p0 hb hn k0 kd PQ hK HNN HLT h3
 go_enter Try.func23,Try.ntmps23
 go_upto_region 1 with fail
 rw [← hW0]
 clear hW0
 go_upto_region 2 with (first | (go_at_call 18;refine CU.mono ?_;rintro e w1 ⟨rfl,h1⟩;have h1:=h1.symm;subst h1))
 rw [HN.out]
 clear CU HN
 go_upto_region 7 with (first | (go_at_call 25;refine C7.mono ?_;rintro e w1 ⟨rfl,h1⟩;have h1:=h1.symm;subst h1))
 clear C7
 go_region_with (first | (go_at_call 25;refine (CG.out _ _ _ (by first | exact hx1 | exact hx2) (by omega) (by omega)).mono ?_;rintro e w3 ⟨rfl,h3⟩;have h3:=h3.symm;subst h3) | (go_at_call 32;refine PQd.mono ?_;rintro e w4 ⟨er,l', rfl,hp4,hk4,hq4⟩))
 all_goals
  go_wp2
  go_ret
  exact ⟨er,l', rfl,hp4,HKD.out _ hk4,FIN.out _ _ hq4⟩
theorem wrap64_i64 (z:Int):I64 (wrap64 z):=by
 unfold wrap64;omega
set_option maxHeartbeats 400000 in
theorem step_make {w:World} {h g room:Nat} {l:List Nd} (p:Hp w h g room l) (x:Raw4) (hx:x.ok) (K:Nat) (hK:pickF x.1 7=K) (hk:K<4):Calls Try.prog 23 #[.pointer (some ⟨h,0,none⟩),rawV x] w fun e w' => StepQ w h g room l x e w' := by
 obtain ⟨W0,hW0⟩:∃ W0,W0=w.alloc (.cells #[.int .i64 x.1,.int .i64 x.2.1,.int .i64 x.2.2.1,.int .i64 x.2.2.2] 53):=⟨_,rfl⟩
 have k0:Same0 w W0:=by rw [hW0];exact (Kept.refl _ w).alloc _
 have hb:W0.heap[w.heap.size]? = some (.cells #[.int .i64 x.1,.int .i64 x.2.1,.int .i64 x.2.2.1,.int .i64 x.2.2.2] 53 (0,0)):=by rw [hW0];exact heap_alloc_new w _
 obtain ⟨b0,b1,b2,b3⟩:=box4 hb
 have p0:=p.same k0
 have CU:=used_any p0
 have hle:=p.le
 have hr2:=p.rm2
 obtain ⟨n,hn⟩:∃ n:Nat,n=max l.length 1:=⟨_,rfl⟩
 have HN:Hid ((if (l.length:Int)<1 then (1:Int) else (l.length:Int))=(n:Int)):=by show _=_;split <;> omega
 have hn1:1≤(n:Int):=by omega
 have hn2:(n:Int)≤4000:=by omega
 obtain ⟨hx0,hx1,hx2,hx3⟩:=hx
 have HNN:Hid (n=max l.length 1):=hn
 have CP:Hid (∀ c ww,I64 c→Calls Try.prog 25 #[.int .i64 c,.int .i64 (n:Int)] ww fun e w' => e=.returned (.int .i64 (pickF c (n:Int):Int))∧w' = ww):=fun c ww hc=>pick_any c hc (n:Int) hn1 (by omega) ww
 have HLT:Hid (∀ c,pickF c (n:Int)<n):=fun c=>by have:=pick_lt c (show (0:Int)<(n:Int) by omega);omega
 have C7:=pick_any x.1 hx0 7 (by decide) (by decide) W0
 rw [hK] at C7
 have h4:pickF x.2.2.2 4<4:=by have:=pick_lt x.2.2.2 (show (0:Int)<4 by decide);omega
 have CG:Hid (∀ c m ww,I64 c→1≤m→m≤4000→Calls Try.prog 25 #[.int .i64 c,.int .i64 m] ww fun e w' => e=.returned (.int .i64 (pickF c m:Int))∧w' = ww):=fun c m ww hc h1 h2=>pick_any c hc m h1 (by omega) ww
 have MQ:Hid (∀ ww,Same0 W0 ww→∀ s ao xs cap,Arg ww ao xs cap→Calls Try.prog 29 #[.pointer (some ⟨h,0,none⟩),.int .i64 s,.slice ao xs.length cap] ww fun e w' => ∃ a er l', e=.returned (.tuple #[.int .i64 a,.int .i64 er])∧Hp w' h g room l' ∧ Kept (fun k=>k=h∨k=g) ww w' ∧ ((er≠0∧l' = l)∨(er=0∧∃ y,l' = l ++ [y]))):=fun ww hk s ao xs cap ha=>make_q (p0.same hk) s ha
 have FIN:Hid (∀ er l', ((er≠0∧l' = l)∨(er=0∧∃ y,l' = l ++ [y]))→StepR l x er l'):=fun er l' hq=>by
  rcases hq with q | ⟨q1,q2⟩
  ·exact .inl q
  ·exact .inr (.inl ⟨q1,by omega,q2⟩)
 have HU:Hid (∀ ww,Same0 W0 ww→Calls Try.prog 18 #[.pointer (some ⟨h,0,none⟩)] ww fun e w' => e=.returned (.int .i64 (l.length:Int))∧w' = ww):=fun ww hk=>used_any (p0.same hk)
 have HB4:Hid (∀ ww,Same0 W0 ww→ww.cell? ⟨w.heap.size,0,none⟩=some (.int .i64 x.1)∧ww.cell? ⟨w.heap.size,1,none⟩=some (.int .i64 x.2.1)∧ww.cell? ⟨w.heap.size,2,none⟩=some (.int .i64 x.2.2.1)∧ww.cell? ⟨w.heap.size,3,none⟩=some (.int .i64 x.2.2.2)):=fun ww hk=>box4 (hk.at0 hb)
 have HKD:Hid (∀ w1 ww,Same0 W0 w1→Kept (fun k=>k=h∨k=g) w1 ww→Kept (fun k=>k=h∨k=g) w ww):=fun w1 ww h1 hk=>kept_at (k0.trans' h1) hk
 have e4:((K:Int) == 4)=false:=by simp;omega
 have e5:((K:Int) == 5)=false:=by simp;omega
 have e6:((K:Int) == 6)=false:=by simp;omega
 have M0:(pickF x.2.2.2 4:Int)≤3:=by omega
 have l0:(0:Int)≤(l.length:Int):=by omega
 have l1:(l.length:Int)≤4000:=by omega
 have KR:Same0 W0 W0:=Kept.refl _ _
 have HLI:Hid (∀ c,((pickF c (n:Int):Nat):Int)<(n:Int)):=fun c=>by have:=HLT.out c;omega
 clear p p0 hb hn k0 hK HNN HLT
 go_enter Try.func23,Try.ntmps23
 go_upto_region 1 with fail
 rw [← hW0]
 clear hW0
 go_upto_region 2 with (first | (go_at_call 18;refine CU.mono ?_;rintro e w1 ⟨rfl,h1⟩;have h1:=h1.symm;subst h1))
 rw [HN.out]
 clear CU HN
 go_upto_region 10 with (first | (go_at_call 25;refine C7.mono ?_;rintro e w1 ⟨rfl,h1⟩;have h1:=h1.symm;subst h1))
 clear C7 e4 e5 e6 b0 b1 b2 b3
 go_loopw [6,7] (fun v i wr=>∃ (k:Nat) (xs:List Int),i=.int .i64 (k:Int)∧k≤3∧xs.length=k∧Row W0.heap.size wr v xs∧Same0 W0 wr) (fun _ i _=>4-(intOf i).toNat)
 case atStart=>exact ⟨0,[],rfl,by omega,rfl,World.ownsRow_nil _ _ _ _,KR⟩
 case round=>
  clear KR
  obtain ⟨k,xs,rfl,hk3,hxl,hrow,hw⟩:=hrel
  subst hxl
  obtain ⟨ao,ac,rfl⟩:=row_shape hrow
  obtain ⟨b0,b1,b2,b3⟩:=HB4.out wr hw
  have CU:=HU.out wr hw
  have hsz:=hw.size
  by_cases hm:xs.length<pickF x.2.2.2 4∧0<l.length
  ·obtain ⟨m1,m2⟩:=hm
   have j1:(xs.length:Int)<(pickF x.2.2.2 4:Int):=by omega
   have j2:(0:Int)<(l.length:Int):=by omega
   go_wp2_with (first | (go_at_call 25;refine (CG.out _ _ _ (by first | exact hx3 | exact wrap64_i64 _ | exact wrap_i64 _) (by omega) (by omega)).mono ?_;rintro e w3 ⟨rfl,h3⟩;have h3:=h3.symm;subst h3) | (go_at_call 18;refine CU.mono ?_;rintro e w3 ⟨rfl,h3⟩;have h3:=h3.symm;subst h3) | (at_builtin;refine wpList_push rfl _ _ 31 rfl Try.underlying31 W0.heap.size xs _ rfl hrow _ rfl hsz (by omega) ?_;intro g4 cap4 w4 hr4 hk4 hor))
   have hk5:Same0 W0 w4:=hw.onto hrow hk4
   go_roundw
   case rel=>first | exact ⟨xs.length+1,_,by go_num,by omega,by simp,hr4,hk5⟩ | ((repeat apply Exists.intro);exact ⟨⟨xs.length+1,_,by go_num,by omega,by simp,hr4,hk5⟩,rfl⟩)
   case measure=>simp [intOf];omega
  ·obtain ⟨ao', ac', e,ha, -⟩:=hrow.arg (by omega)
   cases e
   have MK:=MQ.out wr hw (pickF x.2.1 100:Int) ao xs ac ha.1
   have j1:decide ((xs.length:Int)<(pickF x.2.2.2 4:Int))=false∨(l.length:Int)=0:=by
    by_cases q:xs.length<pickF x.2.2.2 4
    ·right;omega
    ·left;simp;omega
   clear hm
   rcases j1 with j1 | j1
   ·have j2:¬ (xs.length:Int)<(pickF x.2.2.2 4:Int):=by simpa using j1
    go_wp2_with (first | (go_at_call 25;refine (CG.out _ _ _ (by first | exact hx3 | exact hx1) (by omega) (by omega)).mono ?_;rintro e w3 ⟨rfl,h3⟩;have h3:=h3.symm;subst h3) | (go_at_call 29;refine MK.mono ?_;rintro e w4 ⟨a,er,l', rfl,hp4,hk4,hq4⟩))
    go_ret
    exact ⟨er,l', rfl,hp4,HKD.out _ _ hw hk4,FIN.out _ _ hq4⟩
   ·rw [j1] at CU
    clear j1
    go_wp2_with (first | (go_at_call 25;refine (CG.out _ _ _ (by first | exact hx3 | exact hx1) (by omega) (by omega)).mono ?_;rintro e w3 ⟨rfl,h3⟩;have h3:=h3.symm;subst h3) | (go_at_call 18;refine CU.mono ?_;rintro e w3 ⟨rfl,h3⟩;have h3:=h3.symm;subst h3) | (go_at_call 29;refine MK.mono ?_;rintro e w4 ⟨a,er,l', rfl,hp4,hk4,hq4⟩))
    all_goals
     go_ret
     exact ⟨er,l', rfl,hp4,HKD.out _ _ hw hk4,FIN.out _ _ hq4⟩
end Go.Proofs.Ytcbplgfkgkefeaa
