import Derived.Test.YtmjgnfkbnofjoaaGreatDoorSW10
import Derived.Deep.RegionLaw
import Derived.Test.YtmjgnfkbnofjoaaGreatDoorSW09
import Derived.Test.YtmjgnfkbnofjoaaGreatDoorSW01
import Derived.Deep.QuietTactic
import Derived.BigQuiet
import Derived.Test.YtmjgnfkbnofjoaaGreatDoorSW05
namespace Go.Proofs.YtmjgnfkbnofjoaaGreatDoor
set_option maxRecDepth 100000
set_option linter.unusedVariables false
open Go.RowKit
attribute [local go_sem ↓] Go.wp_at_zero Go.wp_at_succ
structure StAt (w:World) (b bs:Nat) (L:List Sym) (R:List Ru) (lv:Value) (vs:List Value):Prop where
 blk:w.heap[b]? = some (.cells #[.pointer (some ⟨bs,0,none⟩),lv] 113 (0,0))
 sig:Sg w.heap.size w bs L
 row:w.ownsRow 0 90 2 lv R.length vs
 own:OCells w vs R
 le:R.length≤100
 ok:∀ x∈R,checkE L x.1=0∧checkE L x.2=0
theorem ok_len {L:List Sym} {x:Ru} (h:checkE L x.1=0∧checkE L x.2=0):(0<x.1.length∧x.1.length≤2000)∧0<x.2.length∧x.2.length≤2000:=by
 obtain ⟨a1,_,a2⟩:=checkE_zero.1 h.1
 obtain ⟨b1,_,b2⟩:=checkE_zero.1 h.2
 exact ⟨⟨isT_pos a2,a1⟩,isT_pos b2,b1⟩
theorem StAt.rc {w:World} {b bs:Nat} {L:List Sym} {R:List Ru} {lv:Value} {vs:List Value} (h:StAt w b bs L R lv vs):RCells w vs R:=
 h.own.rcells (fun x hx=>⟨(ok_len (h.ok x hx)).1.2,(ok_len (h.ok x hx)).2.2⟩)
theorem StAt.read {w:World} {b bs:Nat} {L:List Sym} {R:List Ru} {lv:Value} {vs:List Value} (h:StAt w b bs L R lv vs):∃ ro rc,lv=.slice ro R.length rc∧StR w b bs ro rc L R:=by
 obtain ⟨ao,cap,rfl,h1,h2,_⟩:=row_rules h.row h.rc
 exact ⟨ao,cap,rfl,h.blk,h.sig,h1,h2,h.le,fun x hx=>(h.ok x hx).1⟩
def StoB (w:World) (b:Nat) (lv:Value) (k:Nat):Prop:=k=b∨lv.ownBlock=some k
def IsSt (w:World) (k:Nat):Prop:=(∃ c,w.heap[k]? = some (.cells c 113 (0,0)))∨∃ c,w.heap[k]? = some (.cells c 90 (0,0))
theorem own_blk {w:World} {base:Nat} {e:TypeId} {size n:Nat} {v:Value} {xs:List Value} (h:w.ownsRow base e size v n xs) {k:Nat} (hk:v.ownBlock=some k):∃ c,w.heap[k]? = some (.cells c e (0,0)):=by
 rcases h.2 with ⟨rfl,_⟩ | ⟨g,cap,cur,rfl,_,hg,_⟩
 ·cases hk
 ·simp [Value.ownBlock] at hk;subst hk;exact ⟨cur,hg⟩
theorem StAt.isSt {w:World} {b bs:Nat} {L:List Sym} {R:List Ru} {lv:Value} {vs:List Value} (h:StAt w b bs L R lv vs):∀ k,StoB w b lv k→IsSt w k:=by
 rintro k (rfl | e)
 ·exact .inl ⟨_,h.blk⟩
 ·exact .inr (own_blk h.row e)
theorem IsSt.no_int {w:World} {k:Nat} (h:IsSt w k):∀ cur,w.heap[k]? ≠ some (.cells cur 3 (0,0)):=by
 intro cur e
 rcases h with ⟨c,h⟩ | ⟨c,h⟩ <;> (rw [h] at e;cases e)
theorem IsSt.no_sig {w:World} {k b:Nat} {L:List Sym} {sv:Value} {mr:Option Nat} (h:IsSt w k) (hs:SigAt w b L sv mr):¬ Foot b sv mr k:=by
 rintro (e | e | e)
 ·subst e
  have:=hs.blk
  rcases h with ⟨c,h⟩ | ⟨c,h⟩ <;> (rw [h] at this;cases this)
 ·obtain ⟨c', this⟩:=own_blk hs.row e
  rcases h with ⟨c,h⟩ | ⟨c,h⟩ <;> (rw [h] at this;cases this)
 ·subst e
  obtain ⟨n,D,hm,_⟩:=hs.map
  obtain ⟨es,clock,this,_⟩:=hm
  rcases h with ⟨c,h⟩ | ⟨c,h⟩ <;> (rw [h] at this;cases this)
theorem Sg.kept_ty {n b:Nat} {w w' : World} {L:List Sym} {S:Nat→Prop} (h:Sg n w b L) (hk:Kept S w w') (hS:∀ k,S k→IsSt w k):Sg n w' b L:=by
 obtain ⟨⟨sv,mr,h1,h2⟩,h3⟩:=h
 exact ⟨⟨sv,mr,h1.kept hk (fun k e s=>(hS k s).no_sig h1 e),h2⟩,h3⟩
theorem Same0.mono' {S:Nat→Prop} {w w' : World} (h:Same0 w w'):Kept S w w' := h.mono (fun _ _ f=>f.elim)
theorem StAt.same {w w' : World} {b bs:Nat} {L:List Sym} {R:List Ru} {lv:Value} {vs:List Value} (h:StAt w b bs L R lv vs) (hk:Same0 w w'):StAt w' b bs L R lv vs:=
 ⟨hk.at0 h.blk,sg_up (h.sig.same hk) hk.size,hk.row h.row (fun _ _ f=>f),h.own.same hk,h.le,h.ok⟩
theorem step_callx {ops:Array Oper} {o:Oper} {a:Act} {w:World} {K:Act→World→Prop} {Q:Exit→Act→World→Prop} {E:Prop} {f:FuncId} {args:Array Value} {R:Ending→World→Prop} (hgd:o.guard=none)
  (c:Calls Tryz.prog f args w R) (hrun:(execOp a.eval o).run Tryz.prog w=.ok (.enter f args) w) (hR:∀ e w', R e w' → ∃ v,e=.returned v∧(K (a.put o.dst v) w')) :
  if Region.wanted o (yielded ops a.tmps)=true then Oper.wp Tryz.prog o a w K Q else E:=by
 have hw:Region.wanted o (yielded ops a.tmps)=true:=by simp [Region.wanted,hgd]
 rw [if_pos hw]
 unfold Oper.wp
 rw [hrun,Oper.upon_enter]
 refine c.mono fun e w' h=>?_
 obtain ⟨v,rfl,h2⟩:=hR e w' h
 exact h2
theorem run_rules {w0:World} (ty:TypeId) {base N:Nat} {vs:List Value} {v:Value} (hr:w0.ownsRow base 90 2 v N vs) {ad:Addr} {m c:Nat} {us:List Value} (hl:us.length=m * 2) (hu:∀ j u,us[j]? = some u→w0.cell? (ad.add j)=some u) (h1:∀ u∈us,u.oneCell' = true) (hb:base≤w0.heap.size) (hsz:N+m≤1000) :
  ∃ v' w', (Builtin.append_ #[29,29] ty #[v,.slice (some ad) m c]).run Tryz.prog w0=.ok v' w' ∧ w'.ownsRow base 90 2 v' (N+m) (vs++us)∧Kept (fun k=>v.ownBlock=some k) w0 w' ∧ ∀ k,v'.ownBlock=some k→v.ownBlock=some k∨w0.heap.size≤k:=by
 obtain ⟨i,hi,hz0,hz1,hz2⟩:=info_parts info_rule
 by_cases hm:0<m
 ·obtain ⟨g,cap,w', q1,q2,q3,q4,_⟩:=run_append_lies (P:=Tryz.prog) w0 29 ty base 90 i _ 2 48 Tryz.underlying29 hi hz0 hz1 hz2 rfl (by decide) v N vs hr ad m c us hl hu h1 hm (by unfold maxLen;omega) (by omega) hb w0.heap.size rfl
  refine ⟨_,w', q1,q2,Kept.grown (Kept.refl _ w0) q3 (fun _ e _=>e),fun k e=>?_⟩
  simp [Value.ownBlock] at e
  subst e
  exact q4.imp id (fun e=>by omega)
 ·obtain rfl:m=0:=by omega
  obtain ⟨v', w', q1,q2,q3,q4⟩:=run_append_own (P:=Tryz.prog) w0 base 29 ty 90 i _ 2 48 Tryz.underlying29 hi hz0 hz1 hz2 rfl (by decide) v N vs hr ad 0 c us hl hu h1 (by unfold maxLen;omega) (by omega) hb
  refine ⟨v', w', q1,q2,Kept.grown (Kept.refl _ w0) q3 (fun _ e _=>e),fun k e=>.inl ?_⟩
  rcases hr.2 with ⟨rfl,h0⟩ | ⟨g,cap,cur,rfl,_,hg,g1,g2,g3,g4⟩
  ·rw [q4.2 ⟨rfl,rfl⟩] at e;cases e
  ·have e0:us=[]:=List.eq_nil_of_length_eq_zero (by omega)
   subst e0
   have:=run_append_room (P:=Tryz.prog) w0 29 ty 90 i Tryz.underlying29 hi g N cap cur hg ad 0 c [] (by simp) (by simp) (by simp) (by omega) (by rw [hz1,g3];simp;omega)
   rw [q1] at this
   simp only [Result.ok.injEq] at this
   rw [this.1] at e
   exact e
theorem step_rules {w0:World} {ops:Array Oper} {o:Oper} {a:Act} {K:Act→World→Prop} {Q:Exit→Act→World→Prop} {E:Prop} (hgd:o.guard=none) (s x:Operand)
  (ho:o.op=.call { callee:=.builtin .append,args:=#[s,x],argTypes:=#[29,29] })
  (base N:Nat) (vs:List Value) (v:Value) (hs:a.eval s=v) (hr:w0.ownsRow base 90 2 v N vs) (ad:Addr) (m c:Nat) (us:List Value) (hx:a.eval x=.slice (some ad) m c) (hl:us.length=m * 2) (hu:∀ j u,us[j]? = some u→w0.cell? (ad.add j)=some u) (h1:∀ u∈us,u.oneCell' = true) (hb:base≤w0.heap.size) (hsz:N+m≤1000)
  (h:∀ v' w', w'.ownsRow base 90 2 v' (N+m) (vs++us)→Kept (fun k=>v.ownBlock=some k) w0 w' → (∀ k,v'.ownBlock=some k→v.ownBlock=some k∨w0.heap.size≤k)→K (a.put o.dst v') w') :
  if Region.wanted o (yielded ops a.tmps)=true then Oper.wp Tryz.prog o a w0 K Q else E:=by
 have hw:Region.wanted o (yielded ops a.tmps)=true:=by simp [Region.wanted,hgd]
 rw [if_pos hw]
 obtain ⟨v', w', hr1,hr2,hr3,hr4⟩:=run_rules (c:=c) o.type hr hl hu h1 hb hsz
 exact Lib.wp_append_run w0 s x 29 29 ho _ _ hs hx v' w' hr1 (h v' w' hr2 hr3 hr4)
theorem err_nil (w:World):(binOp .neq 46 .nilIface .nilIface).run Tryz.prog w=.ok (.bool false) w:=by kernel_rfl
theorem err_flt (v:Value) (w:World):(binOp .neq 46 (.iface 114 v) .nilIface).run Tryz.prog w=.ok (.bool true) w:=by kernel_rfl
theorem Ans.flt {L:List Sym} {R l:List Ru} {ws:List (Int × Int)} {w:World} {v:Value} (h:Ans L R l ws) (hf:FltAt w ws v):(ws=[]∧v=.nilIface)∨(ws≠[]∧∃ k,v=.iface 114 (.pointer (some ⟨k,0,none⟩))):=by
 rcases h with ⟨rfl,_⟩ | ⟨j,n,_,_,_,_,rfl⟩
 ·exact .inl ⟨rfl,hf⟩
 ·refine .inr ⟨wrongL_ne _ _ _ _ _,?_⟩
  unfold wrongL at hf
  have key:∀ {c:Int} {r:List (Int × Int)},FltAt w ((c,(n:Int)) :: r) v→∃ k,v=.iface 114 (.pointer (some ⟨k,0,none⟩)):=by
   intro c r h
   rcases h with ⟨e,_⟩ | ⟨_,k,u,e,_⟩
   ·omega
   ·exact ⟨k,e⟩
  split at hf
  ·exact key hf
  ·split at hf
   ·exact key hf
   ·exact key hf
def AddPost (L:List Sym) (R l:List Ru) (b bs:Nat) (lv:Value) (w:World) (e:Ending) (w' : World):Prop:=
 ∃ ws v,e=.returned v∧Ans L R l ws∧FltAt w' ws v∧ws.length≤2∧(ws≠[]→Same0 w w')∧(ws=[]→∃ lv' vs', StAt w' b bs L (R++l) lv' vs' ∧ Kept (StoB w b lv) w w' ∧ ∀ k,lv'.ownBlock=some k→lv.ownBlock=some k∨w.heap.size≤k)
theorem Ans.fit {L:List Sym} {R l:List Ru} (h:Ans L R l []) (hR:R.length≤100):R.length+l.length≤100∧∀ x∈l,checkE L x.1=0∧checkE L x.2=0:=by
 refine ⟨?_,fun x hx=>?_⟩
 ·by_cases h0:l.length=0
  ·omega
  ·have:=h.nil 0 (by omega) 0 (by omega)
   simpa [ckB,askB] using this
 ·obtain ⟨i,hi,rfl⟩:=List.mem_iff_getElem.1 hx
  have:=h.nil 1 (by omega) i hi
  simp only [ckB,askB,Bool.and_eq_true,decide_eq_true_eq] at this
  simpa [List.getD,hi] using this
set_option maxHeartbeats 8000000 in
theorem add_rules {w:World} {b bs:Nat} {L:List Sym} {R:List Ru} {lv:Value} {vs:List Value} {lo:Option Addr} {l:List Ru} {lc:Nat} (h:StAt w b bs L R lv vs) (hl:RsAt w lo l) (hll:l.length≤140737488355328) (hlc:l.length≤lc) :
  Calls Tryz.prog 46 #[.pointer (some ⟨b,0,none⟩),.slice lo l.length lc] w (AddPost L R l b bs lv w):=by
 obtain ⟨ro,rc,rfl,hR⟩:=h.read
 have C:=checkR_any hR hl hll hlc
 have hn:=err_nil
 have hf:=err_flt
 unfold ChkPost at C
 go_enter Tryz.func46,Tryz.ntmps46
 go_upto_region 2 with (first | (go_at_call 82;refine C.mono ?_;rintro e w1 ⟨ws,v,rfl,hA,hv,hws,hk1⟩))
 rcases hA.flt hv with ⟨rfl,rfl⟩ | ⟨hne,k,rfl⟩
 ·have A0:Hid (Ans L R l []):=hA
  obtain ⟨hsz,hok⟩:=hA.fit h.le
  have h1:=h.same hk1
  have hl1:=hl.same hk1
  have CC:Hid (∀ ww,Same0 w1 ww→Calls Tryz.prog 75 #[.slice lo l.length lc] ww fun e w' => ∃ us,e=.returned (.slice (some ⟨ww.heap.size,0,none⟩) l.length l.length)∧w'.ownsRow ww.heap.size 90 2 (.slice (some ⟨ww.heap.size,0,none⟩) l.length l.length) l.length us∧OCells w' us l∧Same0 w1 w'):=fun ww hk=>(copies_any (hl1.same hk) (by omega) (fun x hx=>ok_len (hok x hx))).mono (fun e w' ⟨us,q1,q2,q3,q4⟩=>⟨us,q1,q2,q3,hk.trans' q4⟩)
  have HB:Hid (∀ ww,Same0 w1 ww→ww.cell? ⟨b,1,none⟩=some (.slice ro R.length rc)∧ww.ownsRow 0 90 2 (.slice ro R.length rc) R.length vs):=fun ww hk=>⟨cellAt (h1.same hk).blk 1,(h1.same hk).row⟩
  have HU:Hid (∀ w2 g us,w2.ownsRow g 90 2 (.slice (some ⟨g,0,none⟩) l.length l.length) l.length us→OCells w2 us l→us.length=l.length * 2∧(∀ j u,us[j]? = some u→w2.cell? ((⟨g,0,none⟩:Addr).add j)=some u)∧∀ u∈us,u.oneCell' = true):=fun w2 g us r o=>⟨o.1,r.cells rfl,(o.rcells (fun x hx=>⟨(ok_len (hok x hx)).1.2,(ok_len (hok x hx)).2.2⟩)).one⟩
  have HC7:Hid (∀ w2 w7,Same0 w1 w2→Kept (fun k=>(Value.slice ro R.length rc).ownBlock=some k) w2 w7→w7.cell? ⟨b,1,none⟩=some (.slice ro R.length rc)∧w7.frozen? ⟨b,1,none⟩=false):=fun w2 w7 k1 k2=>by
   have h2:=h1.same k1
   have b7:=k2.at h2.blk (fun e=>by
    obtain ⟨c,hc⟩:=own_blk h2.row e
    rw [h2.blk] at hc;cases hc)
   exact ⟨cellAt b7 1,frozenAt b7 1⟩
  have FIN:Hid (∀ w2 w7 us vo vc,Same0 w1 w2→OCells w2 us l→w7.ownsRow 0 90 2 (.slice vo (R.length+l.length) vc) (R.length+l.length) (vs++us)→Kept (fun k=>(Value.slice ro R.length rc).ownBlock=some k) w2 w7→(∀ k,(Value.slice vo (R.length+l.length) vc).ownBlock=some k→(Value.slice ro R.length rc).ownBlock=some k∨w2.heap.size≤k)→∃ lv' vs', StAt (w7.setCell ⟨b,1,none⟩ (.slice vo (R.length+l.length) vc)) b bs L (R++l) lv' vs' ∧ Kept (StoB w b (.slice ro R.length rc)) w (w7.setCell ⟨b,1,none⟩ (.slice vo (R.length+l.length) vc))∧∀ k,lv'.ownBlock=some k→(Value.slice ro R.length rc).ownBlock=some k∨w.heap.size≤k):=by
   intro w2 w7 us vo vc k1 o2 r7 k7 hat
   have h2:=h1.same k1
   have k0:Same0 w w2:=hk1.trans' k1
   have ks:Kept (StoB w b (.slice ro R.length rc)) w2 (w7.setCell ⟨b,1,none⟩ (.slice vo (R.length+l.length) vc)):=Kept.setCell (p:=⟨b,1,none⟩) (k7.mono (S' := StoB w b (.slice ro R.length rc)) (fun _ _ e=>.inr e)) (fun _=>.inl rfl) _
   have b7:w7.heap[b]? = some (.cells #[.pointer (some ⟨bs,0,none⟩),.slice ro R.length rc] 113 (0,0)):=k7.at h2.blk (fun e=>by
    obtain ⟨c,hc⟩:=own_blk h2.row e
    rw [h2.blk] at hc;cases hc)
   have ty:=fun k e=>(h2.isSt k e).no_int
   have hok2:∀ x∈R++l,checkE L x.1=0∧checkE L x.2=0:=fun x hx=>by
    rcases List.mem_append.1 hx with q | q
    ·exact h.ok x q
    ·exact hok x q
   refine ⟨.slice vo (R.length+l.length) vc,vs++us,⟨setAt b7 1 _,sg_up (h2.sig.kept_ty ks h2.isSt) ks.size,?_,(h2.own.kept ks ty).append (o2.kept ks ty),by simp;omega,hok2⟩,Kept.trans k0.mono' ks (fun _ _ e=>e),fun k e=>(hat k e).imp id (fun q=>by have:=k0.size;omega)⟩
   rw [List.length_append]
   have kb:Kept (fun k=>k=b) w7 (w7.setCell ⟨b,1,none⟩ (.slice vo (R.length+l.length) vc)):=Kept.setCell (p:=⟨b,1,none⟩) (Kept.refl (fun k=>k=b) w7) (fun _=>rfl) _
   exact kb.row r7 (fun k e q=>by
    subst q
    obtain ⟨c,hc⟩:=own_blk r7 e
    rw [b7] at hc;cases hc)
  clear hA hv C h hl hR h1 hl1 hok
  obtain ⟨c1,_⟩:=HB.out w1 (Kept.refl _ _)
  go_wp2
  go_region_law (first
   | (refine step_rules (by rfl) _ _ (by rfl) 0 R.length vs (.slice ro R.length rc) (by rfl) r2 ⟨_,0,none⟩ l.length l.length us (by rfl) u1 u2 u3 (Nat.zero_le _) (by omega) ?_;intro v7 w7 r7 k7 hat7;obtain ⟨vo,vc,rfl⟩:=row_shape r7;obtain ⟨c7,f7⟩:=HC7.out w2 w7 k2 k7)
   | (refine step_callx rfl (CC.out _ (Kept.drew (Kept.refl _ _))) (by simp [go_sem]) ?_;rintro e w2 ⟨us,rfl,rr2,o2,k2⟩;refine ⟨_,rfl,?_⟩;obtain ⟨c2,r2⟩:=HB.out w2 k2;obtain ⟨u1,u2,u3⟩:=HU.out _ _ _ rr2 o2))
  all_goals
   have FF:Hid (∃ lv' vs', StAt (w7.setCell ⟨b,1,none⟩ (.slice vo (R.length+l.length) vc)) b bs L (R++l) lv' vs' ∧ Kept (StoB w b (.slice ro R.length rc)) w (w7.setCell ⟨b,1,none⟩ (.slice vo (R.length+l.length) vc))∧∀ k,lv'.ownBlock=some k→(Value.slice ro R.length rc).ownBlock=some k∨w.heap.size≤k):=FIN.out w2 w7 us vo vc k2 o2 r7 k7 hat7
   clear c1 c2 r2 u1 u2 u3 rr2 o2 r7 k7 c7 f7 hat7
   go_wp2
   go_ret
   exact ⟨[],_,rfl,A0.out,rfl,by simp,fun q=>absurd rfl q,fun _=>FF.out⟩
 ·have A0:Hid (Ans L R l ws):=hA
  clear C hA
  go_wp2
  go_ret
  exact ⟨ws,_,rfl,A0.out,hv,hws,fun _=>hk1,fun e=>absurd e hne⟩
theorem wpList_rw {w0 W:World} {ops:Array Oper} {rest:List Oper} {o:Oper} {a:Act} {Q:Exit→Act→World→Prop} (hgd:o.guard=none) (s x:Operand)
  (ho:o.op=.call { callee:=.builtin .append,args:=#[s,x],argTypes:=#[179,179] })
  (base N:Nat) (vs:List Value) (v:Value) (hs:a.eval s=v) (hW:Same0 w0 W) (hr:w0.ownsRow base 246 3 v N vs) (A B C:Value) (q:Nat) (hx:a.eval x=.slice (some ⟨q,0,none⟩) 1 1) (hq:W.heap[q]? = some (.cells #[A,B,C] 246 (0,0))) (hA:A.oneCell' = true) (hB:B.oneCell' = true) (hC:C.oneCell' = true) (hb:base≤w0.heap.size) (hsz:N≤1000)
  (h:∀ g cap w', w'.ownsRow base 246 3 (.slice (some ⟨g,0,none⟩) (N+1) cap) (N+1) (vs ++ [A,B,C])→Kept (fun k=>v.ownBlock=some k) w0 w' → wpList Tryz.prog ops Q rest (a.put o.dst (.slice (some ⟨g,0,none⟩) (N+1) cap)) w') :
  wpList Tryz.prog ops Q (o :: rest) a W:=by
 obtain ⟨i,hi,hz0,hz1,hz2⟩:=info_parts info_row
 refine wpList_append_own _ hgd s x 179 ho base 246 i _ 3 56 Tryz.underlying179 hi hz0 hz1 hz2 rfl (by decide) v N vs hs (hW.row hr (fun _ _ f=>f)) ⟨q,0,none⟩ 1 1 [A,B,C] hx rfl (World.news_of_block (cs:=#[A,B,C]) (t:=246) (fr:=(0,0)) hq) (by intro u hu;simp at hu;rcases hu with rfl | rfl | rfl <;> assumption) (by unfold maxLen;omega) (by omega) (Nat.le_trans hb hW.size) ?_
 intro v' w' hown hgrow _
 rcases hown.2 with ⟨rfl,h0⟩ | ⟨g,cap,cur,rfl,r⟩
 ·omega
 ·exact h g cap w' hown (Kept.grown (Kept.mono hW (fun _ _ f=>f.elim)) hgrow (fun _ e _=>e))
theorem step_rw {w0 W:World} {ops:Array Oper} {o:Oper} {a:Act} {K:Act→World→Prop} {Q:Exit→Act→World→Prop} {E:Prop} (hgd:o.guard=none) (s x:Operand)
  (ho:o.op=.call { callee:=.builtin .append,args:=#[s,x],argTypes:=#[179,179] })
  (base N:Nat) (vs:List Value) (v:Value) (hs:a.eval s=v) (hW:Same0 w0 W) (hr:w0.ownsRow base 246 3 v N vs) (A B C:Value) (q:Nat) (hx:a.eval x=.slice (some ⟨q,0,none⟩) 1 1) (hq:W.heap[q]? = some (.cells #[A,B,C] 246 (0,0))) (hA:A.oneCell' = true) (hB:B.oneCell' = true) (hC:C.oneCell' = true) (hb:base≤w0.heap.size) (hsz:N≤1000)
  (h:∀ g cap w', w'.ownsRow base 246 3 (.slice (some ⟨g,0,none⟩) (N+1) cap) (N+1) (vs ++ [A,B,C])→Kept (fun k=>v.ownBlock=some k) w0 w' → K (a.put o.dst (.slice (some ⟨g,0,none⟩) (N+1) cap)) w') :
  if Region.wanted o (yielded ops a.tmps)=true then Oper.wp Tryz.prog o a W K Q else E:=by
 obtain ⟨i,hi,hz0,hz1,hz2⟩:=info_parts info_row
 refine step_append_lies _ hgd s x 179 ho base 246 i _ 3 56 Tryz.underlying179 hi hz0 hz1 hz2 rfl (by decide) v N vs hs (hW.row hr (fun _ _ f=>f)) ⟨q,0,none⟩ 1 1 [A,B,C] hx rfl (World.news_of_block (cs:=#[A,B,C]) (t:=246) (fr:=(0,0)) hq) (by intro u hu;simp at hu;rcases hu with rfl | rfl | rfl <;> assumption) (by omega) (by unfold maxLen;omega) (by omega) (Nat.le_trans hb hW.size) W.heap.size rfl ?_
 intro g cap w' hown hgrow hat hlt
 exact h g cap w' hown (Kept.grown (Kept.mono hW (fun _ _ f=>f.elim)) hgrow (fun _ e _=>e))
theorem row_ty {w:World} {base N:Nat} {v:Value} {vs:List Value} (h:w.ownsRow base 246 3 v N vs):∀ k,v.ownBlock=some k→∀ cur,w.heap[k]? ≠ some (.cells cur 3 (0,0)):=fun k e cur hc=>by
 obtain ⟨c,h2⟩:=own_blk h e
 rw [hc] at h2;cases h2
theorem havR_take {R:List Rw} {c k:Nat} {s:Int} (h:k<R.length):havR (R.take (k+1)) c s=havR (R.take k) c s++(if numR R[k] c=s then [R[k]] else []):=by
 unfold havR
 rw [List.take_add_one,List.getElem?_eq_getElem h,List.filter_append]
 congr 1
 by_cases e:numR R[k] c=s <;> simp [e]
theorem havR_len (R:List Rw) (c:Nat) (s:Int):(havR R c s).length≤R.length:=List.length_filter_le _ _
set_option maxHeartbeats 8000000 in
theorem having_any {w:World} {nv pv:Value} {n:Nat} {ro:Option Addr} {rc:Nat} {R:List Rw} (hR:RwAt w ro R) (hok:RowsOk n R) (hm:R.length≤100) {bs:Nat} {po:Option Addr} {pl pc:Nat} (c:Nat) (hc:c<n) (s:Int) :
  Calls Tryz.prog 188 #[.agg #[.pointer (some ⟨bs,0,none⟩),.slice po pl pc,.slice ro R.length rc],.int .i64 (c:Int),.int .i64 s] w fun e w' => ∃ ho hc,e=.returned (.slice ho (havR R c s).length hc)∧RwAt w' ho (havR R c s)∧(ho=none→hc=0)∧Same0 w w' := by
 have K:Same0 w (w.alloc (.cells #[.pointer (some ⟨bs,0,none⟩),.slice po pl pc,.slice ro R.length rc] 181)):=(Kept.refl _ w).alloc _
 go_enter Tryz.func188,Tryz.ntmps188
 go_wp2
 go_loopw [7,13] (fun lv i wr=>∃ (k:Nat) (us:List Value),k≤R.length∧i=.int .i64 (k:Int)∧Hid (wr.ownsRow w.heap.size 246 3 lv (havR (R.take k) c s).length us)∧Hid (WCells wr us (havR (R.take k) c s))∧Same0 w wr) (fun _ i _=>R.length-(intOf i).toNat)
 case atStart=>exact ⟨0,[],Nat.zero_le _,rfl,World.ownsRow_nil _ _ _ _,WCells.nil _,K⟩
 case round=>
  obtain ⟨k,us,hk,rfl,hr,hus,hw⟩:=hrel
  obtain ⟨lo,lc,rfl⟩:=row_shape hr.out
  by_cases hlt:k<R.length
  ·obtain ⟨b,off,rfl,hb,ao,ac,bo,bc,r0,r1,r2,A1,A2⟩:=(hR.same hw).get hlt
   obtain ⟨o1,o2⟩:=hok _ (List.getElem_mem hlt)
   have hc' : c<R[k].2.2.length:=by omega
   have hp:=o2 _ (List.getElem_mem hc')
   have ka:Same0 wr (wr.alloc (.cells #[.int .i64 R[k].1,.slice ao R[k].2.1.length ac,.slice bo R[k].2.2.length bc] 246)):=(Kept.refl _ _).alloc _
   have C:=number_any (ac:=ac) (bc:=bc) (A1.1.at'.same ka) (A2.1.at'.same ka) hc' hp
   have HB:Hid (∀ w2,Same0 (wr.alloc (.cells #[.int .i64 R[k].1,.slice ao R[k].2.1.length ac,.slice bo R[k].2.2.length bc] 246)) w2→w2.cell? ⟨wr.heap.size,0,none⟩=some (.int .i64 R[k].1)∧w2.cell? ⟨wr.heap.size,1,none⟩=some (.slice ao R[k].2.1.length ac)∧w2.cell? ⟨wr.heap.size,2,none⟩=some (.slice bo R[k].2.2.length bc)):=fun w2 h2=>⟨cellAt (h2.at0 (heap_alloc_new wr _)) 0,cellAt (h2.at0 (heap_alloc_new wr _)) 1,cellAt (h2.at0 (heap_alloc_new wr _)) 2⟩
   have i1:(0:Int)≤(k:Int):=by omega
   have i2:(k:Int)<(R.length:Int):=by omega
   have hl:=havR_len (R.take k) c s
   have hl2:(R.take k).length=k:=by simp;omega
   have hN:(havR (R.take k) c s).length≤1000:=by omega
   have HT:=havR_take (c:=c) (s:=s) hlt
   by_cases hq:numR R[k] c=s
   ·have hqe:(numR R[k] c == s)=true:=by simpa using hq
    rw [if_pos hq] at HT
    have FIN:Hid (∀ w2 g cap w5,Same0 wr w2→w5.ownsRow w.heap.size 246 3 (.slice (some ⟨g,0,none⟩) ((havR (R.take k) c s).length+1) cap) ((havR (R.take k) c s).length+1) (us ++ [.int .i64 R[k].1,.slice ao R[k].2.1.length ac,.slice bo R[k].2.2.length bc])→Kept (fun q=>(Value.slice lo (havR (R.take k) c s).length lc).ownBlock=some q) w2 w5→∃ us', Hid (w5.ownsRow w.heap.size 246 3 (.slice (some ⟨g,0,none⟩) ((havR (R.take k) c s).length+1) cap) (havR (R.take (k+1)) c s).length us')∧Hid (WCells w5 us' (havR (R.take (k+1)) c s))∧Same0 w w5):=by
     intro w2 g cap w5 k2 r5 k5
     have hr2:=k2.row hr.out (fun _ _ f=>f)
     refine ⟨us ++ [.int .i64 R[k].1,.slice ao R[k].2.1.length ac,.slice bo R[k].2.2.length bc],?_,?_,Kept.trans (hw.trans' k2) k5 (fun i hi e=>by have:=(hr2.lt i e).1;omega)⟩
     ·show World.ownsRow _ _ _ _ _ _ _
      rw [HT,List.length_append];exact r5
     ·show WCells _ _ _
      rw [HT];exact ((hus.out.same k2).snoc (A1.same k2) (A2.same k2)).kept k5 (row_ty hr2)
    have hz0:w.heap.size≤wr.heap.size:=hw.size
    have HR2:Hid (∀ w2,Same0 wr w2→w2.ownsRow w.heap.size 246 3 (.slice lo (havR (R.take k) c s).length lc) (havR (R.take k) c s).length us):=fun w2 k2=>k2.row hr.out (fun _ _ f=>f)
    clear hr hus HT hl hl2 A1 A2 o1 o2 hp hc' hR hok hq
    generalize (havR (R.take k) c s).length=N at *
    go_wp2_with (first
     | (go_at_call 186;refine C.mono ?_;rintro e w2 ⟨rfl,hk2⟩;obtain ⟨y0,y1,y2⟩:=HB.out _ hk2;have k2:Same0 wr w2:=ka.trans' hk2;have hz2:=Nat.le_trans hz0 k2.size)
     | (at_builtin;refine wpList_rw (w0:=w2) rfl _ _ rfl w.heap.size N us (.slice lo N lc) rfl ((Kept.refl _ w2).alloc _) (HR2.out _ k2) (.int .i64 R[k].1) (.slice ao R[k].2.1.length ac) (.slice bo R[k].2.2.length bc) w2.heap.size rfl (heap_alloc_new w2 _) rfl rfl rfl hz2 hN ?_;intro g cap w5 r5 k5))
    obtain ⟨us', z1,z2,z3⟩:=FIN.out w2 g cap w5 k2 r5 k5
    exact ⟨⟨k+1,us', by omega,by go_num,z1,z2,z3⟩,by simp [intOf];omega⟩
   ·have hqe:(numR R[k] c == s)=false:=by simpa using hq
    rw [if_neg hq,List.append_nil] at HT
    have FIN:Hid (∀ w2,Same0 wr w2→Hid (w2.ownsRow w.heap.size 246 3 (.slice lo (havR (R.take k) c s).length lc) (havR (R.take (k+1)) c s).length us)∧Hid (WCells w2 us (havR (R.take (k+1)) c s))):=fun w2 k2=>by
     refine ⟨?_,?_⟩
     ·show World.ownsRow _ _ _ _ _ _ _
      rw [HT];exact k2.row hr.out (fun _ _ f=>f)
     ·show WCells _ _ _
      rw [HT];exact hus.out.same k2
    clear hr hus HT hl hl2 A1 A2 o1 o2 hp hc' hR hok hq
    generalize (havR (R.take k) c s).length=N at *
    go_wp2_with (first
     | (go_at_call 186;refine C.mono ?_;rintro e w2 ⟨rfl,hk2⟩;have k2:Same0 wr w2:=ka.trans' hk2))
    obtain ⟨z1,z2⟩:=FIN.out w2 k2
    exact ⟨⟨k+1,us,by omega,by go_num,z1,z2,hw.trans' k2⟩,by simp [intOf];omega⟩
  ·have e1:R.take k=R:=List.take_of_length_le (by omega)
   have hr' := hr.out
   have hus' := hus.out
   rw [e1] at hr' hus'
   obtain ⟨ho,hcc,q1,q2,q3,_⟩:=row_rows hr' hus'
   have FIN:Hid (∃ ho hc,Value.slice lo (havR (R.take k) c s).length lc=.slice ho (havR R c s).length hc∧RwAt wr ho (havR R c s)∧(ho=none→hc=0)∧Same0 w wr):=⟨ho,hcc,by rw [← q1,e1],q2,q3,hw⟩
   clear hr hus hr' hus' q1 q2 q3 e1 hR hok
   generalize (havR (R.take k) c s).length=N at *
   go_wp2
   go_ret
   obtain ⟨ho,hc,q1,q2⟩:=FIN.out
   exact ⟨ho,hc,by rw [q1];rfl,q2⟩
theorem Src.cutl {w:World} {b off m c:Nat} {us:List Value} (h:Src w (some ⟨b,off,none⟩) m c us) (k:Nat) (hk:k≤m):Src w (some ⟨b,off,none⟩) k c (us.take k):=by
 refine ⟨by have:=h.len;simp;omega,fun u hu=>h.one u (List.mem_of_mem_take hu),fun ad e j u hj=>?_,fun e=>by cases e⟩
 refine h.at' ad e j u ?_
 rw [List.getElem?_take] at hj
 split at hj
 ·exact hj
 ·cases hj
theorem Src.cutr {w:World} {b off m c d:Nat} {us:List Value} (h:Src w (some ⟨b,off,none⟩) m c us) (k:Nat) (hk:k≤m):Src w (some ⟨b,off+k,none⟩) (m-k) d (us.drop k):=by
 refine ⟨by have:=h.len;simp;omega,fun u hu=>h.one u (List.mem_of_mem_drop hu),fun ad e j u hj=>?_,fun e=>by cases e⟩
 cases e
 rw [List.getElem?_drop] at hj
 have:=h.at' _ rfl _ u hj
 rw [addr_add] at this ⊢
 rw [← this];congr 2;omega
theorem Src.void {w:World} {ao:Option Addr} {m c:Nat} {us:List Value} (h0:m=0) (hn:ao≠none) (hu:us=[]):Src w ao m c us:=by
 subst h0 hu
 exact Src.nil w ao c (fun e=>absurd e hn)
set_option maxHeartbeats 4000000 in
theorem replaced_nums {w:World} {b off m c:Nat} {us:List Value} {bo:Option Addr} {k d:Nat} {vs:List Value} (h:Src w (some ⟨b,off,none⟩) m c us) (hb:b<w.heap.size) (hmc:m≤c) (h2:Src w bo k d vs) {p:Nat} (hp:p<m) (hl:m+k≤10000) :
  Calls Tryz.prog 183 #[.slice (some ⟨b,off,none⟩) m c,.int .i64 (p:Int),.slice bo k d] w fun e w' => ∃ v,e=.returned v∧w'.ownsRow w.heap.size 3 1 v (m-1+k) (us.take p++vs++us.drop (p+1))∧Same0 w w' := by
 have ew:IntKind.i64.wrap ((p:Int)+1)=(p:Int)+1:=iwrap (by omega) (by omega)
 have i1:(0:Int)≤(p:Int):=by omega
 have i2:(p:Int)≤(c:Int):=by omega
 have i3:(p:Int)+1≤(m:Int):=by omega
 have i4:(0:Int)≤(p:Int)+1:=by omega
 have hlen:∀ n,p+k+n=p+k+n:=fun _=>rfl
 have CAT:Hid (∀ (ww:World) (a2:Option Addr) (m2 c2:Nat),Same0 w ww→Src w a2 m2 c2 (us.drop (p+1))→m2=m-(p+1)→Calls Tryz.prog 180 #[.slice (some ⟨ww.heap.size,0,none⟩) 3 3] (ww.alloc (.cells #[.slice (some ⟨b,off,none⟩) p c,.slice bo k d,.slice a2 m2 c2] 51)) fun e w' => ∃ v,e=.returned v∧Hid (w'.ownsRow w.heap.size 3 1 v (m-1+k) (us.take p++vs++us.drop (p+1)))∧Same0 w w'):=by
  intro ww a2 m2 c2 hk hs hm2
  have ka:Same0 ww (ww.alloc (.cells #[.slice (some ⟨b,off,none⟩) p c,.slice bo k d,.slice a2 m2 c2] 51)):=(Kept.refl _ _).alloc _
  have kk:=hk.trans' ka
  refine (concat3_nums (heap_alloc_new ww _) ((h.cutl p (by omega)).same kk) (h2.same kk) (hs.same kk) (by omega)).mono ?_
  rintro e w' ⟨v,rfl,hr,h3⟩
  refine ⟨v,rfl,?_,kk.trans' h3⟩
  have e1:p+k+m2=m-1+k:=by omega
  rw [e1] at hr
  exact row_mono hr (by rw [World.size_alloc];have:=hk.size;omega)
 by_cases hc1:c=p+1
 ·have hm1:m=p+1:=by omega
  have S2:Src w (some ⟨b,off,none⟩) 0 0 (us.drop (p+1)):=Src.void rfl (by simp) (by have:=h.len;exact List.drop_eq_nil_of_le (by omega))
  have CAT2:Hid (∀ ww,Same0 w ww→Calls Tryz.prog 180 #[.slice (some ⟨ww.heap.size,0,none⟩) 3 3] (ww.alloc (.cells #[.slice (some ⟨b,off,none⟩) p c,.slice bo k d,.slice (some ⟨b,off,none⟩) 0 0] 51)) fun e w' => ∃ v,e=.returned v∧Hid (w'.ownsRow w.heap.size 3 1 v (m-1+k) (us.take p++vs++us.drop (p+1)))∧Same0 w w'):=fun ww hk=>CAT.out ww _ 0 0 hk S2 (by omega)
  have W1:Same0 w w.drew:=Kept.drew (Kept.refl _ _)
  clear CAT S2 h h2
  subst hc1 hm1
  go_enter Tryz.func183,Tryz.ntmps183
  go_wp2
  go_region_with (first | (go_at_call 180;refine (CAT2.out _ W1).mono ?_;rintro e w5 ⟨v,rfl,hr,hk⟩))
  all_goals
   go_wp2
   go_ret
   exact ⟨_,rfl,hr.out,hk⟩
 ·have CAT2:Hid (∀ ww,Same0 w ww→Calls Tryz.prog 180 #[.slice (some ⟨ww.heap.size,0,none⟩) 3 3] (ww.alloc (.cells #[.slice (some ⟨b,off,none⟩) p c,.slice bo k d,.slice (some ⟨b,off+(p+1),none⟩) (m-(p+1)) (c-(p+1))] 51)) fun e w' => ∃ v,e=.returned v∧Hid (w'.ownsRow w.heap.size 3 1 v (m-1+k) (us.take p++vs++us.drop (p+1)))∧Same0 w w'):=fun ww hk=>CAT.out ww _ (m-(p+1)) (c-(p+1)) hk (h.cutr (p+1) (by omega)) rfl
  have W1:Same0 w w.drew:=Kept.drew (Kept.refl _ _)
  clear CAT h h2
  go_enter Tryz.func183,Tryz.ntmps183
  go_wp2
  go_region_with (first | (go_at_call 180;refine (CAT2.out _ W1).mono ?_;rintro e w5 ⟨v,rfl,hr,hk⟩))
  all_goals
   go_wp2
   go_ret
   exact ⟨_,rfl,hr.out,hk⟩
set_option maxHeartbeats 4000000 in
theorem replaced_paths {w:World} {b off m c:Nat} {us:List Value} {bo:Option Addr} {k d:Nat} {vs:List Value} (h:Src w (some ⟨b,off,none⟩) m c us) (hb:b<w.heap.size) (hmc:m≤c) (h2:Src w bo k d vs) {p:Nat} (hp:p<m) (hl:m+k≤10000) :
  Calls Tryz.prog 181 #[.slice (some ⟨b,off,none⟩) m c,.int .i64 (p:Int),.slice bo k d] w fun e w' => ∃ v,e=.returned v∧w'.ownsRow w.heap.size 51 1 v (m-1+k) (us.take p++vs++us.drop (p+1))∧Same0 w w' := by
 have ew:IntKind.i64.wrap ((p:Int)+1)=(p:Int)+1:=iwrap (by omega) (by omega)
 have i1:(0:Int)≤(p:Int):=by omega
 have i2:(p:Int)≤(c:Int):=by omega
 have i3:(p:Int)+1≤(m:Int):=by omega
 have i4:(0:Int)≤(p:Int)+1:=by omega
 have hlen:∀ n,p+k+n=p+k+n:=fun _=>rfl
 have CAT:Hid (∀ (ww:World) (a2:Option Addr) (m2 c2:Nat),Same0 w ww→Src w a2 m2 c2 (us.drop (p+1))→m2=m-(p+1)→Calls Tryz.prog 220 #[.slice (some ⟨ww.heap.size,0,none⟩) 3 3] (ww.alloc (.cells #[.slice (some ⟨b,off,none⟩) p c,.slice bo k d,.slice a2 m2 c2] 50)) fun e w' => ∃ v,e=.returned v∧Hid (w'.ownsRow w.heap.size 51 1 v (m-1+k) (us.take p++vs++us.drop (p+1)))∧Same0 w w'):=by
  intro ww a2 m2 c2 hk hs hm2
  have ka:Same0 ww (ww.alloc (.cells #[.slice (some ⟨b,off,none⟩) p c,.slice bo k d,.slice a2 m2 c2] 50)):=(Kept.refl _ _).alloc _
  have kk:=hk.trans' ka
  refine (concat3_paths (heap_alloc_new ww _) ((h.cutl p (by omega)).same kk) (h2.same kk) (hs.same kk) (by omega)).mono ?_
  rintro e w' ⟨v,rfl,hr,h3⟩
  refine ⟨v,rfl,?_,kk.trans' h3⟩
  have e1:p+k+m2=m-1+k:=by omega
  rw [e1] at hr
  exact row_mono hr (by rw [World.size_alloc];have:=hk.size;omega)
 by_cases hc1:c=p+1
 ·have hm1:m=p+1:=by omega
  have S2:Src w (some ⟨b,off,none⟩) 0 0 (us.drop (p+1)):=Src.void rfl (by simp) (by have:=h.len;exact List.drop_eq_nil_of_le (by omega))
  have CAT2:Hid (∀ ww,Same0 w ww→Calls Tryz.prog 220 #[.slice (some ⟨ww.heap.size,0,none⟩) 3 3] (ww.alloc (.cells #[.slice (some ⟨b,off,none⟩) p c,.slice bo k d,.slice (some ⟨b,off,none⟩) 0 0] 50)) fun e w' => ∃ v,e=.returned v∧Hid (w'.ownsRow w.heap.size 51 1 v (m-1+k) (us.take p++vs++us.drop (p+1)))∧Same0 w w'):=fun ww hk=>CAT.out ww _ 0 0 hk S2 (by omega)
  have W1:Same0 w w.drew:=Kept.drew (Kept.refl _ _)
  clear CAT S2 h h2
  subst hc1 hm1
  go_enter Tryz.func181,Tryz.ntmps181
  go_wp2
  go_region_with (first | (go_at_call 220;refine (CAT2.out _ W1).mono ?_;rintro e w5 ⟨v,rfl,hr,hk⟩))
  all_goals
   go_wp2
   go_ret
   exact ⟨_,rfl,hr.out,hk⟩
 ·have CAT2:Hid (∀ ww,Same0 w ww→Calls Tryz.prog 220 #[.slice (some ⟨ww.heap.size,0,none⟩) 3 3] (ww.alloc (.cells #[.slice (some ⟨b,off,none⟩) p c,.slice bo k d,.slice (some ⟨b,off+(p+1),none⟩) (m-(p+1)) (c-(p+1))] 50)) fun e w' => ∃ v,e=.returned v∧Hid (w'.ownsRow w.heap.size 51 1 v (m-1+k) (us.take p++vs++us.drop (p+1)))∧Same0 w w'):=fun ww hk=>CAT.out ww _ (m-(p+1)) (c-(p+1)) hk (h.cutr (p+1) (by omega)) rfl
  have W1:Same0 w w.drew:=Kept.drew (Kept.refl _ _)
  clear CAT h h2
  go_enter Tryz.func181,Tryz.ntmps181
  go_wp2
  go_region_with (first | (go_at_call 220;refine (CAT2.out _ W1).mono ?_;rintro e w5 ⟨v,rfl,hr,hk⟩))
  all_goals
   go_wp2
   go_ret
   exact ⟨_,rfl,hr.out,hk⟩
def LaidQ (base g A k:Nat) (P:List (List Int)) (w wr:World):Prop:=∃ ys:List Value,wr.ownsRow base 51 1 (.slice (some ⟨g,0,none⟩) A A) A ys∧PCells wr (ys.take k) P∧Same0 w wr
theorem LaidQ.cell {base g A k:Nat} {P:List (List Int)} {w wr:World} (h:LaidQ base g A k P w wr) (hk:k<A):∃ old,wr.cell? ⟨g,k,none⟩=some old∧wr.frozen? ⟨g,k,none⟩=false:=by
 obtain ⟨ys,h1,_⟩:=h
 exact row_put h1 hk
theorem LaidQ.same {base g A k:Nat} {P:List (List Int)} {w wr w1:World} (h:LaidQ base g A k P w wr) (hk:Same0 wr w1):LaidQ base g A k P w w1:=by
 obtain ⟨ys,h1,h2,h4⟩:=h
 exact ⟨ys,hk.row h1 (fun _ _ f=>f),h2.same hk,h4.trans' hk⟩
theorem LaidQ.next {base g A k:Nat} {P:List (List Int)} {w wr:World} (h:LaidQ base g A k P w wr) (hk:k<A) (hg:w.heap.size≤g) {ao:Option Addr} {ac:Nat} {p:List Int} (hp:ArgT wr ao p ac):LaidQ base g A (k+1) (P ++ [p]) w (wr.setCell ⟨g,k,none⟩ (.slice ao p.length ac)):=by
 obtain ⟨ys,h1,h2,h4⟩:=h
 have hl:ys.length=A:=by have:=h1.1;omega
 have hgT:∃ cur,wr.heap[g]? = some (.cells cur 51 (0,0)):=own_blk h1 rfl
 have ks:Kept (fun q=>q=g) wr (wr.setCell ⟨g,k,none⟩ (.slice ao p.length ac)):=Kept.setCell (p:=⟨g,k,none⟩) (Kept.refl (fun q=>q=g) wr) (fun _=>rfl) _
 have nT:∀ q,q=g→∀ cur,wr.heap[q]? ≠ some (.cells cur 3 (0,0)):=fun q e cur hc=>by
  subst e
  obtain ⟨c2,h⟩:=hgT
  rw [h] at hc;cases hc
 refine ⟨ys.set k (.slice ao p.length ac),(h1.stored k _).1,?_,h4.own hg _⟩
 rw [take_set (by omega)]
 refine PCells.append (h2.kept ks nT) ⟨rfl,fun i hi=>?_⟩
 obtain rfl:i=0:=by simp at hi;omega
 exact ⟨ao,ac,rfl,hp.kept ks nT⟩
theorem LaidQ.src {base g A:Nat} {P:List (List Int)} {w wr:World} (h:LaidQ base g A A P w wr):∃ us,PCells wr us P∧Src wr (some ⟨g,0,none⟩) A A us:=by
 obtain ⟨ys,h1,h2,h4⟩:=h
 have hl:ys.length=A:=by have:=h1.1;omega
 rw [List.take_of_length_le (by omega)] at h2
 exact ⟨ys,h2,hl,h2.one,fun ad e j u hj=>by cases e;exact h1.cells rfl j u hj,fun e=>by cases e⟩
theorem PsAt.src {w:World} {po:Option Addr} {P:List (List Int)} {pc:Nat} (h:PsAt w po P) (hn:po=none→pc=0):∃ us,PCells w us P∧Src w po P.length pc us:=by
 obtain ⟨us,h1,h2⟩:=h.cells
 refine ⟨us,h1,h1.1,h1.one,h2,fun e=>⟨hn e,?_⟩⟩
 rcases h with rfl | ⟨b,off,e', _⟩
 ·exact List.eq_nil_of_length_eq_zero h1.1
 ·rw [e] at e'; cases e'
theorem Arg.src {w:World} {ao:Option Addr} {xs:List Int} {ac:Nat} (h:Arg w ao xs ac):Src w ao xs.length ac (iv xs):=by
 refine ⟨iv_length xs,iv_oneCell xs,fun ad e j u hj=>?_,fun e=>⟨(h.nil e).2,?_⟩⟩
 ·have h0:0<(iv xs).length:=by have:=(List.getElem?_eq_some_iff.1 hj).1;omega
  obtain ⟨ad', e', hc⟩:=h.at'.src h0
  rw [e] at e'
  cases e'
  exact hc j u hj
 ·have:=(h.nil e).1
  rw [List.eq_nil_of_length_eq_zero this];rfl
theorem ofN_iv_take (l:List Nat) (n:Nat):(iv (ofN l)).take n=iv (ofN (l.take n)):=by simp [iv,ofN,List.map_take]
theorem ofN_iv_drop (l:List Nat) (n:Nat):(iv (ofN l)).drop n=iv (ofN (l.drop n)):=by simp [iv,ofN,List.map_drop]
structure KidIn (w:World) (L:List Sym) (bs:Nat) (po:Option Addr) (pc:Nat) (P:List (List Int)) (c s:Nat) (ho:Option Addr) (H:List Rw):Prop where
 sig:Sg w.heap.size w bs L
 ps:PsAt w po P
 nul:po=none→pc=0
 cap:P.length≤pc
 c' : c<P.length
 s' : s<L.length
 hs:RwAt w ho H
 le:H.length≤100
 few:P.length≤4000
 len:∀ p∈P,p.length≤4000
 ok:∀ x∈H,checkE L x.2.1=0∧x.2.2.length=P.length∧(∀ p∈x.2.2,p<x.2.1.length)∧numR x c=(s:Int)
theorem KidIn.same {w w' : World} {L:List Sym} {bs:Nat} {po:Option Addr} {pc:Nat} {P:List (List Int)} {c s:Nat} {ho:Option Addr} {H:List Rw} (h:KidIn w L bs po pc P c s ho H) (hk:Same0 w w'):KidIn w' L bs po pc P c s ho H:=
 ⟨sg_up (h.sig.same hk) hk.size,h.ps.same hk,h.nul,h.cap,h.c', h.s', h.hs.same hk,h.le,h.few,h.len,h.ok⟩
def KidOut (w:World) (L:List Sym) (bs:Nat) (P:List (List Int)) (c s:Nat) (H:List Rw) (e:Ending) (w' : World):Prop:=
 ∃ po pc ro rc,e=.returned (.agg #[.pointer (some ⟨bs,0,none⟩),.slice po (kidP L P c s).length pc,.slice ro H.length rc])∧PsAt w' po (kidP L P c s)∧(po=none→pc=0)∧(kidP L P c s).length≤pc∧RwAt w' ro (H.map (kidX L c))∧(ro=none→rc=0)∧Same0 w w'
def belowP (L:List Sym) (P:List (List Int)) (c k:Nat):List (List Int):=(List.range k).map (fun (i:Nat)=>P.getD c [] ++ [(i:Int)])
theorem belowP_succ (L:List Sym) (P:List (List Int)) (c k:Nat):belowP L P c (k+1)=belowP L P c k ++ [P.getD c [] ++ [(k:Int)]]:=by simp [belowP,List.range_succ]
theorem kid_paths {w:World} {L:List Sym} {bs:Nat} {po:Option Addr} {pc:Nat} {P:List (List Int)} {c s:Nat} {ho:Option Addr} {H:List Rw} (h:KidIn w L bs po pc P c s ho H) {base g A:Nat} {w0:World} (hA:A=arN L (s:Int)) (hA6:A≤6) (hl:LaidQ base g A A (belowP L P c A) w0 w) :
  Calls Tryz.prog 181 #[.slice po P.length pc,.int .i64 (c:Int),.slice (some ⟨g,0,none⟩) A A] w fun e w' => ∃ vo vc,e=.returned (.slice vo (kidP L P c s).length vc)∧PsAt w' vo (kidP L P c s)∧(vo=none→vc=0)∧(kidP L P c s).length≤vc∧Same0 w w' := by
 obtain ⟨us,u1,u2⟩:=h.ps.src h.nul
 obtain ⟨vs,v1,v2⟩:=hl.src
 obtain ⟨b,off,ao,ac,rfl,hb,_⟩:=h.ps.get h.c'
 refine (replaced_paths u2 hb h.cap v2 h.c' (by have:=h.few;omega)).mono ?_
 rintro e w' ⟨v,rfl,hr,hk⟩
 have hc:PCells w' (us.take c++vs++us.drop (c+1)) (kidP L P c s):=by
  unfold kidP repl
  rw [← hA]
  exact (((u1.take c).append v1).append (u1.drop (c+1))).same hk
 obtain ⟨vo,vc,e1,e2,e3,e4⟩:=row_paths hr hc
 exact ⟨vo,vc,by rw [e1],e2,e3,e4,hk⟩
end Go.Proofs.YtmjgnfkbnofjoaaGreatDoor
namespace Go.Proofs.YtmjgnfkbnofjoaaGreatDoor
open Go.RowKit
set_option linter.unusedVariables false
set_option maxRecDepth 100000
theorem sm_fault (W:World) (v:Value):(Instr.typeAssert (.iface 114 v) 46 114 true).run Tryz.prog W=.ok (.tuple #[v,.bool true]) W:=by kernel_rfl
theorem sm_errno (W:World) (v:Value):(Instr.typeAssert (.iface 70 v) 46 70 true).run Tryz.prog W=.ok (.tuple #[v,.bool true]) W:=by kernel_rfl
theorem sm_nil (W:World):(binOp .eql 46 .nilIface .nilIface).run Tryz.prog W=.ok (.bool true) W:=by kernel_rfl
def WrsAt (w:World) (lv:Value) (ws:List (Int × Int)):Prop:=
 ∃ lo lc,lv=.slice lo ws.length lc∧(ws=[]∨∃ b,lo=some ⟨b,0,none⟩∧b<w.heap.size∧∀ i (h:i<ws.length),w.cell? ⟨b,i * 2,none⟩=some (.int .i64 ws[i].1)∧w.cell? ⟨b,i * 2+1,none⟩=some (.int .i64 ws[i].2))
theorem WrsAt.same {w w' : World} {lv:Value} {ws:List (Int × Int)} (h:WrsAt w lv ws) (hk:Same0 w w'):WrsAt w' lv ws:=by
 obtain ⟨lo,lc,e,h⟩:=h
 refine ⟨lo,lc,e,h.imp id ?_⟩
 rintro ⟨b,e,hb,hc⟩
 exact ⟨b,e,Nat.lt_of_lt_of_le hb hk.size,fun i hi=>⟨(hk.cell (p:=⟨b,i * 2,none⟩) hb (fun f=>f)).trans (hc i hi).1,(hk.cell (p:=⟨b,i * 2+1,none⟩) hb (fun f=>f)).trans (hc i hi).2⟩⟩
set_option maxHeartbeats 8000000 in
theorem same_fltN {w:World} {er lv:Value} {ws:List (Int × Int)} (h:FltAt w ws er) (hl:WrsAt w lv ws) (hn:ws.length≤1000) :
  Calls Tryz.prog 35 #[er,lv] w fun e w' => e=.returned (.bool true)∧Same0 w w' := by
 obtain ⟨lo,lc,rfl,hl⟩:=hl
 go_enter Tryz.func35,Tryz.ntmps35
 go_wp2
 go_loopw [0,5] (fun er i wr=>∃ m k:Nat,k≤ws.length∧wr=w.drewN m∧i=.int .i64 (k:Int)∧Hid (FltAt w (ws.drop k) er)) (fun _ i _=>ws.length-(intOf i).toNat)
 case atStart=>exact ⟨0,0,Nat.zero_le _,rfl,rfl,h⟩
 case round=>
  clear h
  obtain ⟨m,k,hk,rfl,rfl,hf⟩:=hrel
  by_cases hlt:k<ws.length
  ·obtain ⟨b,rfl,_,hc⟩:∃ b,lo=some ⟨b,0,none⟩∧b<w.heap.size∧∀ i (h:i<ws.length),w.cell? ⟨b,i * 2,none⟩=some (.int .i64 ws[i].1)∧w.cell? ⟨b,i * 2+1,none⟩=some (.int .i64 ws[i].2):=by
    rcases hl with e | e
    ·rw [e] at hlt;simp at hlt
    ·exact e
   obtain ⟨g0,g1⟩:=hc k hlt
   have i1:(0:Int)≤(k:Int):=by omega
   have i2:(k:Int)<(ws.length:Int):=by omega
   have hf' := hf.out
   rw [List.drop_eq_getElem_cons hlt] at hf'
   obtain ⟨c,p,hcp⟩:∃ c p,ws[k]=(c,p):=⟨_,_,rfl⟩
   rw [hcp] at hf' g0 g1
   simp only at g0 g1
   rcases hf' with ⟨rfl,hnil,rfl⟩ | ⟨hp,d,u,rfl,hd,hu⟩
   ·have hlast:(k:Int)=(ws.length:Int)-1:=by
     have:=congrArg List.length hnil
     simp at this
     omega
    have hlast' : ((k:Int) == (ws.length:Int)-1)=true:=by simpa using hlast
    have hta:=fun v=>sm_errno (w.drewN m) v
    clear hc hf hnil hlast hl hcp
    go_wp2
    go_ret
    exact ⟨by first | rfl | simp,(Kept.refl _ w).drewN m⟩
   ·have b0:w.cell? ⟨d,0,none⟩=some (.int .i64 c):=cellAt hd 0
    have b1:w.cell? ⟨d,1,none⟩=some (.int .i64 p):=cellAt hd 1
    have b2:w.cell? ⟨d,2,none⟩=some u:=cellAt hd 2
    have hp1:(p == -1)=false:=by simpa using hp
    have hta:=fun v=>sm_fault (w.drewN m) v
    have HU:Hid (FltAt w (ws.drop (k+1)) u):=hu
    clear hc hf hd hu hp hl hcp
    go_wp2
    clear hta hp1
    go_quiet (fail)
    go_wp2
    exact ⟨⟨m+nq,k+1,by omega,rfl,by go_num,HU⟩,by simp [intOf];omega⟩
  ·have hf' := hf.out
   rw [List.drop_of_length_le (by omega)] at hf'
   obtain rfl:_=Value.nilIface:=hf'
   have hnn:=sm_nil (w.drewN m)
   go_wp2
   go_ret
   exact ⟨rfl,(Kept.refl _ w).drewN m⟩
end Go.Proofs.YtmjgnfkbnofjoaaGreatDoor
namespace Go.Proofs.YtmjgnfkbnofjoaaGreatDoor
set_option maxRecDepth 100000
set_option linter.unusedVariables false
open Go.RowKit
attribute [local go_sem ↓] Go.wp_at_zero Go.wp_at_succ
theorem snew_any {w:World} {bs:Nat} {L:List Sym} (h:Sg w.heap.size w bs L):Calls Tryz.prog 72 #[.pointer (some ⟨bs,0,none⟩)] w fun e w' => e=.returned (.pointer (some ⟨w.heap.size,0,none⟩))∧StAt w' w.heap.size bs L [] (.slice none 0 0) []∧Same0 w w' := by
 have K:Same0 w (w.alloc (.cells #[.pointer (some ⟨bs,0,none⟩),.slice none 0 0] 113)):=(Kept.refl _ w).alloc _
 have H:Hid (StAt (w.alloc (.cells #[.pointer (some ⟨bs,0,none⟩),.slice none 0 0] 113)) w.heap.size bs L [] (.slice none 0 0) []):=⟨heap_alloc_new _ _,sg_up (h.same K) K.size,World.ownsRow_nil _ _ _ _,⟨rfl,fun i hi=>absurd hi (by simp)⟩,by simp,fun x hx=>by simp at hx⟩
 clear h
 go_enter Tryz.func72,Tryz.ntmps72
 go_wp2
 go_ret
 exact ⟨rfl,H.out,K⟩
abbrev fS:Sym:=⟨⟨#[102]⟩,1,true⟩
abbrev L4:List Sym:=[zS,aS,aAdd,fS]
theorem ints_arg (w:World) (xs:List Int) (T:TypeId) (hx:xs.length≤2000) {o:Obj} (ho:o=.cells (iv xs).toArray T (0,0)):Arg (w.alloc o) (some ⟨w.heap.size,0,none⟩) xs xs.length:=
 ⟨ints_new w xs T ho,Nat.le_refl _,(fun e=>by cases e),by omega⟩
theorem rs_two (w:World) (x1 x2 y1 y2:List Int) (T1 T2 T3 T4 T5:TypeId) (b1:x1.length≤2000) (b2:x2.length≤2000) (b3:y1.length≤2000) (b4:y2.length≤2000) {o1 o2 o3 o4 o5:Obj} (h1:o1=.cells (iv x1).toArray T1 (0,0)) (h2:o2=.cells (iv x2).toArray T2 (0,0)) (h3:o3=.cells (iv y1).toArray T3 (0,0)) (h4:o4=.cells (iv y2).toArray T4 (0,0))
  (h5:o5=.cells #[.slice (some ⟨w.heap.size,0,none⟩) x1.length x1.length,.slice (some ⟨w.heap.size+1,0,none⟩) x2.length x2.length,.slice (some ⟨w.heap.size+1+1,0,none⟩) y1.length y1.length,.slice (some ⟨w.heap.size+1+1+1,0,none⟩) y2.length y2.length] T5 (0,0)) :
  RsAt (((((w.alloc o1).alloc o2).alloc o3).alloc o4).alloc o5) (some ⟨w.heap.size+1+1+1+1,0,none⟩) [(x1,x2),(y1,y2)]∧Same0 w (((((w.alloc o1).alloc o2).alloc o3).alloc o4).alloc o5):=by
 have k1:Same0 w (w.alloc o1):=(Kept.refl _ w).alloc _
 have k2:Same0 (w.alloc o1) ((w.alloc o1).alloc o2):=(Kept.refl _ _).alloc _
 have k3:Same0 ((w.alloc o1).alloc o2) (((w.alloc o1).alloc o2).alloc o3):=(Kept.refl _ _).alloc _
 have k4:Same0 (((w.alloc o1).alloc o2).alloc o3) ((((w.alloc o1).alloc o2).alloc o3).alloc o4):=(Kept.refl _ _).alloc _
 have k5:Same0 ((((w.alloc o1).alloc o2).alloc o3).alloc o4) (((((w.alloc o1).alloc o2).alloc o3).alloc o4).alloc o5):=(Kept.refl _ _).alloc _
 have a1:=((((ints_arg w x1 T1 b1 h1).same k2).same k3).same k4).same k5
 have a2:=(((ints_arg (w.alloc o1) x2 T2 b2 h2).same k3).same k4).same k5
 have a3:=((ints_arg ((w.alloc o1).alloc o2) y1 T3 b3 h3).same k4).same k5
 have a4:=(ints_arg (((w.alloc o1).alloc o2).alloc o3) y2 T4 b4 h4).same k5
 have hb:=heap_alloc_new ((((w.alloc o1).alloc o2).alloc o3).alloc o4) o5
 simp only [World.size_alloc] at a2 a3 a4 hb
 rw [h5] at hb
 refine ⟨.inr ⟨_,0,rfl,by simp,fun i hi=>?_⟩,(((k1.trans' k2).trans' k3).trans' k4).trans' k5⟩
 rw [h5] at *
 have hi' : i<2:=by simpa using hi
 match i,hi' with
 | 0,_=>exact ⟨_,_,_,_,cellAt hb 0,cellAt hb 1,a1,a2⟩
 | 1,_=>exact ⟨_,_,_,_,cellAt hb 2,cellAt hb 3,a3,a4⟩
theorem wrs_new (w:World) (ws:List (Int × Int)) (cs:Array Value) (T:TypeId) {o:Obj} (ho:o=.cells cs T (0,0)) (hc:∀ i (h:i<ws.length),cs[i * 2]? = some (.int .i64 ws[i].1)∧cs[i * 2+1]? = some (.int .i64 ws[i].2)) (n:Nat) (hn:n=ws.length):WrsAt (w.alloc o) (.slice (some ⟨w.heap.size,0,none⟩) n n) ws:=by
 subst ho hn
 exact ⟨_,_,rfl,.inr ⟨_,rfl,by simp,fun i hi=>⟨(cellAt (heap_alloc_new w _) _).trans (hc i hi).1,(cellAt (heap_alloc_new w _) _).trans (hc i hi).2⟩⟩⟩
end Go.Proofs.YtmjgnfkbnofjoaaGreatDoor
