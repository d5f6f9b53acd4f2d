import Derived.Test.YtflcpepjmonlpaaGreatDoorSL09
namespace Go.Proofs.YtflcpepjmonlpaaGreatDoor
set_option maxRecDepth 100000
set_option linter.unusedVariables false
open Go.RowKit
def CsB (B:Nat→Prop) (w:World):(n:Nat)→Value→Tr n→Prop
 | 0,_,_=>False
 | n+1,v,(k,r,p,l)=>∃ po pc ko kc,v=.agg #[.int .i64 k,.int .i64 r,.slice po p.length pc,.slice ko l.length kc]∧Arg w po p pc∧(p=[]∨∀ a,po=some a→B a.block)∧(ko=none→kc=0)∧l.length≤kc ∧
   (l=[]∨∃ b off,ko=some ⟨b,off,none⟩∧B b∧b<w.heap.size∧∀ i (h:i<l.length),∃ c0 c1 c2 c3,w.cell? ⟨b,off+i * 5,none⟩=some (.int .i64 l[i].1)∧w.cell? ⟨b,off+i * 5+1,none⟩=some c0∧w.cell? ⟨b,off+i * 5+2,none⟩=some c1∧w.cell? ⟨b,off+i * 5+3,none⟩=some c2∧w.cell? ⟨b,off+i * 5+4,none⟩=some c3∧CsB B w n (.agg #[c0,c1,c2,c3]) l[i].2)
theorem IntsAt.keptE {w w' : World} {S:Nat→Prop} {ao:Option Addr} {xs:List Int} (h:IntsAt w ao xs) (hk:Kept S w w') (hs:xs=[]∨∀ a,ao=some a→¬ S a.block):IntsAt w' ao xs:=by
 rcases hs with rfl | hs
 ·exact .inl rfl
 ·exact h.kept hk hs
theorem CsB.kept {B S:Nat→Prop} {w w' : World} (hk:Kept S w w') (hS:∀ b,B b→¬ S b):∀ {n:Nat} {v:Value} {t:Tr n},CsB B w n v t→CsB B w' n v t
 | 0,_,_,h=>h
 | n+1,v,(k,r,p,l),h=>by
  obtain ⟨po,pc,ko,kc,h1,h2,h3,h4,h5,h6⟩:=h
  refine ⟨po,pc,ko,kc,h1,⟨h2.at'.keptE hk (h3.imp id (fun q a e=>hS _ (q a e))),h2.cap', h2.nil,h2.size⟩,h3,h4,h5,h6.imp id ?_⟩
  rintro ⟨b,off,e,hb,hl,hc⟩
  refine ⟨b,off,e,hb,Nat.lt_of_lt_of_le hl hk.size,fun i hi=>?_⟩
  have nb:=hS b hb
  obtain ⟨c0,c1,c2,c3,q0,q1,q2,q3,q4,q5⟩:=hc i hi
  exact ⟨c0,c1,c2,c3,(hk.cell (p:=⟨b,off+i * 5,none⟩) hl nb).trans q0,(hk.cell (p:=⟨b,off+i * 5+1,none⟩) hl nb).trans q1,(hk.cell (p:=⟨b,off+i * 5+2,none⟩) hl nb).trans q2,(hk.cell (p:=⟨b,off+i * 5+3,none⟩) hl nb).trans q3,(hk.cell (p:=⟨b,off+i * 5+4,none⟩) hl nb).trans q4,CsB.kept hk hS q5⟩
theorem CsB.same {B:Nat→Prop} {w w' : World} {n:Nat} {v:Value} {t:Tr n} (h:CsB B w n v t) (hk:Same0 w w'):CsB B w' n v t:=CsB.kept hk (fun _ _ f=>f) h
theorem CsB.mono {B B' : Nat→Prop} {w:World} (hB:∀ b,b<w.heap.size→B b→B' b):∀ {n:Nat} {v:Value} {t:Tr n},CsB B w n v t→CsB B' w n v t
 | 0,_,_,h=>h
 | n+1,v,(k,r,p,l),h=>by
  obtain ⟨po,pc,ko,kc,h1,h2,h3,h4,h5,h6⟩:=h
  refine ⟨po,pc,ko,kc,h1,h2,?_,h4,h5,h6.imp id ?_⟩
  ·rcases h2.at' with q | ⟨b,off,e,hb,_⟩
   ·exact .inl q
   ·refine h3.imp id (fun q a ea=>?_)
    rw [e] at ea
    cases ea
    exact hB _ hb (q _ e)
  ·rintro ⟨b,off,e,hb,hl,hc⟩
   refine ⟨b,off,e,hB b hl hb,hl,fun i hi=>?_⟩
   obtain ⟨c0,c1,c2,c3,q0,q1,q2,q3,q4,q5⟩:=hc i hi
   exact ⟨c0,c1,c2,c3,q0,q1,q2,q3,q4,CsB.mono hB q5⟩
theorem CsB.shape {B:Nat→Prop} {w:World}:∀ {n:Nat} {v:Value} {t:Tr n},CsB B w n v t→∃ k r po pl pc ko kl kc,v=.agg #[.int .i64 k,.int .i64 r,.slice po pl pc,.slice ko kl kc]
 | 0,_,_,h=>h.elim
 | n+1,v,(k,r,p,l),h=>by
  obtain ⟨po,pc,ko,kc,h1,_⟩:=h
  exact ⟨_,_,_,_,_,_,_,_,h1⟩
theorem info_kid:(Tryz.prog.info? 166).map (fun i=>(i.zero,i.size,i.bytes))=some (some (.agg #[.int .i64 0,.int .i64 0,.int .i64 0,.slice none 0 0,.slice none 0 0]),5,72):=by kernel_rfl
def KCells (B:Nat→Prop) (w:World) (n:Nat) (us:List Value) (l:List (Int × Tr n)):Prop:=
 us.length=l.length * 5∧∀ i (h:i<l.length),∃ c0 c1 c2 c3,us[i * 5]? = some (.int .i64 l[i].1)∧us[i * 5+1]? = some c0∧us[i * 5+2]? = some c1∧us[i * 5+3]? = some c2∧us[i * 5+4]? = some c3∧CsB B w n (.agg #[c0,c1,c2,c3]) l[i].2
theorem KCells.nil (B:Nat→Prop) (w:World) (n:Nat):KCells B w n [] []:=⟨rfl,fun i h=>absurd h (by simp)⟩
theorem KCells.kept {B S:Nat→Prop} {w w' : World} {n:Nat} {us:List Value} {l:List (Int × Tr n)} (h:KCells B w n us l) (hk:Kept S w w') (hS:∀ b,B b→¬ S b):KCells B w' n us l:=
 ⟨h.1,fun i hi=>by
  obtain ⟨c0,c1,c2,c3,q0,q1,q2,q3,q4,q5⟩:=h.2 i hi
  exact ⟨c0,c1,c2,c3,q0,q1,q2,q3,q4,CsB.kept hk hS q5⟩⟩
theorem KCells.mono {B B' : Nat→Prop} {w:World} {n:Nat} {us:List Value} {l:List (Int × Tr n)} (h:KCells B w n us l) (hB:∀ b,b<w.heap.size→B b→B' b):KCells B' w n us l:=
 ⟨h.1,fun i hi=>by
  obtain ⟨c0,c1,c2,c3,q0,q1,q2,q3,q4,q5⟩:=h.2 i hi
  exact ⟨c0,c1,c2,c3,q0,q1,q2,q3,q4,CsB.mono hB q5⟩⟩
theorem KCells.snoc {B:Nat→Prop} {w:World} {n:Nat} {us:List Value} {l:List (Int × Tr n)} (h:KCells B w n us l) {s:Int} {t:Tr n} {c0 c1 c2 c3:Value} (ht:CsB B w n (.agg #[c0,c1,c2,c3]) t):KCells B w n (us ++ [.int .i64 s,c0,c1,c2,c3]) (l ++ [(s,t)]):=by
 refine ⟨by simp [h.1];omega,fun i hi=>?_⟩
 by_cases hl:i<l.length
 ·rw [List.getElem_append_left hl,List.getElem?_append_left (by rw [h.1];omega),List.getElem?_append_left (by rw [h.1];omega),List.getElem?_append_left (by rw [h.1];omega),List.getElem?_append_left (by rw [h.1];omega),List.getElem?_append_left (by rw [h.1];omega)]
  exact h.2 i hl
 ·obtain rfl:i=l.length:=by simp at hi;omega
  refine ⟨c0,c1,c2,c3,?_,?_,?_,?_,?_,by simpa using ht⟩ <;> (rw [List.getElem?_append_right (by rw [h.1];omega),h.1];simp [Nat.add_sub_cancel_left])
theorem branch_cs {B:Nat→Prop} {w:World} {n:Nat} {lv:Value} {us:List Value} {l:List (Int × Tr n)} {base:Nat} (hr:w.ownsRow base 166 5 lv l.length us) (hu:KCells B w n us l) (hB:∀ b,lv.ownBlock=some b→B b) {po:Option Addr} {pc:Nat} {p:List Int} (hp:Arg w po p pc) (hpB:∀ a,po=some a→B a.block) (k r:Int) :
  CsB B w (n+1) (.agg #[.int .i64 k,.int .i64 r,.slice po p.length pc,lv]) (k,r,p,l):=by
 rcases hr.2 with ⟨rfl,h0⟩ | ⟨g,cap,cur,rfl,_,hg,hle,_,_,ht⟩
 ·have e0:l=[]:=List.eq_nil_of_length_eq_zero h0
  subst e0
  exact ⟨po,pc,none,0,rfl,hp,.inr hpB,fun _=>rfl,Nat.le_refl _,.inl rfl⟩
 ·refine ⟨po,pc,_,cap,rfl,hp,.inr hpB,(fun e=>by cases e),hle,.inr ⟨g,0,rfl,hB g rfl,lt_of_at hg,fun i hi=>?_⟩⟩
  obtain ⟨c0,c1,c2,c3,q0,q1,q2,q3,q4,q5⟩:=hu.2 i hi
  have a0:=hr.cells (g:=g) rfl _ _ q0
  have a1:=hr.cells (g:=g) rfl _ _ q1
  have a2:=hr.cells (g:=g) rfl _ _ q2
  have a3:=hr.cells (g:=g) rfl _ _ q3
  have a4:=hr.cells (g:=g) rfl _ _ q4
  rw [addr_add] at a0 a1 a2 a3 a4
  exact ⟨c0,c1,c2,c3,a0,by rw [← a1];congr 2,by rw [← a2];congr 2,by rw [← a3];congr 2,by rw [← a4];congr 2,q5⟩
theorem step_kid {w0 W:World} {ops:Array Oper} {o:Oper} {a:Act} {K:Act→World→Prop} {Q:Exit→Act→World→Prop} {E:Prop} (hgd:o.guard=none) (s x:Operand)
  (ho:o.op=.call { callee:=.builtin .append,args:=#[s,x],argTypes:=#[61,61] })
  (base N:Nat) (vs:List Value) (v:Value) (hs:a.eval s=v) (hW:Same0 w0 W) (hr:w0.ownsRow base 166 5 v N vs) (A C D F G:Value) (q:Nat) (hx:a.eval x=.slice (some ⟨q,0,none⟩) 1 1) (hq:W.heap[q]? = some (.cells #[A,C,D,F,G] 166 (0,0))) (hA:A.oneCell' = true) (hC:C.oneCell' = true) (hD:D.oneCell' = true) (hF:F.oneCell' = true) (hG:G.oneCell' = true) (hb:base≤w0.heap.size) (hsz:N≤1000)
  (h:∀ g cap w', w'.ownsRow base 166 5 (.slice (some ⟨g,0,none⟩) (N+1) cap) (N+1) (vs ++ [A,C,D,F,G])→Kept (fun k=>v.ownBlock=some k) w0 w' → (v.ownBlock=some g∨w0.heap.size≤g)→K (a.put o.dst (.slice (some ⟨g,0,none⟩) (N+1) cap)) w') :
  if Region.wanted o (yielded ops a.tmps)=true then Oper.wp Tryz.prog o a W K Q else E:=by
 obtain ⟨i,hi,hz0,hz1,hz2⟩:=info_parts info_kid
 refine step_append_lies _ hgd s x 61 ho base 166 i _ 5 72 Tryz.underlying61 hi hz0 hz1 hz2 rfl (by decide) v N vs hs (hW.row hr (fun _ _ f=>f)) ⟨q,0,none⟩ 1 1 [A,C,D,F,G] hx rfl (World.news_of_block (cs:=#[A,C,D,F,G]) (t:=166) (fr:=(0,0)) hq) (by intro u hu;simp at hu;rcases hu with rfl | rfl | rfl | rfl | rfl <;> assumption) (by omega) (by unfold maxLen;omega) (by omega) (Nat.le_trans hb hW.size) W.heap.size rfl ?_
 intro g cap w' hown hgrow hat hlt
 exact h g cap w' hown (Kept.grown (Kept.mono hW (fun _ _ f=>f.elim)) hgrow (fun _ e _=>e)) (hat.imp id (fun e=>by have:=hW.size;omega))
theorem step_callp {ops:Array Oper} {o:Oper} {a:Act} {w:World} {K:Act→World→Prop} {Q:Exit→Act→World→Prop} {E:Prop} {f:FuncId} {args:Array Value} {R:Ending→World→Prop} (hgd:o.guard=none)
  (c:Calls Tryz.prog f args w R) (hrun:(execOp a.eval o).run Tryz.prog w=.ok (.enter f args) w) (hR:∀ e w', R e w' → ∃ ch,e=.panicked ch∧Q (.panic ch) a w') :
  if Region.wanted o (yielded ops a.tmps)=true then Oper.wp Tryz.prog o a w K Q else E:=by
 have hw:Region.wanted o (yielded ops a.tmps)=true:=by simp [Region.wanted,hgd]
 rw [if_pos hw]
 unfold Oper.wp
 rw [hrun,Oper.upon_enter]
 refine c.mono fun e w' h=>?_
 obtain ⟨ch,rfl,h2⟩:=hR e w' h
 exact h2
def FkAt (w:World) (e:Ending) (z:Int):Prop:=
 ∃ b,e=.panicked [{ v:=.iface 141 (.pointer (some ⟨b,0,none⟩)),recovered:=false }]∧w.heap[b]? = some (.cells #[.int .i64 82,.int .i64 z,.nilIface] 143 (0,0))
structure NdIn (w:World) (L:List Sym) (n bs:Nat) (po:Option Addr) (pc:Nat) (P:List (List Int)) (ro:Option Addr) (R:List Rw):Prop where
 sig:Sg w.heap.size w bs L
 ps:PsAt w po P
 nul:po=none→pc=0
 cap:P.length≤pc
 rs:RwAt w ro R
 ok:NdOk L n P R
theorem NdIn.same {w w' : World} {L:List Sym} {n bs:Nat} {po:Option Addr} {pc:Nat} {P:List (List Int)} {ro:Option Addr} {R:List Rw} (h:NdIn w L n bs po pc P ro R) (hk:Same0 w w'):NdIn w' L n bs po pc P ro R:=
 ⟨sg_up (h.sig.same hk) hk.size,h.ps.same hk,h.nul,h.cap,h.rs.same hk,h.ok⟩
theorem NdOk.rows {L:List Sym} {n:Nat} {P:List (List Int)} {R:List Rw} (h:NdOk L n P R):RowsOk P.length R:=fun x hx=>⟨(h.ok x hx).2.1,(h.ok x hx).2.2.1⟩
def TreeOut {n:Nat} (w:World) (r:Except Int (Tr n)) (e:Ending) (w' : World):Prop:=
 match r with
 | .ok t=>∃ v,e=.returned v∧CsB (fun b=>w.heap.size≤b) w' n v t∧Same0 w w'
 | .error z=>FkAt w' e z∧Same0 w w'
def GrowIH (L:List Sym) (n:Nat):Prop:=∀ (w:World) (bs:Nat) (po:Option Addr) (pc:Nat) (P:List (List Int)) (ro:Option Addr) (rc:Nat) (R:List Rw),NdIn w L n bs po pc P ro R→Calls Tryz.prog 134 #[.agg #[.pointer (some ⟨bs,0,none⟩),.slice po P.length pc,.slice ro R.length rc]] w (TreeOut w (growF L n P R))
theorem NdIn.toKid {w:World} {L:List Sym} {n bs:Nat} {po:Option Addr} {pc:Nat} {P:List (List Int)} {ro:Option Addr} {R:List Rw} (h:NdIn w L (n+1) bs po pc P ro R) {c s:Nat} (hc:c<P.length) (hs:s<L.length) {ho:Option Addr} (hh:RwAt w ho (havR R c (s:Int))):KidIn w L bs po pc P c s ho (havR R c (s:Int)):=
 ⟨h.sig,h.ps,h.nul,h.cap,hc,hs,hh,Nat.le_trans (havR_len R c s) h.ok.le,h.ok.few,fun p hp=>by have:=h.ok.len p hp;omega,fun x hx=>by
  obtain ⟨h1,h2⟩:=havR_mem hx
  obtain ⟨a,b,c,_⟩:=h.ok.ok x h1
  exact ⟨a,b,c,h2⟩⟩
end Go.Proofs.YtflcpepjmonlpaaGreatDoor
namespace Go.Proofs.YtflcpepjmonlpaaGreatDoor
set_option maxRecDepth 100000
set_option linter.unusedVariables false
open Go.RowKit
attribute [local go_sem ↓] Go.wp_at_zero Go.wp_at_succ
def rulesF:(n:Nat)→Tr n→List Int
 | 0,_=>[]
 | n+1,(k,r,p,l)=>if k=1 then [r] else if k=2 then l.flatMap (fun x=>rulesF n x.2) else []
def SmK:(n:Nat)→Tr n→Prop
 | 0,_=>True
 | n+1,(k,r,p,l)=>l.length≤1000000000∧∀ i (h:i<l.length),SmK n l[i].2
structure RAt (w:World) (lb base:Nat) (lv:Value) (out:List Int):Prop where
 blk:w.heap[lb]? = some (.cells #[lv] 51 (0,0))
 row:Row base w lv out
abbrev T3:=Nat × Nat × Nat
def add3 (a b:T3):T3:=(a.1+b.1,a.2.1+b.2.1,a.2.2+b.2.2)
def sum3 {α:Type} (f:α→T3):List α→T3
 | []=>(0,0,0)
 | x :: r=>add3 (f x) (sum3 f r)
theorem sum3_append {α:Type} (f:α→T3):∀ (a b:List α),sum3 f (a++b)=add3 (sum3 f a) (sum3 f b)
 | [],b=>by simp [sum3,add3]
 | x :: r,b=>by
  rw [List.cons_append,sum3,sum3,sum3_append f r b]
  simp only [add3,Nat.add_assoc]
def kind3 (k:Int):T3:=if k=1 then (1,0,0) else if k=2 then (0,1,0) else if k=3 then (0,0,1) else (0,0,0)
def szT:(n:Nat)→Tr n→T3
 | 0,_=>(0,0,0)
 | n+1,(k,r,p,l)=>add3 (kind3 k) (if k=2 then sum3 (fun x=>szT n x.2) l else (0,0,0))
structure SAt (w:World) (x y z:Nat) (a:T3):Prop where
 bx:w.heap[x]? = some (.cells #[.int .i64 (a.1:Int)] 3 (0,0))
 by' : w.heap[y]? = some (.cells #[.int .i64 (a.2.1:Int)] 3 (0,0))
 bz:w.heap[z]? = some (.cells #[.int .i64 (a.2.2:Int)] 3 (0,0))
 xy:x≠y
 xz:x≠z
 yz:y≠z
def KidsF (L:List Sym) (n:Nat) (P:List (List Int)) (R:List Rw) (c k:Nat):Except Int (List (Int × Tr n)):=
 kidsN (fun s=>decide (0<(havR R c (s:Int)).length)) (fun s=>growF L n (kidP L P c s) ((havR R c (s:Int)).map (kidX L c))) k
theorem KidsF_len {L:List Sym} {n:Nat} {P:List (List Int)} {R:List Rw} {c:Nat}:∀ {k:Nat} {l:List (Int × Tr n)},KidsF L n P R c k=.ok l→l.length≤k
 | 0,l,h=>by cases h;simp
 | k+1,l,h=>by
  unfold KidsF kidsN at h
  cases hk:KidsF L n P R c k with
  | error e=>unfold KidsF at hk;rw [hk] at h;cases h
  | ok m=>
   have hm:=KidsF_len hk
   unfold KidsF at hk
   rw [hk] at h
   simp only at h
   split at h
   ·split at h
    ·cases h
    ·cases h;simp;omega
   ·cases h;omega
def BrF (L:List Sym) (n:Nat) (P:List (List Int)) (R:List Rw) (c:Nat):Except Int (Tr (n+1)):=
 match KidsF L n P R c L.length with
 | .error e=>.error e
 | .ok l=>.ok (2,0,P.getD c [],l)
theorem KidsF_err {L : List Sym} {n : Nat} {P : List (List Int)} {R : List Rw} {c : Nat} {z : Int} : ∀ {k m : Nat}, KidsF L n P R c k = .error z → k ≤ m → KidsF L n P R c m = .error z
  | k, 0, h, hm => by obtain rfl : k = 0 := by omega
                      exact h
  | k, m + 1, h, hm => by
    by_cases e : k = m + 1
    · subst e; exact h
    · have := KidsF_err h (show k ≤ m by omega)
      unfold KidsF at this ⊢
      unfold kidsN
      rw [this]
abbrev zeroCs:Obj:=.cells #[.int .i64 0,.int .i64 0,.slice none 0 0,.slice none 0 0] 63
set_option maxHeartbeats 16000000 in
theorem branch_any {L:List Sym} {n:Nat} (IH:GrowIH L n) {w:World} {bs:Nat} {po:Option Addr} {pc:Nat} {P:List (List Int)} {ro:Option Addr} {rc:Nat} {R:List Rw} (h:NdIn w L (n+1) bs po pc P ro R) {c:Nat} (hc:c<P.length) :
  Calls Tryz.prog 184 #[.agg #[.pointer (some ⟨bs,0,none⟩),.slice po P.length pc,.slice ro R.length rc],.int .i64 (c:Int)] w (TreeOut w (BrF L n P R c)):=by
 have hle:=h.ok.le
 have hfew:=h.ok.few
 have hpl:=h.ok.len _ (List.getElem_mem hc)
 have hL64:L.length≤64:=by obtain ⟨⟨sv,mr,hs,_⟩,_⟩:=h.sig;exact hs.len
 obtain ⟨W1,hW1⟩:∃ W1,W1=(w.alloc (.cells #[.pointer (some ⟨bs,0,none⟩),.slice po P.length pc,.slice ro R.length rc] 230)).alloc zeroCs:=⟨_,rfl⟩
 have KW:Same0 w W1:=by rw [hW1];exact ((Kept.refl _ w).alloc _).alloc _
 have HH:Hid (∀ ww,Same0 W1 ww→NdIn ww L (n+1) bs po pc P ro R):=fun ww hk=>h.same (KW.trans' hk)
 have BX:Hid (∀ ww,Same0 W1 ww→ww.cell? ⟨w.heap.size,0,none⟩=some (.pointer (some ⟨bs,0,none⟩))∧ww.cell? ⟨w.heap.size,1,none⟩=some (.slice po P.length pc)∧ww.cell? ⟨w.heap.size,2,none⟩=some (.slice ro R.length rc)):=fun ww hk=>by
  have hb:W1.heap[w.heap.size]? = some (.cells #[.pointer (some ⟨bs,0,none⟩),.slice po P.length pc,.slice ro R.length rc] 230 (0,0)):=by rw [hW1];exact heap_alloc2_old _ _ _
  exact ⟨cellAt (hk.at0 hb) 0,cellAt (hk.at0 hb) 1,cellAt (hk.at0 hb) 2⟩
 have RS:Hid (∀ ww,Same0 W1 ww→ww.heap[w.heap.size+1]? = some (.cells #[.int .i64 0,.int .i64 0,.slice none 0 0,.slice none 0 0] 63 (0,0))):=fun ww hk=>hk.at0 (by rw [hW1];exact heap_al_al _ _ _)
 obtain ⟨pb,poff,ao,ac,rfl,hpb,hcell,hArg⟩:=h.ps.get hc
 have PC:=(KW.cell (p:=⟨pb,poff+c,none⟩) hpb (fun f=>f)).trans hcell
 have CL:=cloneI_any (hArg.1.same KW)
 have ez:w.heap.size+1<W1.heap.size:=by rw [hW1];simp
 have i1:(0:Int)≤(c:Int):=by omega
 have i2:(c:Int)<(P.length:Int):=by omega
 have CN:Hid (∀ ww,Same0 W1 ww→Calls Tryz.prog 27 #[.pointer (some ⟨bs,0,none⟩)] ww fun e w' => e=.returned (.int .i64 (L.length:Int))∧w' = ww):=fun ww hk=>sg_len (HH.out ww hk).sig
 have HLP:Hid (P.getD c []=P[c]):=getD_lt hc []
 clear h hArg hcell
 obtain ⟨b0,b1,b2⟩:=BX.out W1 (Kept.refl _ _)
 go_enter Tryz.func184,Tryz.ntmps184
 go_upto_region 1 with fail
 rw [← hW1]
 clear hW1
 go_upto_region 2 with (first | (go_at_call 230;refine CL.mono ?_;rintro e w2 ⟨v2,rfl,hrow,hk2⟩;obtain ⟨qo,qc,rfl,a2,q2⟩:=hrow.arg (by omega)))
 have K2:Same0 W1 w2:=hk2
 obtain ⟨kb,hkb⟩:∃ kb,kb=w2.heap.size:=⟨_,rfl⟩
 have HQ:Hid (∀ ww,Same0 w2 ww→Arg ww qo P[c] qc):=fun ww hk=>a2.1.same hk
 have HQB:Hid (∀ a,qo=some a→W1.heap.size≤a.block):=q2
 have hN0:Hid ((w2.alloc (.cells #[.int .i64 2,.int .i64 0,.slice qo P[c].length qc,.slice none 0 0] 63)).heap[kb]? = some (.cells #[.int .i64 2,.int .i64 0,.slice qo P[c].length qc,.slice none 0 0] 63 (0,0))):=by rw [hkb];exact heap_alloc_new w2 _
 have K3:Same0 w2 (w2.alloc (.cells #[.int .i64 2,.int .i64 0,.slice qo P[c].length qc,.slice none 0 0] 63)):=(Kept.refl _ _).alloc _
 have hkW:W1.heap.size≤kb:=by rw [hkb];exact K2.size
 have HKB:Hid (kb=w2.heap.size):=hkb
 rw [← hkb]
 have hz3:(w2.alloc (.cells #[.int .i64 2,.int .i64 0,.slice qo P[c].length qc,.slice none 0 0] 63)).heap.size=kb+1:=by rw [hkb];simp
 have HZ3:Hid ((w2.alloc (.cells #[.int .i64 2,.int .i64 0,.slice qo P[c].length qc,.slice none 0 0] 63)).heap.size=kb+1):=hz3
 obtain ⟨b3,_,_⟩:=BX.out _ (K2.trans' K3)
 have CN3:=CN.out _ (K2.trans' K3)
 clear hrow a2 q2 CL PC b0 b1 b2 hkb hk2 hz3
 go_wp2_with (first | (go_at_call 27;refine CN3.mono ?_;rintro e w4 ⟨rfl,rfl⟩))
 clear CN3 b3
 go_loopw [18] (fun i wr=>∃ (k:Nat) (lv:Value) (us:List Value) (l:List (Int × Tr n)),k≤L.length∧i=.int .i64 (k:Int)∧Hid (KidsF L n P R c k=.ok l)∧Hid (wr.heap[kb]? = some (.cells #[.int .i64 2,.int .i64 0,.slice qo P[c].length qc,lv] 63 (0,0)))∧Hid (wr.ownsRow (kb+1) 166 5 lv l.length us)∧Hid (KCells (fun b=>kb<b∧lv.ownBlock≠some b) wr n us l)∧Same0 w2 wr) (fun i _=>L.length-(intOf i).toNat)
 case atStart=>exact ⟨0,.slice none 0 0,[],[],Nat.zero_le _,rfl,rfl,hN0,World.ownsRow_nil _ _ _ _,KCells.nil _ _ _,K3⟩
 case round=>
  clear hN0 K3 CN
  obtain ⟨k,lv,us,l,hk,rfl,hK,hN,hr,hus,hw⟩:=hrel
  obtain ⟨lo,lc,rfl⟩:=row_shape hr.out
  have hw1:Same0 W1 wr:=K2.trans' hw
  obtain ⟨b0,b1,b2⟩:=BX.out wr hw1
  have hll:=KidsF_len hK.out
  by_cases hlt:k<L.length
  ·have NI:=HH.out wr hw1
   have CH:=having_any (nv:=.nilIface) (pv:=.nilIface) (rc:=rc) (bs:=bs) (po:=some ⟨pb,poff,none⟩) (pl:=P.length) (pc:=pc) NI.rs NI.ok.rows NI.ok.le c hc (k:Int)
   have BY:Hid (∀ ww,Same0 wr ww→(ww.cell? ⟨w.heap.size,0,none⟩=some (.pointer (some ⟨bs,0,none⟩))∧ww.cell? ⟨w.heap.size,1,none⟩=some (.slice (some ⟨pb,poff,none⟩) P.length pc)∧ww.cell? ⟨w.heap.size,2,none⟩=some (.slice ro R.length rc))∧ww.cell? ⟨kb,3,none⟩=some (.slice lo l.length lc)):=fun ww hk=>⟨BX.out ww (hw1.trans' hk),cellAt (hk.at0 hN.out) 3⟩
   by_cases hhas:0<(havR R c (k:Int)).length
   ·have hgt:(0:Int)<((havR R c (k:Int)).length:Int):=by omega
    have KO:Hid (∀ w3 ho hcc,Same0 wr w3→RwAt w3 ho (havR R c (k:Int))→∀ ww,Same0 w3 ww→Calls Tryz.prog 182 #[.agg #[.pointer (some ⟨bs,0,none⟩),.slice (some ⟨pb,poff,none⟩) P.length pc,.slice ro R.length rc],.int .i64 (c:Int),.int .i64 (k:Int),.slice ho (havR R c (k:Int)).length hcc] ww fun e w' => ∃ vo vc xo xc,e=.returned (.agg #[.pointer (some ⟨bs,0,none⟩),.slice vo (kidP L P c k).length vc,.slice xo (havR R c (k:Int)).length xc])∧Hid (NdIn w' L n bs vo vc (kidP L P c k) xo ((havR R c (k:Int)).map (kidX L c)))∧Same0 ww w'):=by
     intro w3 ho hcc k3 hh ww k4
     have NI3:=(NI.same k3).same k4
     refine (kid_any (NI3.toKid hc hlt (hh.same k4))).mono ?_
     rintro e w' ⟨vo,vc,xo,xc,rfl,z1,z2,z3,z4,z5,z6⟩
     exact ⟨vo,vc,xo,xc,rfl,⟨sg_up (NI3.sig.same z6) z6.size,z1,z2,z3,z4,NI.ok.kid hc hlt (arN_le NI.sig.2 _) (fun e=>by rw [e] at hhas;simp at hhas)⟩,z6⟩
    have GO:Hid (∀ ww vo vc xo xc,NdIn ww L n bs vo vc (kidP L P c k) xo ((havR R c (k:Int)).map (kidX L c))→Calls Tryz.prog 134 #[.agg #[.pointer (some ⟨bs,0,none⟩),.slice vo (kidP L P c k).length vc,.slice xo (havR R c (k:Int)).length xc]] ww (TreeOut ww (growF L n (kidP L P c k) ((havR R c (k:Int)).map (kidX L c))))):=fun ww vo vc xo xc hi=>by
     have:=IH ww bs vo vc _ xo xc _ hi
     rw [List.length_map] at this
     exact this
    have HS:KidsF L n P R c (k+1)=(match growF L n (kidP L P c k) ((havR R c (k:Int)).map (kidX L c)) with | .error e=>.error e | .ok t=>.ok (l ++ [((k:Int),t)])):=by
     have:=hK.out
     unfold KidsF at this ⊢
     rw [kidsN,this]
     simp only [hhas,decide_true,if_true]
     cases growF L n (kidP L P c k) ((havR R c (k:Int)).map (kidX L c)) <;> rfl
    cases hg:growF L n (kidP L P c k) ((havR R c (k:Int)).map (kidX L c)) with
    | error z=>
     rw [hg] at HS
     have HE:Hid (∀ ww w' e,Same0 wr ww→Same0 ww w' → FkAt w' e z→TreeOut w (BrF L n P R c) e w'):=fun ww w' e k1 k2 hf=>by
      have:BrF L n P R c=.error z:=by unfold BrF;rw [KidsF_err HS (show k+1≤L.length by omega)]
      rw [this]
      exact ⟨hf,((KW.trans' hw1).trans' k1).trans' k2⟩
     have GE:Hid (∀ ww vo vc xo xc,NdIn ww L n bs vo vc (kidP L P c k) xo ((havR R c (k:Int)).map (kidX L c))→Calls Tryz.prog 134 #[.agg #[.pointer (some ⟨bs,0,none⟩),.slice vo (kidP L P c k).length vc,.slice xo (havR R c (k:Int)).length xc]] ww fun e w' => Hid (FkAt w' e z)∧Same0 ww w'):=fun ww vo vc xo xc hi=>by
      have:=GO.out ww vo vc xo xc hi
      rw [hg] at this
      exact this
     clear HS hg GO hK hr hus hN NI hll hhas
     go_upto_region 7 with (first | (go_at_call 239;refine CH.mono ?_;rintro e w3 ⟨ho,hcc,rfl,hh,hhn,k3⟩))
     have WD:Same0 w3 w3.drew:=(Kept.refl _ _).drew
     refine wp_region_held_drew (S:=fun w' => (w'.cell? ⟨w.heap.size,0,none⟩=some (.pointer (some ⟨bs,0,none⟩))∧w'.cell? ⟨w.heap.size,1,none⟩=some (.slice (some ⟨pb,poff,none⟩) P.length pc)∧w'.cell? ⟨w.heap.size,2,none⟩=some (.slice ro R.length rc))∧w'.cell? ⟨kb,3,none⟩=some (.slice lo l.length lc)) (by kernel_rfl) (BY.out _ (k3.trans' WD)) (fun hHeld=>?_)
     refine wpAnyH_take (i:=0) (v:=.pointer (some ⟨kb,3,none⟩)) rfl (by kernel_rfl) (by kernel_rfl) (by kernel_rfl) (fun _ _ _ h=>h) (.inl ⟨rfl,fun w' hS=>by simp [go_sem]⟩) hHeld ?_
     refine wpAnyH_take (i:=1) (v:=.slice lo l.length lc) rfl (by kernel_rfl) (by kernel_rfl) (by kernel_rfl) (fun _ _ _ h=>h) (.inl ⟨rfl,fun w' hS=>by simp [go_sem,hS.2]⟩) hHeld ?_
     refine wpAnyH_take (i:=2) (v:=.int .i64 (k:Int)) rfl (by kernel_rfl) (by kernel_rfl) (by kernel_rfl) (fun _ _ _ h=>h) (.inl ⟨rfl,fun w' hS=>by simp [go_sem]⟩) hHeld ?_
     refine wpAnyH_take (i:=3) (v:=.agg #[.pointer (some ⟨bs,0,none⟩),.slice (some ⟨pb,poff,none⟩) P.length pc,.slice ro R.length rc]) rfl (by kernel_rfl) (by kernel_rfl) (by kernel_rfl) (fun _ _ _ h=>h) (.inl ⟨rfl,fun w' hS=>by simp [go_sem,hS.1.1,hS.1.2.1,hS.1.2.2]⟩) hHeld ?_
     refine wpAnyH_take (i:=4) (v:=.int .i64 (c:Int)) rfl (by kernel_rfl) (by kernel_rfl) (by kernel_rfl) (fun _ _ _ h=>h) (.inl ⟨rfl,fun w' hS=>by simp [go_sem]⟩) hHeld ?_
     refine wpAnyH_take (i:=5) (v:=.int .i64 (k:Int)) rfl (by kernel_rfl) (by kernel_rfl) (by kernel_rfl) (fun _ _ _ h=>h) (.inl ⟨rfl,fun w' hS=>by simp [go_sem]⟩) hHeld ?_
     refine wpAnyH_take (i:=6) (v:=.slice ho (havR R c (k:Int)).length hcc) rfl (by kernel_rfl) (by kernel_rfl) (by kernel_rfl) (fun _ _ _ h=>h) (.inl ⟨rfl,fun w' hS=>by simp [go_sem]⟩) hHeld ?_
     refine wpAnyH_ready (rs:=[7]) (by kernel_rfl) (by simp) ?_
     refine AllReadyH.cons rfl (fun K hK=>?_) AllReadyH.nil
     refine step_callx rfl (KO.out w3 ho hcc k3 hh _ WD) (by simp [go_sem]) ?_
     rintro e w4 ⟨vo,vc,xo,xc,rfl,ni,k4⟩
     refine ⟨_,rfl,?_⟩
     have k14:=k3.trans' (WD.trans' k4)
     refine hK.out _ _ (BY.out _ k14) (fun hHeld=>?_)
     clear hK K
     refine wpAnyH_ready (rs:=[8]) (by kernel_rfl) (by simp) ?_
     refine AllReadyH.cons rfl (fun K hK=>?_) AllReadyH.nil
     refine step_callp rfl (GE.out w4 vo vc xo xc ni.out) (by simp [go_sem]) ?_
     rintro e w5 ⟨hf,k5⟩
     have HF:=HE.out w4 w5 e k14 k5 hf.out
     obtain ⟨b,rfl,hb⟩:=hf.out
     exact ⟨_,rfl,rfl,HF⟩
    | ok t=>
     rw [hg] at HS
     have HS' : Hid (KidsF L n P R c (k+1)=.ok (l ++ [((k:Int),t)])):=HS
     have GE:Hid (∀ ww vo vc xo xc,NdIn ww L n bs vo vc (kidP L P c k) xo ((havR R c (k:Int)).map (kidX L c))→Calls Tryz.prog 134 #[.agg #[.pointer (some ⟨bs,0,none⟩),.slice vo (kidP L P c k).length vc,.slice xo (havR R c (k:Int)).length xc]] ww fun e w' => ∃ tk tr tpo tpl tpc tko tkl tkc,e=.returned (.agg #[.int .i64 tk,.int .i64 tr,.slice tpo tpl tpc,.slice tko tkl tkc])∧Hid (CsB (fun b=>ww.heap.size≤b) w' n (.agg #[.int .i64 tk,.int .i64 tr,.slice tpo tpl tpc,.slice tko tkl tkc]) t)∧Same0 ww w'):=fun ww vo vc xo xc hi=>by
      have:=GO.out ww vo vc xo xc hi
      rw [hg] at this
      refine this.mono ?_
      rintro e w' ⟨v,rfl,h1,h2⟩
      obtain ⟨tk,tr,tpo,tpl,tpc,tko,tkl,tkc,rfl⟩:=h1.shape
      exact ⟨tk,tr,tpo,tpl,tpc,tko,tkl,tkc,rfl,h1,h2⟩
     have hz2:w2.heap.size=kb:=HKB.out.symm
     have hkr:kb<wr.heap.size:=lt_of_at hN.out
     have FIN:Hid (∀ w4 w5 c0 c1 c2 c3 g cap w11,Same0 wr w4→Same0 w4 w5→CsB (fun b=>w4.heap.size≤b) w5 n (.agg #[c0,c1,c2,c3]) t→w11.ownsRow (kb+1) 166 5 (.slice (some ⟨g,0,none⟩) (l.length+1) cap) (l.length+1) (us ++ [.int .i64 (k:Int),c0,c1,c2,c3])→Kept (fun q=>(Value.slice lo l.length lc).ownBlock=some q) w5 w11→((Value.slice lo l.length lc).ownBlock=some g∨w5.heap.size≤g)→(w11.cell? ⟨kb,3,none⟩=some (.slice lo l.length lc)∧w11.frozen? ⟨kb,3,none⟩=false)∧Hid (∃ us' l', Hid (KidsF L n P R c (k+1)=.ok l')∧Hid ((w11.setCell ⟨kb,3,none⟩ (.slice (some ⟨g,0,none⟩) (l.length+1) cap)).heap[kb]? = some (.cells #[.int .i64 2,.int .i64 0,.slice qo P[c].length qc,.slice (some ⟨g,0,none⟩) (l.length+1) cap] 63 (0,0)))∧Hid ((w11.setCell ⟨kb,3,none⟩ (.slice (some ⟨g,0,none⟩) (l.length+1) cap)).ownsRow (kb+1) 166 5 (.slice (some ⟨g,0,none⟩) (l.length+1) cap) l'.length us')∧Hid (KCells (fun b=>kb<b∧(Value.slice (some ⟨g,0,none⟩) (l.length+1) cap).ownBlock≠some b) (w11.setCell ⟨kb,3,none⟩ (.slice (some ⟨g,0,none⟩) (l.length+1) cap)) n us' l')∧Same0 w2 (w11.setCell ⟨kb,3,none⟩ (.slice (some ⟨g,0,none⟩) (l.length+1) cap)))):=by
      intro w4 w5 c0 c1 c2 c3 g cap w11 k4 k5 hcs r11 k11 hat
      have kr5:Same0 wr w5:=k4.trans' k5
      have hr5:=kr5.row hr.out (fun _ _ f=>f)
      have n5:=kr5.at0 hN.out
      have nk:¬ (Value.slice lo l.length lc).ownBlock=some kb:=fun e=>by
       obtain ⟨cu,h5⟩:=own_blk hr5 e
       rw [n5] at h5;cases h5
      have n11:=k11.at n5 nk
      have ks:Kept (fun q=>q=kb) w11 (w11.setCell ⟨kb,3,none⟩ (.slice (some ⟨g,0,none⟩) (l.length+1) cap)):=Kept.setCell (p:=⟨kb,3,none⟩) (Kept.refl (fun q=>q=kb) w11) (fun _=>rfl) _
      have z4:=k4.size
      have z5:=k5.size
      have hK1:KCells (fun b=>kb<b∧(Value.slice lo l.length lc).ownBlock≠some b∧b<w5.heap.size) w5 n us l:=by
       have:=hus.out.mono (B' := fun b=>kb<b∧(Value.slice lo l.length lc).ownBlock≠some b∧b<w5.heap.size) (fun b hb q=>⟨q.1,q.2,by omega⟩)
       exact this.kept kr5 (fun _ _ f=>f)
      have hC1:CsB (fun b=>kb<b∧(Value.slice lo l.length lc).ownBlock≠some b∧b<w5.heap.size) w5 n (.agg #[c0,c1,c2,c3]) t:=CsB.mono (fun b hb q=>⟨by omega,fun e=>by have:=(hr.out.lt b e).2;omega,hb⟩) hcs
      refine ⟨⟨cellAt n11 3,frozenAt n11 3⟩,us ++ [.int .i64 (k:Int),c0,c1,c2,c3],l ++ [((k:Int),t)],HS', setAt n11 3 _,?_,?_,?_⟩
      ·show World.ownsRow _ _ _ _ _ _ _
       rw [List.length_append]
       exact ks.row r11 (fun q e f=>by
        obtain ⟨cu,h5⟩:=own_blk r11 e
        subst f
        rw [n11] at h5;cases h5)
      ·have a1:=(hK1.snoc (s:=(k:Int)) hC1).kept k11 (fun b q e=>q.2.1 e)
       have a2:=a1.kept ks (fun b q e=>by have:=q.1;omega)
       exact a2.mono (fun b hb q=>⟨q.1,fun e=>by
        simp only [Value.ownBlock,Option.some.injEq] at e
        subst e
        rcases hat with e | e
        ·exact q.2.1 e
        ·have:=q.2.2;omega⟩)
      ·refine Kept.trans (Kept.trans (hw.trans' kr5) k11 (fun i hi e=>?_)) ks (fun i hi e=>by omega)
       have:=(hr5.lt i e).1
       omega
     have FS:Hid (∀ w5 w11 v,Same0 wr w5→Kept (fun q=>(Value.slice lo l.length lc).ownBlock=some q) w5 w11→(w11.cell? ⟨w.heap.size,0,none⟩=some (.pointer (some ⟨bs,0,none⟩))∧w11.cell? ⟨w.heap.size,1,none⟩=some (.slice (some ⟨pb,poff,none⟩) P.length pc)∧w11.cell? ⟨w.heap.size,2,none⟩=some (.slice ro R.length rc))∧(w11.setCell ⟨kb,3,none⟩ v).cell? ⟨w.heap.size,0,none⟩=some (.pointer (some ⟨bs,0,none⟩))∧(w11.setCell ⟨kb,3,none⟩ v).cell? ⟨w.heap.size,1,none⟩=some (.slice (some ⟨pb,poff,none⟩) P.length pc)∧(w11.setCell ⟨kb,3,none⟩ v).cell? ⟨w.heap.size,2,none⟩=some (.slice ro R.length rc)):=by
      intro w5 w11 v k5 k11
      have hr5:=k5.row hr.out (fun _ _ f=>f)
      have kS:Same0 W1 w11:=Kept.trans (hw1.trans' k5) k11 (fun i hi e=>by have:=(hr5.lt i e).1;omega)
      have kT:Same0 W1 (w11.setCell ⟨kb,3,none⟩ v):=Kept.setCell (p:=⟨kb,3,none⟩) kS (fun hi=>by simp at hi;omega) v
      exact ⟨BX.out _ kS,BX.out _ kT⟩
     have HRW:Hid (∀ ww,Same0 wr ww→ww.ownsRow (kb+1) 166 5 (.slice lo l.length lc) l.length us):=fun ww hk=>hk.row hr.out (fun _ _ f=>f)
     have hzz:Hid (∀ ww,Same0 wr ww→kb+1≤ww.heap.size):=fun ww hk=>by have:=hk.size;omega
     have hl1000:l.length≤1000:=by omega
     clear HS hg GO hK hr hus hN NI hll hhas hz2 hkr
     go_upto_region 7 with (first | (go_at_call 239;refine CH.mono ?_;rintro e w3 ⟨ho,hcc,rfl,hh,hhn,k3⟩))
     have WD:Same0 w3 w3.drew:=(Kept.refl _ _).drew
     have y0:w3.drew.cell? ⟨kb,3,none⟩=some (.slice lo l.length lc):=(BY.out _ (k3.trans' WD)).2
     refine wp_region_held_drew (S:=fun w' => w'.cell? ⟨w.heap.size,0,none⟩=some (.pointer (some ⟨bs,0,none⟩))∧w'.cell? ⟨w.heap.size,1,none⟩=some (.slice (some ⟨pb,poff,none⟩) P.length pc)∧w'.cell? ⟨w.heap.size,2,none⟩=some (.slice ro R.length rc)) (by kernel_rfl) (BY.out _ (k3.trans' WD)).1 (fun hHeld=>?_)
     refine wpAnyH_take (i:=0) (v:=.pointer (some ⟨kb,3,none⟩)) rfl (by kernel_rfl) (by kernel_rfl) (by kernel_rfl) (fun _ _ _ h=>h) (.inl ⟨rfl,fun w' hS=>by simp [go_sem]⟩) hHeld ?_
     refine wpAnyH_take (i:=2) (v:=.int .i64 (k:Int)) rfl (by kernel_rfl) (by kernel_rfl) (by kernel_rfl) (fun _ _ _ h=>h) (.inl ⟨rfl,fun w' hS=>by simp [go_sem]⟩) hHeld ?_
     refine wpAnyH_take (i:=3) (v:=.agg #[.pointer (some ⟨bs,0,none⟩),.slice (some ⟨pb,poff,none⟩) P.length pc,.slice ro R.length rc]) rfl (by kernel_rfl) (by kernel_rfl) (by kernel_rfl) (fun _ _ _ h=>h) (.inl ⟨rfl,fun w' hS=>by simp [go_sem,hS.1,hS.2.1,hS.2.2]⟩) hHeld ?_
     refine wpAnyH_take (i:=4) (v:=.int .i64 (c:Int)) rfl (by kernel_rfl) (by kernel_rfl) (by kernel_rfl) (fun _ _ _ h=>h) (.inl ⟨rfl,fun w' hS=>by simp [go_sem]⟩) hHeld ?_
     refine wpAnyH_take (i:=5) (v:=.int .i64 (k:Int)) rfl (by kernel_rfl) (by kernel_rfl) (by kernel_rfl) (fun _ _ _ h=>h) (.inl ⟨rfl,fun w' hS=>by simp [go_sem]⟩) hHeld ?_
     refine wpAnyH_take (i:=6) (v:=.slice ho (havR R c (k:Int)).length hcc) rfl (by kernel_rfl) (by kernel_rfl) (by kernel_rfl) (fun _ _ _ h=>h) (.inl ⟨rfl,fun w' hS=>by simp [go_sem]⟩) hHeld ?_
     refine wpAnyH_ready (rs:=[1,7]) (by kernel_rfl) (by simp) ?_
     refine AllReadyH.cons rfl (fun K hK=>?_) (AllReadyH.cons rfl (fun K hK=>?_) AllReadyH.nil)
     ·go_simp
      refine hK.out _ _ hHeld (fun hHeld=>?_)
      clear hK K
      refine wpAnyH_ready (rs:=[7]) (by kernel_rfl) (by simp) ?_
      refine AllReadyH.cons rfl (fun K hK=>?_) AllReadyH.nil
      refine step_callx rfl (KO.out w3 ho hcc k3 hh _ WD) (by simp [go_sem]) ?_
      rintro e w4 ⟨vo,vc,xo,xc,rfl,ni,k4⟩
      refine ⟨_,rfl,?_⟩
      have k14:=k3.trans' (WD.trans' k4)
      have y4:=(BY.out _ k14).2
      refine hK.out _ _ (BY.out _ k14).1 (fun hHeld=>?_)
      clear hK K
      refine wpAnyH_ready (rs:=[8]) (by kernel_rfl) (by simp) ?_
      refine AllReadyH.cons rfl (fun K hK=>?_) AllReadyH.nil
      refine step_callx rfl (GE.out w4 vo vc xo xc ni.out) (by simp [go_sem]) ?_
      rintro e w5 ⟨tk,tr,tpo,tpl,tpc,tko,tkl,tkc,rfl,hcs,k5⟩
      refine ⟨_,rfl,?_⟩
      have k15:=k14.trans' k5
      have y5:=(BY.out _ k15).2
      have y6:=(BY.out _ (k15.alloc (.cells #[.int .i64 (k:Int),.int .i64 tk,.int .i64 tr,.slice tpo tpl tpc,.slice tko tkl tkc] 166))).2
      refine hK.out _ _ (BY.out _ k15).1 (fun hHeld=>?_)
      clear hK K
      refine wpAnyH_take (i:=9) (v:=.agg #[.int .i64 (k:Int),.int .i64 tk,.int .i64 tr,.slice tpo tpl tpc,.slice tko tkl tkc]) rfl (by kernel_rfl) (by kernel_rfl) (by kernel_rfl) (fun _ _ _ h=>h) (.inl ⟨rfl,fun w' hS=>by simp [go_sem]⟩) hHeld ?_
      refine wpAnyH_ready (rs:=[10]) (by kernel_rfl) (by simp) ?_
      refine AllReadyH.cons rfl (fun K hK=>?_) AllReadyH.nil
      go_simp
      refine hK.out _ _ (BY.out _ (Kept.alloc k15 _)).1 (fun hHeld=>?_)
      clear hK K
      refine wpAnyH_ready (rs:=[11]) (by kernel_rfl) (by simp) ?_
      refine AllReadyH.cons rfl (fun K hK=>?_) AllReadyH.nil
      refine step_kid (w0:=w5) (by rfl) _ _ (by rfl) (kb+1) l.length us (.slice lo l.length lc) (by rfl) ((Kept.refl _ w5).alloc _) (HRW.out _ k15) (.int .i64 (k:Int)) (.int .i64 tk) (.int .i64 tr) (.slice tpo tpl tpc) (.slice tko tkl tkc) w5.heap.size (by rfl) (heap_alloc_new w5 _) (by rfl) (by rfl) (by rfl) (by rfl) (by rfl) (hzz.out _ k15) hl1000 ?_
      intro g cap w11 r11 k11 hat
      obtain ⟨⟨y1,y2⟩,FF⟩:=FIN.out w4 w5 _ _ _ _ g cap w11 k14 k5 hcs.out r11 k11 hat
      obtain ⟨e11,f11⟩:=FS.out w5 w11 (.slice (some ⟨g,0,none⟩) (l.length+1) cap) k15 k11
      refine hK.out _ _ e11 (fun hHeld=>?_)
      clear hK K
      refine wpAnyH_take (i:=12) (v:=.pointer (some ⟨kb,3,none⟩)) rfl (by kernel_rfl) (by kernel_rfl) (by kernel_rfl) (fun _ _ _ h=>h) (.inl ⟨rfl,fun w' hS=>by simp [go_sem]⟩) hHeld ?_
      refine wpAnyH_ready (rs:=[13]) (by kernel_rfl) (by simp) ?_
      refine AllReadyH.cons rfl (fun K hK=>?_) AllReadyH.nil
      go_simp
      refine hK.out _ _ f11 (fun hHeld=>?_)
      clear hK K
      refine wpAnyH_done (by kernel_rfl) ?_ _
      go_wp2_with fail
      obtain ⟨us', l', z1,z2,z3,z4,z5⟩:=FF.out
      exact ⟨⟨k+1,_,us', l', by omega,by go_num,z1,z2,z3,z4,z5⟩,by simp [intOf];omega⟩
     ·refine step_callx rfl (KO.out w3 ho hcc k3 hh _ WD) (by simp [go_sem]) ?_
      rintro e w4 ⟨vo,vc,xo,xc,rfl,ni,k4⟩
      refine ⟨_,rfl,?_⟩
      have k14:=k3.trans' (WD.trans' k4)
      have y4:=(BY.out _ k14).2
      refine hK.out _ _ (BY.out _ k14).1 (fun hHeld=>?_)
      clear hK K
      refine wpAnyH_ready (rs:=[1,8]) (by kernel_rfl) (by simp) ?_
      refine AllReadyH.cons rfl (fun K hK=>?_) (AllReadyH.cons rfl (fun K hK=>?_) AllReadyH.nil)
      ·go_simp
       refine hK.out _ _ hHeld (fun hHeld=>?_)
       clear hK K
       refine wpAnyH_ready (rs:=[8]) (by kernel_rfl) (by simp) ?_
       refine AllReadyH.cons rfl (fun K hK=>?_) AllReadyH.nil
       refine step_callx rfl (GE.out w4 vo vc xo xc ni.out) (by simp [go_sem]) ?_
       rintro e w5 ⟨tk,tr,tpo,tpl,tpc,tko,tkl,tkc,rfl,hcs,k5⟩
       refine ⟨_,rfl,?_⟩
       have k15:=k14.trans' k5
       have y5:=(BY.out _ k15).2
       have y6:=(BY.out _ (k15.alloc (.cells #[.int .i64 (k:Int),.int .i64 tk,.int .i64 tr,.slice tpo tpl tpc,.slice tko tkl tkc] 166))).2
       refine hK.out _ _ (BY.out _ k15).1 (fun hHeld=>?_)
       clear hK K
       refine wpAnyH_take (i:=9) (v:=.agg #[.int .i64 (k:Int),.int .i64 tk,.int .i64 tr,.slice tpo tpl tpc,.slice tko tkl tkc]) rfl (by kernel_rfl) (by kernel_rfl) (by kernel_rfl) (fun _ _ _ h=>h) (.inl ⟨rfl,fun w' hS=>by simp [go_sem]⟩) hHeld ?_
       refine wpAnyH_ready (rs:=[10]) (by kernel_rfl) (by simp) ?_
       refine AllReadyH.cons rfl (fun K hK=>?_) AllReadyH.nil
       go_simp
       refine hK.out _ _ (BY.out _ (Kept.alloc k15 _)).1 (fun hHeld=>?_)
       clear hK K
       refine wpAnyH_ready (rs:=[11]) (by kernel_rfl) (by simp) ?_
       refine AllReadyH.cons rfl (fun K hK=>?_) AllReadyH.nil
       refine step_kid (w0:=w5) (by rfl) _ _ (by rfl) (kb+1) l.length us (.slice lo l.length lc) (by rfl) ((Kept.refl _ w5).alloc _) (HRW.out _ k15) (.int .i64 (k:Int)) (.int .i64 tk) (.int .i64 tr) (.slice tpo tpl tpc) (.slice tko tkl tkc) w5.heap.size (by rfl) (heap_alloc_new w5 _) (by rfl) (by rfl) (by rfl) (by rfl) (by rfl) (hzz.out _ k15) hl1000 ?_
       intro g cap w11 r11 k11 hat
       obtain ⟨⟨y1,y2⟩,FF⟩:=FIN.out w4 w5 _ _ _ _ g cap w11 k14 k5 hcs.out r11 k11 hat
       obtain ⟨e11,f11⟩:=FS.out w5 w11 (.slice (some ⟨g,0,none⟩) (l.length+1) cap) k15 k11
       refine hK.out _ _ e11 (fun hHeld=>?_)
       clear hK K
       refine wpAnyH_take (i:=12) (v:=.pointer (some ⟨kb,3,none⟩)) rfl (by kernel_rfl) (by kernel_rfl) (by kernel_rfl) (fun _ _ _ h=>h) (.inl ⟨rfl,fun w' hS=>by simp [go_sem]⟩) hHeld ?_
       refine wpAnyH_ready (rs:=[13]) (by kernel_rfl) (by simp) ?_
       refine AllReadyH.cons rfl (fun K hK=>?_) AllReadyH.nil
       go_simp
       refine hK.out _ _ f11 (fun hHeld=>?_)
       clear hK K
       refine wpAnyH_done (by kernel_rfl) ?_ _
       go_wp2_with fail
       obtain ⟨us', l', z1,z2,z3,z4,z5⟩:=FF.out
       exact ⟨⟨k+1,_,us', l', by omega,by go_num,z1,z2,z3,z4,z5⟩,by simp [intOf];omega⟩
      ·refine step_callx rfl (GE.out w4 vo vc xo xc ni.out) (by simp [go_sem]) ?_
       rintro e w5 ⟨tk,tr,tpo,tpl,tpc,tko,tkl,tkc,rfl,hcs,k5⟩
       refine ⟨_,rfl,?_⟩
       have k15:=k14.trans' k5
       have y5:=(BY.out _ k15).2
       have y6:=(BY.out _ (k15.alloc (.cells #[.int .i64 (k:Int),.int .i64 tk,.int .i64 tr,.slice tpo tpl tpc,.slice tko tkl tkc] 166))).2
       refine hK.out _ _ (BY.out _ k15).1 (fun hHeld=>?_)
       clear hK K
       refine wpAnyH_take (i:=9) (v:=.agg #[.int .i64 (k:Int),.int .i64 tk,.int .i64 tr,.slice tpo tpl tpc,.slice tko tkl tkc]) rfl (by kernel_rfl) (by kernel_rfl) (by kernel_rfl) (fun _ _ _ h=>h) (.inl ⟨rfl,fun w' hS=>by simp [go_sem]⟩) hHeld ?_
       refine wpAnyH_ready (rs:=[1,10]) (by kernel_rfl) (by simp) ?_
       refine AllReadyH.cons rfl (fun K hK=>?_) (AllReadyH.cons rfl (fun K hK=>?_) AllReadyH.nil)
       ·go_simp
        refine hK.out _ _ hHeld (fun hHeld=>?_)
        clear hK K
        refine wpAnyH_ready (rs:=[10]) (by kernel_rfl) (by simp) ?_
        refine AllReadyH.cons rfl (fun K hK=>?_) AllReadyH.nil
        go_simp
        refine hK.out _ _ (BY.out _ (Kept.alloc k15 _)).1 (fun hHeld=>?_)
        clear hK K
        refine wpAnyH_ready (rs:=[11]) (by kernel_rfl) (by simp) ?_
        refine AllReadyH.cons rfl (fun K hK=>?_) AllReadyH.nil
        refine step_kid (w0:=w5) (by rfl) _ _ (by rfl) (kb+1) l.length us (.slice lo l.length lc) (by rfl) ((Kept.refl _ w5).alloc _) (HRW.out _ k15) (.int .i64 (k:Int)) (.int .i64 tk) (.int .i64 tr) (.slice tpo tpl tpc) (.slice tko tkl tkc) w5.heap.size (by rfl) (heap_alloc_new w5 _) (by rfl) (by rfl) (by rfl) (by rfl) (by rfl) (hzz.out _ k15) hl1000 ?_
        intro g cap w11 r11 k11 hat
        obtain ⟨⟨y1,y2⟩,FF⟩:=FIN.out w4 w5 _ _ _ _ g cap w11 k14 k5 hcs.out r11 k11 hat
        obtain ⟨e11,f11⟩:=FS.out w5 w11 (.slice (some ⟨g,0,none⟩) (l.length+1) cap) k15 k11
        refine hK.out _ _ e11 (fun hHeld=>?_)
        clear hK K
        refine wpAnyH_take (i:=12) (v:=.pointer (some ⟨kb,3,none⟩)) rfl (by kernel_rfl) (by kernel_rfl) (by kernel_rfl) (fun _ _ _ h=>h) (.inl ⟨rfl,fun w' hS=>by simp [go_sem]⟩) hHeld ?_
        refine wpAnyH_ready (rs:=[13]) (by kernel_rfl) (by simp) ?_
        refine AllReadyH.cons rfl (fun K hK=>?_) AllReadyH.nil
        go_simp
        refine hK.out _ _ f11 (fun hHeld=>?_)
        clear hK K
        refine wpAnyH_done (by kernel_rfl) ?_ _
        go_wp2_with fail
        obtain ⟨us', l', z1,z2,z3,z4,z5⟩:=FF.out
        exact ⟨⟨k+1,_,us', l', by omega,by go_num,z1,z2,z3,z4,z5⟩,by simp [intOf];omega⟩
       ·go_simp
        refine hK.out _ _ (BY.out _ (Kept.alloc k15 _)).1 (fun hHeld=>?_)
        clear hK K
        refine wpAnyH_ready (rs:=[1]) (by kernel_rfl) (by simp) ?_
        refine AllReadyH.cons rfl (fun K hK=>?_) AllReadyH.nil
        go_simp
        refine hK.out _ _ hHeld (fun hHeld=>?_)
        clear hK K
        refine wpAnyH_ready (rs:=[11]) (by kernel_rfl) (by simp) ?_
        refine AllReadyH.cons rfl (fun K hK=>?_) AllReadyH.nil
        refine step_kid (w0:=w5) (by rfl) _ _ (by rfl) (kb+1) l.length us (.slice lo l.length lc) (by rfl) ((Kept.refl _ w5).alloc _) (HRW.out _ k15) (.int .i64 (k:Int)) (.int .i64 tk) (.int .i64 tr) (.slice tpo tpl tpc) (.slice tko tkl tkc) w5.heap.size (by rfl) (heap_alloc_new w5 _) (by rfl) (by rfl) (by rfl) (by rfl) (by rfl) (hzz.out _ k15) hl1000 ?_
        intro g cap w11 r11 k11 hat
        obtain ⟨⟨y1,y2⟩,FF⟩:=FIN.out w4 w5 _ _ _ _ g cap w11 k14 k5 hcs.out r11 k11 hat
        obtain ⟨e11,f11⟩:=FS.out w5 w11 (.slice (some ⟨g,0,none⟩) (l.length+1) cap) k15 k11
        refine hK.out _ _ e11 (fun hHeld=>?_)
        clear hK K
        refine wpAnyH_take (i:=12) (v:=.pointer (some ⟨kb,3,none⟩)) rfl (by kernel_rfl) (by kernel_rfl) (by kernel_rfl) (fun _ _ _ h=>h) (.inl ⟨rfl,fun w' hS=>by simp [go_sem]⟩) hHeld ?_
        refine wpAnyH_ready (rs:=[13]) (by kernel_rfl) (by simp) ?_
        refine AllReadyH.cons rfl (fun K hK=>?_) AllReadyH.nil
        go_simp
        refine hK.out _ _ f11 (fun hHeld=>?_)
        clear hK K
        refine wpAnyH_done (by kernel_rfl) ?_ _
        go_wp2_with fail
        obtain ⟨us', l', z1,z2,z3,z4,z5⟩:=FF.out
        exact ⟨⟨k+1,_,us', l', by omega,by go_num,z1,z2,z3,z4,z5⟩,by simp [intOf];omega⟩
   ·have HS:Hid (KidsF L n P R c (k+1)=.ok l):=by
     have:=hK.out
     unfold KidsF at this
     show KidsF L n P R c (k+1)=.ok l
     unfold KidsF
     rw [kidsN,this]
     simp only [hhas,decide_false,Bool.false_eq_true,if_false]
    have hl0:(havR R c (k:Int)).length=0:=by omega
    rw [hl0] at CH
    have HK2:Hid (∀ w3,Same0 wr w3→Hid (w3.heap[kb]? = some (.cells #[.int .i64 2,.int .i64 0,.slice qo P[c].length qc,.slice lo l.length lc] 63 (0,0)))∧Hid (w3.ownsRow (kb+1) 166 5 (.slice lo l.length lc) l.length us)∧Hid (KCells (fun b=>kb<b∧(Value.slice lo l.length lc).ownBlock≠some b) w3 n us l)):=fun w3 k3=>⟨k3.at0 hN.out,k3.row hr.out (fun _ _ f=>f),hus.out.kept k3 (fun _ _ f=>f)⟩
    clear hK hN hr hus NI hhas hl0 hll
    go_wp2_with (first | (go_at_call 239;refine CH.mono ?_;rintro e w3 ⟨ho,hcc,rfl,hh,hhn,k3⟩))
    obtain ⟨z1,z2,z3⟩:=HK2.out w3 k3
    exact ⟨⟨k+1,_,us,l,by omega,by go_num,HS,z1,z2,z3,hw.trans' k3⟩,by simp [intOf];omega⟩
  ·obtain rfl:k=L.length:=by omega
   have hN' := hN.out
   have rs:=RS.out wr hw1
   have n0:=cellAt hN' 0
   have n1:=cellAt hN' 1
   have n2:=cellAt hN' 2
   have n3:=cellAt hN' 3
   have q0:=cellAt rs 0
   have q1:=cellAt rs 1
   have q2:=cellAt rs 2
   have q3:=cellAt rs 3
   have f0:=frozenAt rs 0
   have f1:=frozenAt rs 1
   have f2:=frozenAt rs 2
   have f3:=frozenAt rs 3
   simp only [List.getElem?_toArray,List.getElem?_cons_zero,List.getElem?_cons_succ] at n0 n1 n2 n3 q0 q1 q2 q3
   have s3:=setAt (setAt (setAt (setAt rs 0 (.int .i64 2)) 1 (.int .i64 0)) 2 (.slice qo P[c].length qc)) 3 (.slice lo l.length lc)
   have GG:Hid ((((((wr.setCell ⟨w.heap.size+1,0,none⟩ (.int .i64 2)).setCell ⟨w.heap.size+1,1,none⟩ (.int .i64 0)).setCell ⟨w.heap.size+1,2,none⟩ (.slice qo P[c].length qc)).setCell ⟨w.heap.size+1,3,none⟩ (.slice lo l.length lc))).cell? ⟨w.heap.size+1,0,none⟩=some (.int .i64 2)∧(((((wr.setCell ⟨w.heap.size+1,0,none⟩ (.int .i64 2)).setCell ⟨w.heap.size+1,1,none⟩ (.int .i64 0)).setCell ⟨w.heap.size+1,2,none⟩ (.slice qo P[c].length qc)).setCell ⟨w.heap.size+1,3,none⟩ (.slice lo l.length lc))).cell? ⟨w.heap.size+1,1,none⟩=some (.int .i64 0)∧(((((wr.setCell ⟨w.heap.size+1,0,none⟩ (.int .i64 2)).setCell ⟨w.heap.size+1,1,none⟩ (.int .i64 0)).setCell ⟨w.heap.size+1,2,none⟩ (.slice qo P[c].length qc)).setCell ⟨w.heap.size+1,3,none⟩ (.slice lo l.length lc))).cell? ⟨w.heap.size+1,2,none⟩=some (.slice qo P[c].length qc)∧(((((wr.setCell ⟨w.heap.size+1,0,none⟩ (.int .i64 2)).setCell ⟨w.heap.size+1,1,none⟩ (.int .i64 0)).setCell ⟨w.heap.size+1,2,none⟩ (.slice qo P[c].length qc)).setCell ⟨w.heap.size+1,3,none⟩ (.slice lo l.length lc))).cell? ⟨w.heap.size+1,3,none⟩=some (.slice lo l.length lc)):=⟨cellAt s3 0,cellAt s3 1,cellAt s3 2,cellAt s3 3⟩
   have FIN:Hid (TreeOut w (BrF L n P R c) (.returned (.agg #[.int .i64 2,.int .i64 0,.slice qo P[c].length qc,.slice lo l.length lc])) (((((wr.setCell ⟨w.heap.size+1,0,none⟩ (.int .i64 2)).setCell ⟨w.heap.size+1,1,none⟩ (.int .i64 0)).setCell ⟨w.heap.size+1,2,none⟩ (.slice qo P[c].length qc)).setCell ⟨w.heap.size+1,3,none⟩ (.slice lo l.length lc)))):=by
    have e1:BrF L n P R c=.ok (2,0,P.getD c [],l):=by unfold BrF;rw [hK.out]
    rw [e1]
    have kk:Kept (fun q=>q=w.heap.size+1) wr (((((wr.setCell ⟨w.heap.size+1,0,none⟩ (.int .i64 2)).setCell ⟨w.heap.size+1,1,none⟩ (.int .i64 0)).setCell ⟨w.heap.size+1,2,none⟩ (.slice qo P[c].length qc)).setCell ⟨w.heap.size+1,3,none⟩ (.slice lo l.length lc))):=by
     have k1:=Kept.setCell (p:=⟨w.heap.size+1,0,none⟩) (Kept.refl (fun q=>q=w.heap.size+1) wr) (fun _=>rfl) (.int .i64 2)
     have k2:=Kept.setCell (p:=⟨w.heap.size+1,1,none⟩) k1 (fun _=>rfl) (.int .i64 0)
     have k3:=Kept.setCell (p:=⟨w.heap.size+1,2,none⟩) k2 (fun _=>rfl) (.slice qo P[c].length qc)
     exact Kept.setCell (p:=⟨w.heap.size+1,3,none⟩) k3 (fun _=>rfl) (.slice lo l.length lc)
    have hcs:=branch_cs (B:=fun b=>W1.heap.size≤b) hr.out (hus.out.mono (fun b hb q=>by have:=q.1;omega)) (fun b e=>by have:=(hr.out.lt b e).1;omega) (HQ.out wr hw) HQB.out 2 0
    rw [HLP.out]
    refine ⟨_,rfl,CsB.mono (fun b hb q=>by have:=q;omega) (CsB.kept kk (fun b q e=>by have:W1.heap.size≤b:=q;omega) hcs),Kept.trans (KW.trans' hw1) kk (fun i hi e=>by omega)⟩
   clear hN hr hus hN' rs s3 hK
   go_wp2
   obtain ⟨g0,g1,g2,g3⟩:=GG.out
   exact bodyPost_ret (v:=.agg #[.int .i64 2,.int .i64 0,.slice qo P[c].length qc,.slice lo l.length lc]) (by simp [results,Tryz.results184,go_sem,g0,g1,g2,g3]) rfl FIN.out
theorem growF_zero {L:List Sym} {n:Nat} {P:List (List Int)} {R:List Rw} (h:R.length=0):growF L (n+1) P R=.ok (3,0,[],[]):=by
 rw [growF,if_pos h]
theorem growF_branch {L:List Sym} {n:Nat} {P:List (List Int)} {R:List Rw} (h:¬ R.length=0) {c:Nat} (hc:partN R P.length=some c):growF L (n+1) P R=BrF L n P R c:=by
 rw [growF,if_neg h,hc]
 unfold BrF KidsF
 rfl
theorem growF_leaf {L:List Sym} {n:Nat} {P:List (List Int)} {R:List Rw} (h1:R.length=1) (hc:partN R P.length=none):growF L (n+1) P R=.ok (1,(R.headD (0,[],[])).1,[],[]):=by
 rw [growF,if_neg (by omega),hc,if_pos h1]
theorem growF_fork {L:List Sym} {n:Nat} {P:List (List Int)} {R:List Rw} (h:¬ R.length=0) (h1:¬ R.length=1) (hc:partN R P.length=none):growF L (n+1) P R=.error (R.headD (0,[],[])).1:=by
 rw [growF,if_neg h,hc,if_neg h1]
theorem leaf_cs (B:Nat→Prop) (w:World) (n:Nat) (k r:Int):CsB B w (n+1) (.agg #[.int .i64 k,.int .i64 r,.slice none 0 0,.slice none 0 0]) (k,r,[],[]):=
 ⟨none,0,none,0,rfl,⟨.inl rfl,Nat.le_refl _,fun _=>⟨rfl,rfl⟩,by simp⟩,.inl rfl,fun _=>rfl,Nat.le_refl _,.inl rfl⟩
set_option maxHeartbeats 16000000 in
theorem grow_step {L:List Sym} {n:Nat} (IH:GrowIH L n):GrowIH L (n+1):=by
 intro w bs po pc P ro rc R h
 have hle:=h.ok.le
 have CPP:=fun ww (hk:Same0 w ww)=>parting_any (bs:=bs) (po:=po) (pc:=pc) (rc:=rc) (h.rs.same hk) h.ok.rows hle h.ok.few
 have CBB:=fun c (hc:c<P.length) ww (hk:Same0 w ww)=>branch_any IH (rc:=rc) (h.same hk) hc
 obtain ⟨N,hN⟩:∃ N,N=R.length:=⟨_,rfl⟩
 have HN:Hid (N=R.length):=hN
 rw [← hN] at CPP CBB ⊢
 obtain ⟨W1,hW1⟩:∃ W1,W1=(w.alloc (.cells #[.pointer (some ⟨bs,0,none⟩),.slice po P.length pc,.slice ro N rc] 230)).alloc zeroCs:=⟨_,rfl⟩
 have KW:Same0 w W1:=by rw [hW1];exact ((Kept.refl _ w).alloc _).alloc _
 have ez:w.heap.size+1<W1.heap.size:=by rw [hW1];simp
 have HH:Hid (∀ ww,Same0 W1 ww→NdIn ww L (n+1) bs po pc P ro R):=fun ww hk=>h.same (KW.trans' hk)
 have BX:Hid (∀ ww,Same0 W1 ww→ww.cell? ⟨w.heap.size,0,none⟩=some (.pointer (some ⟨bs,0,none⟩))∧ww.cell? ⟨w.heap.size,1,none⟩=some (.slice po P.length pc)∧ww.cell? ⟨w.heap.size,2,none⟩=some (.slice ro N rc)):=fun ww hk=>by
  have hb:W1.heap[w.heap.size]? = some (.cells #[.pointer (some ⟨bs,0,none⟩),.slice po P.length pc,.slice ro N rc] 230 (0,0)):=by rw [hW1];exact heap_alloc2_old _ _ _
  exact ⟨cellAt (hk.at0 hb) 0,cellAt (hk.at0 hb) 1,cellAt (hk.at0 hb) 2⟩
 have RS:Hid (∀ ww,Same0 W1 ww→ww.heap[w.heap.size+1]? = some (.cells #[.int .i64 0,.int .i64 0,.slice none 0 0,.slice none 0 0] 63 (0,0))):=fun ww hk=>hk.at0 (by rw [hW1];exact heap_al_al _ _ _)
 have RC:Hid (∀ ww,Same0 W1 ww→(ww.cell? ⟨w.heap.size+1,0,none⟩=some (.int .i64 0)∧ww.cell? ⟨w.heap.size+1,1,none⟩=some (.int .i64 0)∧ww.cell? ⟨w.heap.size+1,2,none⟩=some (.slice none 0 0)∧ww.cell? ⟨w.heap.size+1,3,none⟩=some (.slice none 0 0))∧ww.frozen? ⟨w.heap.size+1,0,none⟩=false∧ww.frozen? ⟨w.heap.size+1,1,none⟩=false∧ww.frozen? ⟨w.heap.size+1,2,none⟩=false∧ww.frozen? ⟨w.heap.size+1,3,none⟩=false):=fun ww hk=>by
  have rs:=RS.out ww hk
  exact ⟨⟨cellAt rs 0,cellAt rs 1,cellAt rs 2,cellAt rs 3⟩,frozenAt rs 0,frozenAt rs 1,frozenAt rs 2,frozenAt rs 3⟩
 have PUT:Hid (∀ ww x0 x1 x2 x3,Same0 W1 ww→((((((ww.setCell ⟨w.heap.size+1,0,none⟩ x0).setCell ⟨w.heap.size+1,1,none⟩ x1).setCell ⟨w.heap.size+1,2,none⟩ x2).setCell ⟨w.heap.size+1,3,none⟩ x3).cell? ⟨w.heap.size+1,0,none⟩=some x0)∧((((ww.setCell ⟨w.heap.size+1,0,none⟩ x0).setCell ⟨w.heap.size+1,1,none⟩ x1).setCell ⟨w.heap.size+1,2,none⟩ x2).setCell ⟨w.heap.size+1,3,none⟩ x3).cell? ⟨w.heap.size+1,1,none⟩=some x1∧((((ww.setCell ⟨w.heap.size+1,0,none⟩ x0).setCell ⟨w.heap.size+1,1,none⟩ x1).setCell ⟨w.heap.size+1,2,none⟩ x2).setCell ⟨w.heap.size+1,3,none⟩ x3).cell? ⟨w.heap.size+1,2,none⟩=some x2∧((((ww.setCell ⟨w.heap.size+1,0,none⟩ x0).setCell ⟨w.heap.size+1,1,none⟩ x1).setCell ⟨w.heap.size+1,2,none⟩ x2).setCell ⟨w.heap.size+1,3,none⟩ x3).cell? ⟨w.heap.size+1,3,none⟩=some x3)∧Kept (fun q=>q=w.heap.size+1) ww ((((ww.setCell ⟨w.heap.size+1,0,none⟩ x0).setCell ⟨w.heap.size+1,1,none⟩ x1).setCell ⟨w.heap.size+1,2,none⟩ x2).setCell ⟨w.heap.size+1,3,none⟩ x3)∧Same0 w ((((ww.setCell ⟨w.heap.size+1,0,none⟩ x0).setCell ⟨w.heap.size+1,1,none⟩ x1).setCell ⟨w.heap.size+1,2,none⟩ x2).setCell ⟨w.heap.size+1,3,none⟩ x3)):=by
  intro ww x0 x1 x2 x3 hk
  have rs:=RS.out ww hk
  have s3:=setAt (setAt (setAt (setAt rs 0 x0) 1 x1) 2 x2) 3 x3
  have k1:=Kept.setCell (p:=⟨w.heap.size+1,0,none⟩) (Kept.refl (fun q=>q=w.heap.size+1) ww) (fun _=>rfl) x0
  have k2:=Kept.setCell (p:=⟨w.heap.size+1,1,none⟩) k1 (fun _=>rfl) x1
  have k3:=Kept.setCell (p:=⟨w.heap.size+1,2,none⟩) k2 (fun _=>rfl) x2
  have k4:=Kept.setCell (p:=⟨w.heap.size+1,3,none⟩) k3 (fun _=>rfl) x3
  exact ⟨⟨cellAt s3 0,cellAt s3 1,cellAt s3 2,cellAt s3 3⟩,k4,Kept.trans (KW.trans' hk) k4 (fun i hi e=>by omega)⟩
 have CP:=CPP W1 KW
 obtain ⟨b0,b1,b2⟩:=BX.out W1 (Kept.refl _ _)
 have HR0:Hid (0<R.length→∃ b off,ro=some ⟨b,off,none⟩∧∀ ww,Same0 W1 ww→ww.cell? ⟨b,off,none⟩=some (.int .i64 (R.headD (0,[],[])).1)):=fun hp=>by
  obtain ⟨b,off,e,hb,ao,ac,bo,bc,r0,_⟩:=h.rs.get hp
  refine ⟨b,off,e,fun ww hk=>?_⟩
  have r0' : w.cell? ⟨b,off,none⟩=some (.int .i64 R[0].1):=by simpa using r0
  have e2:R.headD (0,[],[])=R[0]:=by
   cases R with
   | nil=>simp at hp
   | cons x r=>rfl
  rw [e2]
  exact ((KW.trans' hk).cell (p:=⟨b,off,none⟩) hb (fun f=>f)).trans r0'
 by_cases h0:N=0
 ·have hg:=growF_zero (L:=L) (n:=n) (P:=P) (by rw [← HN.out];exact h0)
  rw [hg]
  clear h hg HH CPP CBB HN hN HR0
  subst h0
  generalize partI R P.length=z at *
  go_enter Tryz.func134,Tryz.ntmps134
  go_upto_region 1 with fail
  rw [← hW1]
  clear hW1
  go_upto_region 3 with (first | (go_at_call 183;refine CP.mono ?_;rintro e w2 ⟨rfl,k2⟩;obtain ⟨c0,c1,c2⟩:=BX.out w2 k2;obtain ⟨⟨r0,r1,r2,r3⟩,f0,f1,f2,f3⟩:=RC.out w2 k2))
  go_wp2
  obtain ⟨⟨g0,g1,g2,g3⟩,kk,ks⟩:=PUT.out w2 (.int .i64 3) (.int .i64 0) (.slice none 0 0) (.slice none 0 0) k2
  exact bodyPost_ret (v:=.agg #[.int .i64 3,.int .i64 0,.slice none 0 0,.slice none 0 0]) (by simp [results,Tryz.results134,go_sem,g0,g1,g2,g3]) rfl ⟨_,rfl,leaf_cs _ _ _ _ _,ks⟩
 ·have hb0:((N:Int) == 0)=false:=by simpa using h0
  have hR0:¬ R.length=0:=by rw [← HN.out];exact h0
  cases hp:partN R P.length with
  | some c=>
   obtain ⟨hc,_⟩:=partN_some hp
   have hz:partI R P.length=(c:Int):=by unfold partI;rw [hp]
   rw [hz] at CP
   rw [growF_branch hR0 hp]
   have i1:(0:Int)≤(c:Int):=by omega
   have CB:Hid (∀ ww,Same0 W1 ww→Calls Tryz.prog 184 #[.agg #[.pointer (some ⟨bs,0,none⟩),.slice po P.length pc,.slice ro N rc],.int .i64 (c:Int)] ww (TreeOut ww (BrF L n P R c))):=fun ww hk=>CBB c hc ww (KW.trans' hk)
   cases hbr:BrF L n P R c with
   | ok t=>
    rw [hbr] at CB
    have CB2:Hid (∀ ww,Same0 W1 ww→Calls Tryz.prog 184 #[.agg #[.pointer (some ⟨bs,0,none⟩),.slice po P.length pc,.slice ro N rc],.int .i64 (c:Int)] ww fun e w' => ∃ tk tr tpo tpl tpc tko tkl tkc,e=.returned (.agg #[.int .i64 tk,.int .i64 tr,.slice tpo tpl tpc,.slice tko tkl tkc])∧Hid (CsB (fun b=>ww.heap.size≤b) w' (n+1) (.agg #[.int .i64 tk,.int .i64 tr,.slice tpo tpl tpc,.slice tko tkl tkc]) t)∧Same0 ww w'):=fun ww hk=>by
     refine (CB.out ww hk).mono ?_
     rintro e w' ⟨v,rfl,h1,h2⟩
     obtain ⟨tk,tr,tpo,tpl,tpc,tko,tkl,tkc,rfl⟩:=h1.shape
     exact ⟨tk,tr,tpo,tpl,tpc,tko,tkl,tkc,rfl,h1,h2⟩
    clear h HH CPP CBB HN hN hR0 CB hbr hp hz h0 HR0
    go_enter Tryz.func134,Tryz.ntmps134
    go_upto_region 1 with fail
    rw [← hW1]
    clear hW1
    go_upto_region 5 with (first | (go_at_call 183;refine CP.mono ?_;rintro e w2 ⟨rfl,k2⟩;obtain ⟨c0,c1,c2⟩:=BX.out w2 k2))
    have CB3:=CB2.out w2 k2
    go_wp2_with (first | (go_at_call 184;refine CB3.mono ?_;rintro e w3 ⟨tk,tr,tpo,tpl,tpc,tko,tkl,tkc,rfl,hcs,k3⟩;obtain ⟨⟨r0,r1,r2,r3⟩,f0,f1,f2,f3⟩:=RC.out w3 (k2.trans' k3)))
    obtain ⟨⟨g0,g1,g2,g3⟩,kk,ks⟩:=PUT.out w3 (.int .i64 tk) (.int .i64 tr) (.slice tpo tpl tpc) (.slice tko tkl tkc) (k2.trans' k3)
    have z2:=k2.size
    exact bodyPost_ret (v:=.agg #[.int .i64 tk,.int .i64 tr,.slice tpo tpl tpc,.slice tko tkl tkc]) (by simp [results,Tryz.results134,go_sem,g0,g1,g2,g3]) rfl ⟨_,rfl,CsB.mono (fun b hb q=>by have:w2.heap.size≤b:=q;omega) (CsB.kept kk (fun b q e=>by have:w2.heap.size≤b:=q;omega) hcs.out),ks⟩
   | error z=>
    rw [hbr] at CB
    have CB2:Hid (∀ ww,Same0 W1 ww→Calls Tryz.prog 184 #[.agg #[.pointer (some ⟨bs,0,none⟩),.slice po P.length pc,.slice ro N rc],.int .i64 (c:Int)] ww fun e w' => ∃ b,e=.panicked [{ v:=.iface 141 (.pointer (some ⟨b,0,none⟩)),recovered:=false }]∧Hid (w'.heap[b]? = some (.cells #[.int .i64 82,.int .i64 z,.nilIface] 143 (0,0)))∧Same0 ww w'):=fun ww hk=>by
     refine (CB.out ww hk).mono ?_
     rintro e w' ⟨⟨b,h1,h2⟩,h3⟩
     exact ⟨b,h1,h2,h3⟩
    clear h HH CPP CBB HN hN hR0 CB hbr hp hz h0 HR0
    go_enter Tryz.func134,Tryz.ntmps134
    go_upto_region 1 with fail
    rw [← hW1]
    clear hW1
    go_upto_region 5 with (first | (go_at_call 183;refine CP.mono ?_;rintro e w2 ⟨rfl,k2⟩;obtain ⟨c0,c1,c2⟩:=BX.out w2 k2))
    have CB3:=CB2.out w2 k2
    go_wp2_with (first | (go_at_call 184;refine CB3.mono ?_;rintro e w3 ⟨b,rfl,hb,k3⟩))
    exact ⟨rfl,⟨b,rfl,hb.out⟩,(KW.trans' k2).trans' k3⟩
  | none=>
   have hz:partI R P.length = -1:=by unfold partI;rw [hp]
   rw [hz] at CP
   obtain ⟨rb,roff,rfl,HRC⟩:=HR0.out (by omega)
   have HRD:Hid (∀ ww,Same0 W1 ww→ww.cell? ⟨rb,roff,none⟩=some (.int .i64 (R.headD (0,[],[])).1)):=HRC
   have i1:(0:Int)<(N:Int):=by omega
   by_cases h1:N=1
   ·rw [growF_leaf (by rw [← HN.out];exact h1) hp]
    have hb1:((N:Int) == 1)=true:=by subst h1;rfl
    clear h HH CPP CBB HN hN hR0 hp hz h0 HRC HR0 h1
    generalize (R.headD (0,[],[])).1=z at *
    go_enter Tryz.func134,Tryz.ntmps134
    go_upto_region 1 with fail
    rw [← hW1]
    clear hW1
    go_upto_region 7 with (first | (go_at_call 183;refine CP.mono ?_;rintro e w2 ⟨rfl,k2⟩;obtain ⟨c0,c1,c2⟩:=BX.out w2 k2))
    obtain ⟨⟨r0,r1,r2,r3⟩,f0,f1,f2,f3⟩:=RC.out w2 k2
    have d0:=HRD.out w2 k2
    go_wp2
    obtain ⟨⟨g0,g1,g2,g3⟩,kk,ks⟩:=PUT.out w2 (.int .i64 1) (.int .i64 z) (.slice none 0 0) (.slice none 0 0) k2
    exact bodyPost_ret (v:=.agg #[.int .i64 1,.int .i64 z,.slice none 0 0,.slice none 0 0]) (by simp [results,Tryz.results134,go_sem,g0,g1,g2,g3]) rfl ⟨_,rfl,leaf_cs _ _ _ _ _,ks⟩
   ·rw [growF_fork hR0 (by rw [← HN.out];exact h1) hp]
    have hb1:((N:Int) == 1)=false:=by simp;omega
    clear h HH CPP CBB HN hN hR0 hp hz h0 HRC HR0 h1
    generalize (R.headD (0,[],[])).1=z at *
    go_enter Tryz.func134,Tryz.ntmps134
    go_upto_region 1 with fail
    rw [← hW1]
    clear hW1
    go_upto_region 8 with (first | (go_at_call 183;refine CP.mono ?_;rintro e w2 ⟨rfl,k2⟩;obtain ⟨c0,c1,c2⟩:=BX.out w2 k2))
    have d0:=HRD.out w2 k2
    go_wp2
    exact ⟨rfl,⟨_,rfl,heap_alloc_new w2 _⟩,Kept.alloc (KW.trans' k2) _⟩
theorem tgrow_any (L:List Sym):∀ n,GrowIH L n
 | 0=>fun w bs po pc P ro rc R h=>absurd h.ok.pos (Nat.lt_irrefl 0)
 | n+1=>grow_step (tgrow_any L n)
end Go.Proofs.YtflcpepjmonlpaaGreatDoor
