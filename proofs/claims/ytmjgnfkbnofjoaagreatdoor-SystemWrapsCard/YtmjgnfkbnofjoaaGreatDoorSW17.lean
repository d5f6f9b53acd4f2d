import Derived.Test.YtmjgnfkbnofjoaaGreatDoorSW16
import Derived.Deep.RegionLaw
import Derived.Deep.CutRange
import Derived.BigRegion
import Derived.Test.YtmjgnfkbnofjoaaGreatDoorSW04
import Derived.Test.YtmjgnfkbnofjoaaGreatDoorSW05
namespace Go.Proofs.YtmjgnfkbnofjoaaGreatDoor
set_option maxRecDepth 100000
set_option linter.unusedVariables false
open Go.RowKit
attribute [local go_sem ↓] Go.wp_at_zero Go.wp_at_succ
def flatP (ps:List (Nat × Nat)):List Int:=ps.flatMap (fun r=>[(r.1:Int),(r.2:Int)])
def pairsI (ps:List (Nat × Nat)):List Int:=flatP ps.reverse
theorem flatP_len (ps:List (Nat × Nat)):(flatP ps).length=2 * ps.length:=by
 induction ps with
 | nil=>rfl
 | cons r ps ih=>simp [flatP] at ih ⊢;omega
theorem flatP_append (a b:List (Nat × Nat)):flatP (a++b)=flatP a++flatP b:=by simp [flatP]
theorem pairsI_len (ps:List (Nat × Nat)):(pairsI ps).length=2 * ps.length:=by rw [pairsI,flatP_len,List.length_reverse]
theorem pairsI_cons (y x:Nat) (ps:List (Nat × Nat)):pairsI ((y,x) :: ps)=pairsI ps ++ [(y:Int),(x:Int)]:=by
 unfold pairsI;rw [List.reverse_cons,flatP_append];rfl
theorem pairsI_more (a ps:List (Nat × Nat)):pairsI (a++ps)=pairsI ps++flatP a.reverse:=by
 unfold pairsI;rw [List.reverse_append,flatP_append]
theorem zip_take {l m:List Nat} (h:l.length=m.length) {i:Nat} (hi:i<l.length):flatP ((l.zip m).take (i+1))=flatP ((l.zip m).take i) ++ [(l[i]:Int),(m[i]'(by omega):Int)]:=by
 rw [List.take_add_one,zip_at h hi,flatP_append];rfl
def NAt (L:List Sym) (ap:Bool) (B:NB) (w:World) (T J:List Int) (ld:Int→Int):Prop:=∃ up rep cl ρ,NC L B w T J up rep∧NR ap J up rep cl ρ ld
theorem NAt.kept {L:List Sym} {ap:Bool} {S:Nat→Prop} {w w' : World} {B:NB} {T J:List Int} {ld:Int→Int} (h:NAt L ap B w T J ld) (hk:Kept S w w') (hs:∀ k,k<B.top→¬ S k):NAt L ap B w' T J ld:=by
 obtain ⟨up,rep,cl,ρ,h1,h2⟩:=h
 exact ⟨up,rep,cl,ρ,h1.kept hk hs,h2⟩
structure NRel (L:List Sym) (ap:Bool) (B:NB) (T J:List Int) (res:Option (Int→Int)) (w0:World) (k:Nat) (wr:World) (v:Value) (ld:Int→Int) (ps:List (Nat × Nat)):Prop where
 u:NOk L J res k ld ps
 j:NAt L ap B wr T J ld
 row:Row w0.heap.size wr v (pairsI ps)
 kept:Kept B.Two w0 wr
def NEnd (L:List Sym) (ap:Bool) (B:NB) (T J:List Int) (res:Option (Int→Int)) (w:World) (e:Ending) (w' : World):Prop:=(∀ ld', res=some ld' → e=.returned (.bool true)∧NAt L ap B w' T J ld')∧(res=none→e=.returned (.bool false))∧Kept B.Two w w'
theorem net_step {L:List Sym} {ap:Bool} {w:World} {B:NB} {T J:List Int} {up:Nat→Nat} {rep:Nat→Int} {cl ρ:Nat→Nat} {ld:Int→Int} (h:NC L B w T J up rep) (hr:NR ap J up rep cl ρ ld) {x y:Nat} (hx:x<J.length) (hy:y<J.length) (hne:cl x≠cl y) :
  (rep (cl x)<0→ld x<0)∧(¬ rep (cl x)<0→ld x=rep (cl x))∧(rep (cl y)<0→ld y<0)∧(¬ rep (cl y)<0→ld y=rep (cl y)) ∧
  (rep (cl y)<0→NAt L ap B ((w.setCell ⟨B.ub,cl x,none⟩ (.int .i64 (cl y:Int))).setCell ⟨B.rb,cl y,none⟩ (.int .i64 (rep (cl x)))) T J (if ld x<0 then un (ld x) (ld y) ld else un (ld y) (ld x) ld)) ∧
  (¬ rep (cl y)<0→NAt L ap B (w.setCell ⟨B.ub,cl x,none⟩ (.int .i64 (cl y:Int))) T J (un (ld x) (ld y) ld)) ∧
  Kept B.Two w (w.setCell ⟨B.ub,cl x,none⟩ (.int .i64 (cl y:Int)))∧Kept B.Two w ((w.setCell ⟨B.ub,cl x,none⟩ (.int .i64 (cl y:Int))).setCell ⟨B.rb,cl y,none⟩ (.int .i64 (rep (cl x)))):=by
 have vx:VNode ap J.length x:=.inl hx
 have vy:VNode ap J.length y:=.inl hy
 have lx:=hr.led x vx
 have ly:=hr.led y vy
 rw [pt_place hx] at lx
 rw [pt_place hy] at ly
 have rx:=hr.reps _ (hr.cnode x vx) (hr.idem x vx)
 have ry:=hr.reps _ (hr.cnode y vy) (hr.idem y vy)
 have x1:rep (cl x)<0→ld x<0:=fun f=>by
  rw [lx,if_pos f]
  rcases rx with ⟨_,a⟩ | ⟨p,a,_⟩
  ·exact pt_neg a
  ·omega
 have y1:rep (cl y)<0→ld y<0:=fun f=>by
  rw [ly,if_pos f]
  rcases ry with ⟨_,a⟩ | ⟨p,a,_⟩
  ·exact pt_neg a
  ·omega
 have x2:¬ rep (cl x)<0→ld x=rep (cl x):=fun f=>by rw [lx,if_neg f]
 have y2:¬ rep (cl y)<0→ld y=rep (cl y):=fun f=>by rw [ly,if_neg f]
 have k1:Kept B.Two w (w.setCell ⟨B.ub,cl x,none⟩ (.int .i64 (cl y:Int))):=Kept.setCell (S:=B.Two) (p:=⟨B.ub,cl x,none⟩) (Kept.refl _ _) (fun _=>.inl rfl) _
 have k1' : Kept (fun k=>k=B.ub) w (w.setCell ⟨B.ub,cl x,none⟩ (.int .i64 (cl y:Int))):=Kept.setCell (S:=fun k=>k=B.ub) (p:=⟨B.ub,cl x,none⟩) (Kept.refl _ _) (fun _=>rfl) _
 have k2:Kept B.Two w ((w.setCell ⟨B.ub,cl x,none⟩ (.int .i64 (cl y:Int))).setCell ⟨B.rb,cl y,none⟩ (.int .i64 (rep (cl x)))):=k1.setCell (p:=⟨B.rb,cl y,none⟩) (fun _=>.inr rfl) _
 have k2' : Kept (fun k=>k=B.rb) (w.setCell ⟨B.ub,cl x,none⟩ (.int .i64 (cl y:Int))) ((w.setCell ⟨B.ub,cl x,none⟩ (.int .i64 (cl y:Int))).setCell ⟨B.rb,cl y,none⟩ (.int .i64 (rep (cl x)))):=Kept.setCell (S:=fun k=>k=B.rb) (p:=⟨B.rb,cl y,none⟩) (Kept.refl _ _) (fun _=>rfl) _
 obtain ⟨cl', ρ', hj⟩:=hr.join (hr.cnode x vx) (hr.cnode y vy) (hr.idem x vx) (hr.idem y vy) hne
 have u1:Nums (w.setCell ⟨B.ub,cl x,none⟩ (.int .i64 (cl y:Int))) B.ub (J.length+200) (fun i=>((if i=cl x then cl y else up i:Nat):Int)):=(h.ups.set (cl x) (cl y:Int)).congr (fun i _=>by by_cases e:i=cl x <;> simp [e])
 have r1:=h.reps.kept k1' (fun e=>h.n4 e.symm)
 refine ⟨x1,x2,y1,y2,fun hg=>?_,fun hg=>?_,k1,k2⟩
 ·refine ⟨_,fun k=>if k=cl y then (if rep (cl y)<0 then rep (cl x) else rep (cl y)) else rep k,cl', ρ', h.two k2 (u1.kept k2' h.n4) ((r1.set (cl y) (rep (cl x))).congr (fun i _=>?_)),?_⟩
  ·simp only [if_pos hg]
  ·have ly' : ld y=ptN ap J.length (cl y):=by rw [ly,if_pos hg]
   have hE:(if ld x<0 then un (ld x) (ld y) ld else un (ld y) (ld x) ld)=(if rep (cl x)<0 then un (ptN ap J.length (cl x)) (if rep (cl y)<0 then ptN ap J.length (cl y) else rep (cl y)) ld else if rep (cl y)<0 then un (ptN ap J.length (cl y)) (rep (cl x)) ld else un (rep (cl x)) (rep (cl y)) ld):=by
    by_cases hf:rep (cl x)<0
    ·have lx' : ld x=ptN ap J.length (cl x):=by rw [lx,if_pos hf]
     rw [if_pos (x1 hf),if_pos hf,if_pos hg,lx', ly']
    ·have lx' := x2 hf
     have hn:¬ ld x<0:=by
      rcases rx with ⟨a,_⟩ | ⟨p,a,_⟩
      ·omega
      ·omega
     rw [if_neg hn,if_neg hf,if_pos hg,lx', ly']
   rw [hE];exact hj
 ·refine ⟨_,fun k=>if k=cl y then (if rep (cl y)<0 then rep (cl x) else rep (cl y)) else rep k,cl', ρ', h.two k1 u1 (r1.congr (fun i _=>?_)),?_⟩
  ·by_cases e:i=cl y
   ·simp only [e,if_true,if_neg hg]
   ·simp only [e,if_false]
  ·have ly' := y2 hg
   have hE:un (ld x) (ld y) ld=(if rep (cl x)<0 then un (ptN ap J.length (cl x)) (if rep (cl y)<0 then ptN ap J.length (cl y) else rep (cl y)) ld else if rep (cl y)<0 then un (ptN ap J.length (cl y)) (rep (cl x)) ld else un (rep (cl x)) (rep (cl y)) ld):=by
    by_cases hf:rep (cl x)<0
    ·have lx' : ld x=ptN ap J.length (cl x):=by rw [lx,if_pos hf]
     rw [if_pos hf,if_neg hg,lx', ly']
    ·have lx' := x2 hf
     rw [if_neg hf,if_neg hg,lx', ly']
   rw [hE];exact hj
theorem info_intN:(Tryz.prog.info? 3).map (fun i=>(i.zero,i.size,i.bytes))=some (some (.int .i64 0),1,8):=by kernel_rfl
theorem pair_row {base:Nat} {w:World} {v:Value} {y x:Nat} {ps:List (Nat × Nat)} (h:Row base w v (pairsI ((y,x) :: ps))):∃ g cap,v=.slice (some ⟨g,0,none⟩) (2 * ps.length+2) cap∧base≤g∧g<w.heap.size∧2 * ps.length+2≤cap∧w.cell? ⟨g,2 * ps.length,none⟩=some (.int .i64 (y:Int))∧w.cell? ⟨g,2 * ps.length+1,none⟩=some (.int .i64 (x:Int))∧Row base w (.slice (some ⟨g,0,none⟩) (2 * ps.length) cap) (pairsI ps):=by
 have hl:(pairsI ((y,x) :: ps)).length=2 * ps.length+2:=by rw [pairsI_len,List.length_cons];omega
 obtain ⟨g,cap,hv,hb,hlt⟩:=World.ownsRow.form h (by rw [hl];omega)
 rw [hl] at hv
 have hcap:2 * ps.length+2≤cap:=by
  rcases h.2 with ⟨e,_⟩ | ⟨g', cap', cur,hv', _,_,hle,_⟩
  ·rw [hv] at e;cases e
  ·rw [hv,hl] at hv'
   simp only [Value.slice.injEq] at hv'
   have:=hv'.2.2
   rw [hl] at hle;omega
 subst hv
 have h' : w.ownsRow base 3 1 (.slice (some ⟨g,0,none⟩) (2 * ps.length+2) cap) (2 * ps.length+2) (iv (pairsI ps) ++ [.int .i64 (y:Int),.int .i64 (x:Int)]):=by
  have:iv (pairsI ps) ++ [Value.int .i64 (y:Int),.int .i64 (x:Int)]=iv (pairsI ((y,x) :: ps)):=by rw [pairsI_cons,iv_append];rfl
  have h0:w.ownsRow base 3 1 (.slice (some ⟨g,0,none⟩) (2 * ps.length+2) cap) (pairsI ((y,x) :: ps)).length (iv (pairsI ((y,x) :: ps))):=h
  rw [hl] at h0
  rw [this];exact h0
 have l2:(iv (pairsI ps)).length=2 * ps.length:=by rw [iv_length,pairsI_len]
 refine ⟨g,cap,rfl,hb,hlt,hcap,?_,?_,?_⟩
 ·rw [h'.cellAt _ (by omega),List.getElem?_append_right (by omega),l2];simp
 ·rw [h'.cellAt _ (by omega),List.getElem?_append_right (by omega),l2];simp
 ·have:=row_take (m:=2 * ps.length) h' (by omega)
  rw [Nat.mul_one,List.take_left' l2] at this
  show w.ownsRow base 3 1 _ (pairsI ps).length _
  rw [pairsI_len];exact this
theorem pair_new (w:World) (x y:Nat):Row w.heap.size (w.alloc (.cells #[.int .i64 (x:Int),.int .i64 (y:Int)] 3)) (.slice (some ⟨w.heap.size,0,none⟩) 2 2) (pairsI [(x,y)]):=
 ⟨rfl,.inr ⟨w.heap.size,2,_,rfl,Nat.le_refl _,heap_alloc_new _ _,Nat.le_refl _,by decide,rfl,rfl⟩⟩
theorem kids_ints {L:List Sym} {w:World} {B:NB} {T J:List Int} {up:Nat→Nat} {rep:Nat→Int} (h:NC L B w T J up rep) {p:Nat} (hp:p<J.length) {k:Nat} (hk:k<(kidsL L J p).length):∃ gb off gc,w.cell? ⟨B.ab,p,none⟩=some (.slice (some ⟨gb,off,none⟩) (kidsL L J p).length gc)∧w.cell? ⟨gb,off+k,none⟩=some (.int .i64 ((kidsL L J p)[k]:Nat))∧gb<B.top:=by
 obtain ⟨go,gc,a1,a2,a3⟩:=h.args p hp
 obtain ⟨gb,off,rfl,b1,b2⟩:=a2.get (i:=k) (by simpa using hk)
 exact ⟨gb,off,gc,a1,by simpa using b2,(a3 _ rfl).2⟩
theorem net_up {L:List Sym} {w:World} {B:NB} {T J:List Int} {up:Nat→Nat} {rep:Nat→Int} (h:NC L B w T J up rep) (p q:Nat):NC L B (w.setCell ⟨B.ub,p,none⟩ (.int .i64 (q:Int))) T J (fun i=>if i=p then q else up i) rep:=by
 have k1:Kept B.Two w (w.setCell ⟨B.ub,p,none⟩ (.int .i64 (q:Int))):=Kept.setCell (S:=B.Two) (p:=⟨B.ub,p,none⟩) (Kept.refl _ _) (fun _=>.inl rfl) _
 have k1' : Kept (fun k=>k=B.ub) w (w.setCell ⟨B.ub,p,none⟩ (.int .i64 (q:Int))):=Kept.setCell (S:=fun k=>k=B.ub) (p:=⟨B.ub,p,none⟩) (Kept.refl _ _) (fun _=>rfl) _
 exact h.two k1 ((h.ups.set p (q:Int)).congr (fun i _=>by by_cases e:i=p <;> simp [e])) (h.reps.kept k1' (fun e=>h.n4 e.symm))
set_option maxHeartbeats 8000000 in
theorem njoin_any {L:List Sym} {ap:Bool} {w:World} {B:NB} {T J:List Int} {ld:Int→Int} {res:Option (Int→Int)} (h:NAt L ap B w T J ld) {a m n:Nat} (hJ:J.length≤4000) (hT:∀ p:Nat,p<J.length→0≤at' J p→at' T p=at' J p) (htop:B.top≤w.heap.size) (hu:NOk L J res n ld [(a,m)]) :
  Calls Tryz.prog 226 #[.pointer (some ⟨B.nb,0,none⟩),.int .i64 (a:Int),.int .i64 (m:Int)] w (NEnd L ap B T J res w):=by
 obtain ⟨i0,hi0,hz0,hz1,hz2⟩:=info_parts info_intN
 have U0:NRel L ap B T J res w n (w.alloc (.cells #[.int .i64 (a:Int),.int .i64 (m:Int)] 3)) (.slice (some ⟨w.heap.size,0,none⟩) 2 2) ld [(a,m)]:=
  ⟨hu,h.kept (S:=fun _=>False) (Kept.alloc (Kept.refl _ w) _) (fun _ _ f=>f),pair_new w a m,Kept.alloc (Kept.refl _ w) _⟩
 have htb:∀ k,w.heap.size≤k→¬ B.Two k:=by
  obtain ⟨up,rep,cl,ρ,hC,_⟩:=h
  intro k hk f
  rcases f with e | e
  ·have:=hC.t4;omega
  ·have:=hC.t5;omega
 clear h hu
 go_enter Tryz.func226,Tryz.ntmps226
 go_wp2_with fail
 go_loopg [7] n (fun k s7 wr=>∃ ld ps,NRel L ap B T J res w k wr s7 ld ps)
 case atStart=>exact ⟨ld,_,U0⟩
 case round=>
  clear U0
  obtain ⟨ld,ps,hU⟩:=hrel
  cases ps with
  | nil=>
   obtain ⟨vo,vcap,hvv⟩:=row_shape hU.row
   have hl0:(pairsI []).length=0:=rfl
   rw [hl0] at hvv
   subst hvv
   have e1:=hU.u.nil
   have fin:NEnd L ap B T J res w (.returned (.bool true)) wr:=⟨fun ld' e=>⟨rfl,by rw [e1] at e;cases e;exact hU.j⟩,fun e=>(by rw [e1] at e;cases e),hU.kept⟩
   clear hU e1
   go_wp2_with fail
   go_returns
   exact fin
  | cons r ps=>
   obtain ⟨y,x⟩:=r
   obtain ⟨g,cap,rfl,hg1,hg2,hcap,q0,q1,hrow⟩:=pair_row hU.row
   obtain ⟨up,rep,cl,ρ,hC,hR⟩:=hU.j
   obtain ⟨t2,t1⟩:=hU.u.pairs (y,x) (by simp)
   simp only at t1 t2
   have vx:VNode ap J.length x:=.inl t1
   have vy:VNode ap J.length y:=.inl t2
   have cX:=class_any hC hR vx
   have cY:=class_any hC hR vy
   obtain ⟨k', hk', S1,S2,S3,S4,S5⟩:=hU.u.step
   have hpl:2 * ps.length≤40000000:=by
    have:=hU.u.len
    rw [List.length_cons] at this
    have h2:(J.length+1) * J.length≤4001 * 4000:=Nat.mul_le_mul (by omega) hJ
    omega
   have hK:=hU.kept
   obtain ⟨l,hl⟩:∃ l,2 * ps.length=l:=⟨_,rfl⟩
   rw [hl] at q0 q1 hcap hpl hrow ⊢
   have j0:(0:Int)≤(l:Int):=by omega
   have j1:(l:Int)+1<((l+2:Nat):Int):=by omega
   have j2:(l:Int)<((l+2:Nat):Int):=by omega
   have j3:(l:Int)≤(cap:Int):=by omega
   have j4:(l:Int)≤40000000:=by omega
   by_cases hne:cl x=cl y
   ·have hN:=S1 (by have:=(hR.eq vx vy).1 hne;rwa [pt_place t1,pt_place t2] at this)
    have hrow' : Row w.heap.size wr (.slice (some ⟨g,0,none⟩) l cap) (pairsI ps):=hrow
    have hj:NAt L ap B wr T J ld:=⟨up,rep,cl,ρ,hC,hR⟩
    rw [hne] at cX
    clear S1 S2 S3 S4 S5 hC hR hrow hU
    go_upto_region 4 with (first | (go_at_call 234;refine cX.mono ?_;rintro e w' ⟨rfl,hw'⟩;obtain rfl:wr=w' := hw'.symm))
    go_wp2_with (first | (go_at_call 234;refine cY.mono ?_;rintro e w' ⟨rfl,hw'⟩;obtain rfl:wr=w' := hw'.symm))
    go_roundg k'
    case measure=>omega
    case rel=>exact ⟨ld,ps,hN,hj,hrow', hK⟩
   ·obtain ⟨x1,x2,y1,y2,NA,NBB,K1,K2⟩:=net_step hC hR t1 t2 hne
    have hxy:ld x≠ld y:=fun e=>hne ((hR.eq vx vy).2 (by rw [pt_place t1,pt_place t2];exact e))
    have N5:=net_up hC (cl x) (cl y)
    have lx:=vn_lt (hR.cnode x vx)
    have ly:=vn_lt (hR.cnode y vy)
    have rx:=hR.reps _ (hR.cnode x vx) (hR.idem x vx)
    have ry:=hR.reps _ (hR.cnode y vy) (hR.idem y vy)
    obtain ⟨c1,c2,c3,c4⟩:=hC.cells
    have f1:=(hC.reps.cell lx).1
    have f2:=(hC.reps.cell ly).1
    obtain ⟨u1,u2⟩:=hC.ups.cell lx
    obtain ⟨f,hf⟩:∃ f,rep (cl x)=f:=⟨_,rfl⟩
    obtain ⟨h', hh⟩:∃ f,rep (cl y)=f:=⟨_,rfl⟩
    have N5r:=N5.reps.cell ly
    rw [hf] at x1 x2 NA f1 rx K2
    rw [hh] at y1 y2 NA NBB f2 ry N5r
    have lx' := hU.u.ok.sym x (part_nat t1)
    have ly' := hU.u.ok.sym y (part_nat t2)
    have part_x:=(hU.u.ok.part x (part_nat t1)).2
    have part_y:=(hU.u.ok.part y (part_nat t2)).2
    obtain ⟨P,hP⟩:∃ P,cl x=P:=⟨_,rfl⟩
    obtain ⟨Q,hQ⟩:∃ Q,cl y=Q:=⟨_,rfl⟩
    rw [hP] at cX NA NBB K1 K2 N5 f1 u1 u2 lx N5r
    rw [hQ] at cY NA NBB K1 K2 N5 f2 ly N5r
    have hPQ:¬ P=Q:=by rw [← hP,← hQ];exact hne
    have hPQi:¬ (P:Int)=(Q:Int):=by omega
    have j5:(0:Int)≤(P:Int):=by omega
    have j6:(P:Int)<((J.length+200:Nat):Int):=by omega
    have j7:(0:Int)≤(Q:Int):=by omega
    have j8:(Q:Int)<((J.length+200:Nat):Int):=by omega
    obtain ⟨e1,e2,e3,e4⟩:=N5.cells
    have hrowS:∀ w6,Kept B.Two wr w6→Row w.heap.size w6 (.slice (some ⟨g,0,none⟩) l cap) (pairsI ps):=fun w6 hk=>hk.row hrow (fun k e=>by simp [Value.ownBlock] at e;subst e;exact htb g hg1)
    have HRS:Hid (∀ w6,Kept B.Two wr w6→Row w.heap.size w6 (.slice (some ⟨g,0,none⟩) l cap) (pairsI ps)):=hrowS
    clear hrowS hrow S1 hC hR hf hh hP hQ hne vx vy N5
    go_upto_region 4 with (first | (go_at_call 234;refine cX.mono ?_;rintro e w' ⟨rfl,hw'⟩;obtain rfl:wr=w' := hw'.symm))
    go_upto_region 7 with (first | (go_at_call 234;refine cY.mono ?_;rintro e w' ⟨rfl,hw'⟩;obtain rfl:wr=w' := hw'.symm))
    go_upto_region 10 with fail
    clear cX cY q0 q1 f1 f2 c1 c2 c3 c4 u1 u2
    obtain ⟨w5,hw5⟩:∃ w5,wr.setCell ⟨B.ub,P,none⟩ (.int .i64 (Q:Int))=w5:=⟨_,rfl⟩
    rw [hw5] at NA NBB K1 K2 e1 e2 e3 e4 N5r ⊢
    obtain ⟨n5a,n5b⟩:=N5r
    by_cases hg:h' < 0
    ·have hN:=NA hg
     have hRw:=HRS.out _ K2
     have hK6:=hK.trans K2 (fun _ _ f=>f)
     by_cases hf:f<0
     ·have hlx:=x1 hf
      rw [if_pos hlx] at hN
      have hNO:=S2 hxy hlx
      clear S2 S3 S4 S5 NA NBB HRS
      go_wp2_with fail
      go_roundg k'
      case measure=>omega
      case rel=>exact ⟨_,ps,hNO,hN,hRw,hK6⟩
     ·have hlx:¬ ld x<0:=by rw [x2 (by omega)];exact hf
      rw [if_neg hlx] at hN
      have hNO:=S3 hxy (by omega) (y1 hg)
      clear S2 S3 S4 S5 NA NBB HRS
      go_wp2_with fail
      go_roundg k'
      case measure=>omega
      case rel=>exact ⟨_,ps,hNO,hN,hRw,hK6⟩
    ·have hN:=NBB (by omega)
     have hRw:=HRS.out _ K1
     have hK6:=hK.trans K1 (fun _ _ f=>f)
     by_cases hf:f<0
     ·have hlx:=x1 hf
      have hNO:=S2 hxy hlx
      clear S2 S3 S4 S5 NA NBB HRS
      go_wp2_with fail
      go_roundg k'
      case measure=>omega
      case rel=>exact ⟨_,ps,hNO,hN,hRw,hK6⟩
     ·have ex:=x2 (by omega)
      have ey:=y2 (by omega)
      obtain ⟨fn,rfl⟩:∃ fn:Nat,f=(fn:Int):=⟨f.toNat,by omega⟩
      obtain ⟨gn,rfl⟩:∃ gn:Nat,h' = (gn:Int):=⟨h'.toNat,by omega⟩
      have hfl:fn<J.length:=by rw [ex] at part_x;omega
      have hgl:gn<J.length:=by rw [ey] at part_y;omega
      rw [ex] at lx' S4 S5 hxy hN
      rw [ey] at ly' S4 S5 hxy hN
      have sx:=lx' (by omega)
      have sy:=ly' (by omega)
      obtain ⟨up6,rep6,cl6,ρ6,hC6,hR6⟩:=id hN
      have tf:=(hC6.nums.cell hfl).1
      have tg:=(hC6.nums.cell hgl).1
      rw [hT fn hfl sx] at tf
      rw [hT gn hgl sy] at tg
      have j9:(0:Int)≤(fn:Int):=by omega
      have j10:(fn:Int)<(J.length:Int):=by omega
      have j11:(0:Int)≤(gn:Int):=by omega
      have j12:(gn:Int)<(J.length:Int):=by omega
      by_cases h4:at' J (fn:Int)=at' J (gn:Int)
      ·have hNO:=S5 hxy (by omega) (by omega) h4
       rw [Int.toNat_natCast,Int.toNat_natCast] at hNO
       have h4' : (at' J (fn:Int) == at' J (gn:Int))=true:=by simpa using h4
       clear S2 S3 S4 S5 NA NBB HRS K1 K2 hC6 hR6
       go_upto_region 13 with fail
       go_quiet (fail)
       have hN7:NAt L ap B (w5.drewN nq) T J (un (fn:Int) (gn:Int) ld):=hN.kept (S:=fun _=>False) ((Kept.refl _ w5).drewN nq) (fun _ _ f=>f)
       have hR7:Row w.heap.size (w5.drewN nq) (.slice (some ⟨g,0,none⟩) l cap) (pairsI ps):=Kept.row (S:=fun _=>False) ((Kept.refl _ w5).drewN nq) hRw (fun _ _ f=>f)
       have hK7:=hK6.drewN nq
       obtain ⟨w7,hw7⟩:∃ w7,w5.drewN nq=w7:=⟨_,rfl⟩
       rw [hw7] at hN7 hR7 hK7 ⊢
       have hA:(kidsL L J fn).length=(kidsL L J gn).length:=by rw [show (kidsL L J fn).length=_ from starts_length _ _ _ _,show (kidsL L J gn).length=_ from starts_length _ _ _ _,h4]
       have hAl:(kidsL L J fn).length≤4000:=by
        have h1:=starts_le (kids_forest hNO.trs hfl)
        have h2:=(hNO.trs.lt hfl).2
        rw [show (kidsL L J fn).length=_ from starts_length _ _ _ _];omega
       have HNO:Hid (NOk L J res k' (un (fn:Int) (gn:Int) ld) (kidPairs L J fn gn++ps)):=hNO
       have HEND:Hid (pairsI (kidPairs L J fn gn++ps)=pairsI ps++flatP ((kidsL L J fn).zip (kidsL L J gn))):=by rw [pairsI_more];unfold kidPairs;rw [List.reverse_reverse];rfl
       have hpsl:(pairsI ps).length=l:=by rw [pairsI_len];exact hl
       clear hw7 hN hRw hK6 tf tg h4' e1 e2 e3 e4 n5a n5b hNO hU
       go_wp2_with fail
       go_loopw [7,12] (fun s7 s12 wx=>∃ k:Nat,s12=.int .i64 (k:Int)∧k≤(kidsL L J fn).length∧Row w.heap.size wx s7 (pairsI ps++flatP (((kidsL L J fn).zip (kidsL L J gn)).take k))∧NAt L ap B wx T J (un (fn:Int) (gn:Int) ld)∧Kept B.Two w wx) (fun _ s12 _=>(kidsL L J fn).length-(intOf s12).toNat)
       case atStart=>exact ⟨0,rfl,Nat.zero_le _,by simpa [flatP] using hR7,hN7,hK7⟩
       case round=>
        clear hN7 hR7 hK7
        obtain ⟨k,rfl,hk,hR7,hN7,hK7⟩:=hrel
        obtain ⟨up7,rep7,cl7,ρ7,hC7,hR8⟩:=id hN7
        obtain ⟨e1,e2,e3,e4⟩:=hC7.cells
        obtain ⟨vo,vc,hvv⟩:=row_shape hR7
        have hzl:(((kidsL L J fn).zip (kidsL L J gn)).take k).length=k:=by rw [List.length_take,zip_len _ _ hA];omega
        have hlen7:(pairsI ps++flatP (((kidsL L J fn).zip (kidsL L J gn)).take k)).length=l+2 * k:=by rw [List.length_append,flatP_len,hzl,hpsl]
        rw [hlen7] at hvv
        subst hvv
        by_cases hkl:k<(kidsL L J fn).length
        ·obtain ⟨gb,go,gc,a1,a2,a3⟩:=kids_ints hC7 hfl hkl
         obtain ⟨hb', ho,hc', b1,b2,b3⟩:=kids_ints hC7 hgl (k:=k) (by omega)
         have z1:(0:Int)≤(k:Int):=by omega
         have z2:(k:Int)<((kidsL L J fn).length:Int):=by omega
         have z3:(k:Int)<((kidsL L J gn).length:Int):=by omega
         have z4:(k:Int)<4000:=by omega
         obtain ⟨A1,hA1⟩:∃ A1,(((kidsL L J fn)[k]:Nat):Int)=A1:=⟨_,rfl⟩
         obtain ⟨A2,hA2⟩:∃ A2,(((kidsL L J gn)[k]'(by omega):Nat):Int)=A2:=⟨_,rfl⟩
         rw [hA1] at a2
         rw [hA2] at b2
         have hrow7:wr.ownsRow w.heap.size 3 1 (.slice vo (l+2 * k) vc) (l+2 * k) (iv (pairsI ps++flatP (((kidsL L J fn).zip (kidsL L J gn)).take k))):=by
          have h0:wr.ownsRow w.heap.size 3 1 (.slice vo (l+2 * k) vc) (pairsI ps++flatP (((kidsL L J fn).zip (kidsL L J gn)).take k)).length (iv (pairsI ps++flatP (((kidsL L J fn).zip (kidsL L J gn)).take k))):=hR7
          rw [hlen7] at h0;exact h0
         have PE:Hid (∀ gg cap' w9,w9.ownsRow w.heap.size 3 1 (.slice (some ⟨gg,0,none⟩) (l+2 * k+2) cap') (l+2 * k+2) (iv (pairsI ps++flatP (((kidsL L J fn).zip (kidsL L J gn)).take k)) ++ [.int .i64 A1,.int .i64 A2])→(wr.alloc (.cells #[.int .i64 A1,.int .i64 A2] 3)).drew.grownBy w9 (Value.slice vo (l+2 * k) vc).ownBlock→Row w.heap.size w9 (.slice (some ⟨gg,0,none⟩) (l+2 * k+2) cap') (pairsI ps++flatP (((kidsL L J fn).zip (kidsL L J gn)).take (k+1)))∧NAt L ap B w9 T J (un (fn:Int) (gn:Int) ld)∧Kept B.Two w w9):=by
          intro gg cap' w9 hown hgrow
          have own:∀ q,(Value.slice vo (l+2 * k) vc).ownBlock=some q→w.heap.size≤q:=fun q e=>(World.ownsRow.lt hrow7 q e).1
          have kg:Kept (fun q=>(Value.slice vo (l+2 * k) vc).ownBlock=some q) wr w9:=Kept.grown (Kept.drew (Kept.alloc (Kept.refl _ wr) _)) hgrow (fun q e _=>e)
          refine ⟨?_,hN7.kept kg (fun q hq e=>by have:=own q e;omega),hK7.trans kg (fun q hq e=>by have:=own q e;omega)⟩
          have el:(pairsI ps++flatP (((kidsL L J fn).zip (kidsL L J gn)).take (k+1))).length=l+2 * k+2:=by
           rw [List.length_append,flatP_len,List.length_take,zip_len _ _ hA,hpsl];omega
          show w9.ownsRow w.heap.size 3 1 _ (pairsI ps++flatP (((kidsL L J fn).zip (kidsL L J gn)).take (k+1))).length _
          rw [el,zip_take hA hkl,← List.append_assoc,iv_append,hA1,hA2]
          exact hown
         have hb9:w.heap.size≤(wr.alloc (.cells #[.int .i64 A1,.int .i64 A2] 3)).drew.heap.size:=by
          have:=hK7.size
          show w.heap.size≤(wr.alloc (.cells #[.int .i64 A1,.int .i64 A2] 3)).heap.size
          rw [World.size_alloc];omega
         have hn1:l+2 * k+2≤maxLen:=by unfold maxLen;omega
         have hn2:(l+2 * k+2) * 8≤140737488355328:=by omega
         clear hC7 hR8 hN7 hR7 hK7 hzl hlen7 hA1 hA2 HNO HEND
         go_upto_region 18 with fail
         go_region_law (refine step_append_lies _ (by rfl) _ _ 51 (by rfl) w.heap.size 3 i0 _ 1 8 Tryz.underlying51 hi0 hz0 hz1 hz2 rfl (by omega) (.slice vo (l+2 * k) vc) (l+2 * k) (iv (pairsI ps++flatP (((kidsL L J fn).zip (kidsL L J gn)).take k))) (by rfl) ((hrow7.alloc _).drew) ⟨wr.heap.size,0,none⟩ 2 2 [.int .i64 A1,.int .i64 A2] (by rfl) (by rfl) (World.news_of_block (cs:=#[.int .i64 A1,.int .i64 A2]) (t:=3) (fr:=(0,0)) (heap_alloc_new wr _)) (by simp [Value.oneCell']) (by omega) hn1 hn2 hb9 _ rfl ?_;intro gg cap' w9 hown hgrow hat hlt;obtain ⟨p1,p2,p3⟩:=PE.out gg cap' w9 hown hgrow)
         all_goals
          go_wp2_with fail
          go_roundw
          case rel=>exact ⟨k+1,by go_num,by omega,p1,p2,p3⟩
          case measure=>simp [intOf];omega
        ·have hke:k=(kidsL L J fn).length:=by omega
         have z2:¬ (k:Int)<((kidsL L J fn).length:Int):=by omega
         have hfin:Row w.heap.size wr (.slice vo (l+2 * k) vc) (pairsI (kidPairs L J fn gn++ps)):=by
          rw [HEND.out]
          have e:((kidsL L J fn).zip (kidsL L J gn)).take k=(kidsL L J fn).zip (kidsL L J gn):=List.take_of_length_le (by rw [zip_len _ _ hA];omega)
          rw [e] at hR7
          exact hR7
         have hNOx:=HNO.out
         obtain ⟨go,gc,a1,a2,a3⟩:=hC7.args fn hfl
         have HFIN:Hid (NRel L ap B T J res w k' wr (.slice vo (l+2 * k) vc) (un (fn:Int) (gn:Int) ld) (kidPairs L J fn gn++ps)):=⟨hNOx,hN7,hfin,hK7⟩
         clear hC7 hR8 hN7 hR7 hK7 hzl hlen7 hke HNO HEND hfin hNOx
         go_wp2_with fail
         go_roundg k'
         case measure=>omega
         case rel=>exact ⟨_,_,HFIN.out⟩
      ·have hres:=S4 hxy (by omega) (by omega) h4
       have fin:Hid (∀ n,NEnd L ap B T J res w (.returned (.bool false)) (w5.drewN n)):=fun n=>⟨fun ld' e=>(by rw [hres] at e;cases e),fun _=>rfl,hK6.drewN n⟩
       clear S2 S3 S4 S5 NA NBB HRS hN hC6 hR6 hres
       go_upto_region 13 with fail
       go_quiet (fail)
       go_wp2_with fail
       go_returns
       exact fin.out _
def MZ (ap:Bool) (J:List Int) (rep:Nat→Int) (cl:Nat→Nat) (sz:Nat→Int) (mz:Nat→Int):Prop:=∀ c,VNode ap J.length c→cl c=c→(∀ p:Nat,rep c=p→mz c=sz p)∧(rep c<0→mz c=0∨mz c=1)
theorem MZ.upd {ap:Bool} {J:List Int} {up:Nat→Nat} {rep:Nat→Int} {cl ρ:Nat→Nat} {ld:Int→Int} (hr:NR ap J up rep cl ρ ld) {sz mz:Nat→Int} (h:MZ ap J rep cl sz mz) {c p:Nat} (hc:VNode ap J.length c) (hcc:cl c=c) (hp:rep c=p) (v:Int):MZ ap J rep cl (updN sz p v) (fun k=>if k=c then v else mz k):=by
 have hcp:cl p=c:=by
  rcases hr.reps c hc hcc with ⟨a,_⟩ | ⟨q,a1,a2,a3⟩
  ·omega
  ·have:q=p:=by omega
   rw [← this];exact a3
 intro d hd hdd
 obtain ⟨h1,h2⟩:=h d hd hdd
 refine ⟨fun q hq=>?_,fun hn=>?_⟩
 ·by_cases e:d=c
  ·subst e
   have:q=p:=by omega
   subst this
   simp [updN]
  ·have hqp:q≠p:=fun f=>by
    subst f
    rcases hr.reps d hd hdd with ⟨a,_⟩ | ⟨q', a1,a2,a3⟩
    ·omega
    ·have:q' = q:=by omega
     subst this
     rw [a3] at hcp;exact e hcp
   simp only [e,if_false]
   unfold updN;rw [if_neg hqp];exact h1 q hq
 ·have e:d≠c:=fun f=>by subst f;omega
  simp only [e,if_false];exact h2 hn
def NSPost (ap:Bool) (J:List Int) (rep:Nat→Int) (cl:Nat→Nat) (lb:Nat) (w:World) (k:Int) (sz' : Nat→Int) (e:Ending) (w' : World):Prop:=e=.returned (.int .i64 (if k = -1 then -2 else k))∧∃ mz', Nums w' lb (J.length+200) mz' ∧ MZ ap J rep cl sz' mz' ∧ Kept (fun q=>q=lb) w w'
set_option maxHeartbeats 8000000 in
theorem nsize_any {L:List Sym} {ap:Bool} {B:NB} {T J:List Int} {up:Nat→Nat} {rep:Nat→Int} {cl ρ:Nat→Nat} {ld:Int→Int} (hT:Trs L J) (hl:LdOk J ld) (hJ:J.length≤4000) (hr:NR ap J up rep cl ρ ld) {lb lc:Nat} (hlb:B.top≤lb):∀ (n:Nat) (w:World) (mz sz:Nat→Int) (x:Nat) (k:Int) (sz' : Nat→Int),NC L B w T J up rep→Nums w lb (J.length+200) mz→MZ ap J rep cl sz mz→x<J.length→SzOk sz→sizF L J ld n sz x=some (k,sz') →
  Calls Tryz.prog 227 #[.pointer (some ⟨B.nb,0,none⟩),.slice (some ⟨lb,0,none⟩) (J.length+200) lc,.int .i64 (x:Int)] w (NSPost ap J rep cl lb w k sz'):=by
 intro n
 induction n with
 | zero=>intro w mz sz x k sz' _ _ _ _ _ e;simp [sizF] at e
 | succ n ih=>
  intro w mz sz x k sz' hC hN hM hx hs e
  have vx:VNode ap J.length x:=.inl hx
  have cX:=class_any hC hr vx
  have lx:=hr.led x vx
  rw [pt_place hx] at lx
  have vc:=hr.cnode x vx
  have hcc:=hr.idem x vx
  have rx:=hr.reps _ vc hcc
  obtain ⟨m1,m2⟩:=hM _ vc hcc
  have hcl:=vn_lt vc
  obtain ⟨f1,f2⟩:=hN.cell hcl
  have g1:=(hC.reps.cell hcl).1
  obtain ⟨c1,c2,c3,c4⟩:=hC.cells
  obtain ⟨C,hCC⟩:∃ C,cl x=C:=⟨_,rfl⟩
  rw [hCC] at cX lx vc hcc rx m1 m2 hcl f1 f2 g1
  have i1:(0:Int)≤(C:Int):=by omega
  have i2:(C:Int)<((J.length+200:Nat):Int):=by omega
  rw [sizF] at e
  by_cases hneg:rep C<0
  ·have hlx:ld x<0:=by
    rw [lx,if_pos hneg]
    rcases rx with ⟨_,a⟩ | ⟨p,a,_⟩
    ·exact pt_neg a
    ·omega
   rw [if_pos hlx] at e
   simp only [Option.some.injEq,Prod.mk.injEq] at e
   obtain ⟨rfl,rfl⟩:=e
   have hr1:rep C = -1:=by
    rcases rx with ⟨a,_⟩ | ⟨p,a,_⟩
    ·exact a
    ·omega
   rw [hr1] at g1
   by_cases h0:mz C=0
   ·have hN' := hN.set C 1
    have hM' : MZ ap J rep cl sz (fun k=>if k=C then 1 else mz k):=by
     intro d hd hdd
     by_cases ed:d=C
     ·subst ed
      simp only [if_true]
      exact ⟨fun p hp=>by omega,fun _=>.inr trivial⟩
     ·simp only [ed,if_false];exact hM d hd hdd
    have kk:Kept (fun q=>q=lb) w (w.setCell ⟨lb,C,none⟩ (.int .i64 1)):=Kept.setCell (S:=fun q=>q=lb) (p:=⟨lb,C,none⟩) (Kept.refl _ _) (fun _=>rfl) _
    rw [h0] at f1
    clear ih hM m1 m2 hC hN hr
    go_enter Tryz.func227,Tryz.ntmps227
    go_wp2_with (first | (go_at_call 234;refine cX.mono ?_;rintro e w' ⟨rfl,hw'⟩;obtain rfl:w=w' := hw'.symm))
    go_returns
    exact ⟨rfl,_,hN', hM', kk⟩
   ·have h1:mz C=1:=(m2 hneg).resolve_left h0
    rw [h1] at f1
    clear ih m1 m2 hC hr h0 h1
    go_enter Tryz.func227,Tryz.ntmps227
    go_wp2_with (first | (go_at_call 234;refine cX.mono ?_;rintro e w' ⟨rfl,hw'⟩;obtain rfl:w=w' := hw'.symm))
    go_returns
    exact ⟨rfl,_,hN,hM,Kept.refl _ _⟩
  ·obtain ⟨p,hp,hpl,hpc⟩:∃ p:Nat,rep C=p∧p<J.length∧cl p=C:=by
    rcases rx with ⟨a,_⟩ | a
    ·omega
    ·exact a
   rw [if_neg hneg,hp] at lx
   rw [lx,if_neg (by omega),Int.toNat_natCast] at e
   have hmz:=m1 p hp
   rw [hmz] at f1
   rw [hp] at g1
   by_cases h2:sz p≠0
   ·rw [if_pos h2] at e
    simp only [Option.some.injEq,Prod.mk.injEq] at e
    obtain ⟨rfl,rfl⟩:=e
    have h3:=hs p
    obtain ⟨v,hv⟩:∃ v,sz p=v:=⟨_,rfl⟩
    rw [hv] at f1 h2 h3 ⊢
    clear ih m1 m2 hC hr hmz
    by_cases h4:v = -1
    ·subst h4
     go_enter Tryz.func227,Tryz.ntmps227
     go_wp2_with (first | (go_at_call 234;refine cX.mono ?_;rintro e w' ⟨rfl,hw'⟩;obtain rfl:w=w' := hw'.symm))
     go_returns
     exact ⟨rfl,_,hN,hM,Kept.refl _ _⟩
    ·go_enter Tryz.func227,Tryz.ntmps227
     go_wp2_with (first | (go_at_call 234;refine cX.mono ?_;rintro e w' ⟨rfl,hw'⟩;obtain rfl:w=w' := hw'.symm))
     go_returns
     exact ⟨by rw [if_neg h4];rfl,_,hN,hM,Kept.refl _ _⟩
   ·rw [if_neg h2] at e
    have h0:sz p=0:=by simpa using h2
    rw [h0] at f1
    cases h3:sizA (sizF L J ld n) (kidsL L J p) 1 (updN sz p (-1)) with
    | none=>simp [h3] at e
    | some v=>
     obtain ⟨s,sz1⟩:=v
     simp only [h3] at e
     have HE:Hid ((if s = -1 then some (-1,sz1) else some (s,updN sz1 p s))=some (k,sz')):=e
     have H3:Hid (sizA (sizF L J ld n) ((kidsL L J p).drop 0) 1 (updN sz p (-1))=some (s,sz1)):=h3
     have hs2:SzOk (updN sz p (-1)):=hs.upd _ (.inl rfl)
     have hkl:=kids_lt hT hpl
     have hAl:(kidsL L J p).length≤4000:=by
      have h1:=starts_le (kids_forest hT hpl)
      have h2:=(hT.lt hpl).2
      rw [show (kidsL L J p).length=_ from starts_length _ _ _ _];omega
     have IH:Hid (∀ (w:World) (mz sz:Nat→Int) (x:Nat) (k:Int) (sz' : Nat→Int),NC L B w T J up rep→Nums w lb (J.length+200) mz→MZ ap J rep cl sz mz→x<J.length→SzOk sz→sizF L J ld n sz x=some (k,sz')→Calls Tryz.prog 227 #[.pointer (some ⟨B.nb,0,none⟩),.slice (some ⟨lb,0,none⟩) (J.length+200) lc,.int .i64 (x:Int)] w (NSPost ap J rep cl lb w k sz')):=ih
     have hN2:=hN.set C (-1)
     have hM2:=hM.upd hr vc hcc hp (-1)
     have kk:Kept (fun q=>q=lb) w (w.setCell ⟨lb,C,none⟩ (.int .i64 (-1))):=Kept.setCell (S:=fun q=>q=lb) (p:=⟨lb,C,none⟩) (Kept.refl _ _) (fun _=>rfl) _
     have hC2:=hC.kept kk (fun q hq e=>by omega)
     have i3:(0:Int)≤(p:Int):=by omega
     have i4:(p:Int)<(J.length:Int):=by omega
     have HM:Hid (∀ sz mz,MZ ap J rep cl sz mz→∀ v,MZ ap J rep cl (updN sz p v) (fun k=>if k=C then v else mz k)):=fun sz mz h v=>h.upd hr vc hcc hp v
     clear ih hC e h3 h2 hM hN m1 m2 hr hmz rx
     go_enter Tryz.func227,Tryz.ntmps227
     go_upto_region 10 with (first | (go_at_call 234;refine cX.mono ?_;rintro e w' ⟨rfl,hw'⟩;obtain rfl:w=w' := hw'.symm))
     obtain ⟨w2,hw2⟩:∃ w2,w.setCell ⟨lb,C,none⟩ (.int .i64 (-1))=w2:=⟨_,rfl⟩
     rw [hw2] at hN2 kk hC2 ⊢
     clear hw2 c1 c2 c3 c4 f1 f2 g1 cX
     obtain ⟨c1,c2,c3,c4⟩:=hC2.cells
     have g1:=(hC2.reps.cell hcl).1
     rw [hp] at g1
     obtain ⟨go,gc,a1,a2,a3⟩:=hC2.args p hpl
     have HA:Hid (∀ w', Kept (fun q=>q=lb) w2 w' → IntsAt w' go ((kidsL L J p).map (fun k:Nat=>(k:Int)))):=fun w' hk=>a2.kept hk (fun a e f=>by have:=(a3 a e).2;omega)
     go_upto_region 11 with fail
     go_quiet (fail)
     have KQ:Same0 w2 (w2.drewN nq):=(Kept.refl _ _).drewN nq
     have hN3:=hN2.kept KQ (fun f=>f)
     have hC3:=hC2.same KQ
     have kk3:Kept (fun q=>q=lb) w (w2.drewN nq):=kk.drewN nq
     have kk4:Kept (fun q=>q=lb) w2 (w2.drewN nq):=(Kept.refl _ _).drewN nq
     obtain ⟨w3,hw3⟩:∃ w3,w2.drewN nq=w3:=⟨_,rfl⟩
     rw [hw3] at hN3 hC3 kk3 kk4 ⊢
     clear hw3 hN2 hC2 kk KQ c1 c2 c3 c4 g1 a1 a2 a3
     go_wp2_with fail
     go_loopw [8,10] (fun s8 s10 wr=>∃ (sum:Int) (j:Nat) (sq mq:Nat→Int),s8=.int .i64 sum∧s10=.int .i64 (j:Int)∧1≤sum∧sum≤2001∧j≤(kidsL L J p).length∧SzOk sq∧Nums wr lb (J.length+200) mq∧MZ ap J rep cl sq mq∧NC L B wr T J up rep∧Kept (fun q=>q=lb) w wr∧Kept (fun q=>q=lb) w2 wr∧Hid (sizA (sizF L J ld n) ((kidsL L J p).drop j) sum sq=some (s,sz1))) (fun _ s10 _=>(kidsL L J p).length-(intOf s10).toNat)
     case atStart=>exact ⟨1,0,_,_,rfl,rfl,by omega,by omega,Nat.zero_le _,hs2,hN3,hM2,hC3,kk3,kk4,H3⟩
     case round=>
      clear hN3 hM2 hC3 kk3 kk4 H3 hs2
      obtain ⟨sum,j,sq,mq,rfl,rfl,hs1,hs2,hj,hsq,hN,hM,hC,hK,hK2,HS⟩:=hrel
      by_cases hjl:j<(kidsL L J p).length
      ·have hd:(kidsL L J p).drop j=(kidsL L J p)[j] :: (kidsL L J p).drop (j+1):=List.drop_eq_getElem_cons hjl
       have hst:=HS.out
       rw [hd,sizA] at hst
       obtain ⟨t,ht⟩:∃ t,(kidsL L J p)[j]=t:=⟨_,rfl⟩
       have htl:t<J.length:=by rw [← ht];exact hkl _ (List.getElem_mem _)
       rw [ht] at hst
       obtain ⟨gb,off,rfl,b1,b2⟩:=(HA.out wr hK2).get (i:=j) (by simpa using hjl)
       have b3:wr.cell? ⟨gb,off+j,none⟩=some (.int .i64 (t:Int)):=by rw [b2];simp [ht]
       have z1:(0:Int)≤(j:Int):=by omega
       have z2:(j:Int)<((kidsL L J p).length:Int):=by omega
       have z3:(j:Int)<4000:=by omega
       cases hq:sizF L J ld n sq (t:Int) with
       | none=>simp [hq] at hst
       | some v=>
        obtain ⟨k1,sq1⟩:=v
        simp only [hq] at hst
        have cS:=IH.out wr mq sq t k1 sq1 hC hN hM htl hsq hq
        obtain ⟨o1,o2⟩:=sizF_ok n _ _ _ _ hsq hq
        have HST:Hid ((if k1 = -1 then some (-1,sq1) else sizA (sizF L J ld n) ((kidsL L J p).drop (j+1)) (min (sum+k1) 2001) sq1)=some (s,sz1)):=hst
        have HC:Hid (∀ w', Kept (fun q=>q=lb) wr w' → NC L B w' T J up rep):=fun w' hk=>hC.kept hk (fun q hq e=>by omega)
        clear hst hC HS hq hsq hd hM hN ht b2
        by_cases hk1:k1 = -1
        ·subst hk1
         have:=HST.out
         rw [if_pos rfl] at this
         simp only [Option.some.injEq,Prod.mk.injEq] at this
         obtain ⟨rfl,rfl⟩:=this
         have:=HE.out
         rw [if_pos rfl] at this
         simp only [Option.some.injEq,Prod.mk.injEq] at this
         obtain ⟨rfl,rfl⟩:=this
         have cS1:Calls Tryz.prog 227 #[.pointer (some ⟨B.nb,0,none⟩),.slice (some ⟨lb,0,none⟩) (J.length+200) lc,.int .i64 (t:Int)] wr fun e w' => e=.returned (.int .i64 (-2))∧∃ mz', Nums w' lb (J.length+200) mz' ∧ MZ ap J rep cl sq1 mz' ∧ Kept (fun q=>q=lb) wr w' := cS.mono (fun e w' ⟨a1,a2⟩=>⟨by rw [a1];rfl,a2⟩)
         clear HE HST IH HA cS
         go_wp2_with (first | (go_at_call 227;refine cS1.mono ?_;rintro e w5 ⟨rfl,mz5,q1,q2,q3⟩))
         go_returns
         exact ⟨rfl,mz5,q1,q2,hK.trans q3 (fun _ _ f=>f)⟩
        ·have:=HST.out
         rw [if_neg hk1] at this
         have HST2:Hid (sizA (sizF L J ld n) ((kidsL L J p).drop (j+1)) (min (sum+k1) 2001) sq1=some (s,sz1)):=this
         have i7:1≤k1:=by omega
         have i8:k1≤2001:=by omega
         have i9:¬ k1 = -2:=by omega
         have cS2:Calls Tryz.prog 227 #[.pointer (some ⟨B.nb,0,none⟩),.slice (some ⟨lb,0,none⟩) (J.length+200) lc,.int .i64 (t:Int)] wr fun e w' => e=.returned (.int .i64 k1)∧∃ mz', Nums w' lb (J.length+200) mz' ∧ MZ ap J rep cl sq1 mz' ∧ Kept (fun q=>q=lb) wr w' := cS.mono (fun e w' ⟨a1,a2⟩=>⟨by rw [a1,if_neg hk1],a2⟩)
         clear HST this o2 HE IH cS HA
         by_cases hm:2000<sum+k1
         ·rw [show min (sum+k1) 2001=2001 by omega] at HST2
          go_wp2_with (first | (go_at_call 227;refine cS2.mono ?_;rintro e w5 ⟨rfl,mz5,q1,q2,q3⟩))
          go_roundw
          case rel=>exact ⟨2001,j+1,sq1,mz5,by go_num,by go_num,by omega,by omega,by omega,o1,q1,q2,HC.out _ q3,hK.trans q3 (fun _ _ f=>f),hK2.trans q3 (fun _ _ f=>f),HST2⟩
          case measure=>simp [intOf];omega
         ·rw [show min (sum+k1) 2001=sum+k1 by omega] at HST2
          go_wp2_with (first | (go_at_call 227;refine cS2.mono ?_;rintro e w5 ⟨rfl,mz5,q1,q2,q3⟩))
          go_roundw
          case rel=>exact ⟨sum+k1,j+1,sq1,mz5,by go_num,by go_num,by omega,by omega,by omega,o1,q1,q2,HC.out _ q3,hK.trans q3 (fun _ _ f=>f),hK2.trans q3 (fun _ _ f=>f),HST2⟩
          case measure=>simp [intOf];omega
      ·have hje:j=(kidsL L J p).length:=by omega
       have z2:¬ (j:Int)<((kidsL L J p).length:Int):=by omega
       have hss:sum=s∧sq=sz1:=by
        have:=HS.out
        rw [hje,List.drop_length] at this
        simpa [sizA] using this
       obtain ⟨rfl,rfl⟩:=hss
       have hne:¬ sum = -1:=by omega
       have:=HE.out
       rw [if_neg hne] at this
       simp only [Option.some.injEq,Prod.mk.injEq] at this
       obtain ⟨rfl,rfl⟩:=this
       obtain ⟨y1,y2⟩:=hN.cell hcl
       have hN9:=hN.set C sum
       have hM9:=HM.out _ _ hM sum
       have k9:Kept (fun q=>q=lb) wr (wr.setCell ⟨lb,C,none⟩ (.int .i64 sum)):=Kept.setCell (S:=fun q=>q=lb) (p:=⟨lb,C,none⟩) (Kept.refl _ _) (fun _=>rfl) _
       have fin:NSPost ap J rep cl lb w sum (updN sq p sum) (.returned (.int .i64 sum)) (wr.setCell ⟨lb,C,none⟩ (.int .i64 sum)):=⟨by rw [if_neg hne],_,hN9,hM9,hK.trans k9 (fun _ _ f=>f)⟩
       clear hN hM hC HS HE HM hN9 hM9 k9 hje HA IH
       go_wp2_with fail
       go_returns
       exact fin
theorem own_base {base:Nat} {w:World} {v:Value} {xs:List Int} (h:Row base w v xs) {q:Nat} (e:v.ownBlock=some q):base≤q:=(World.ownsRow.lt h q e).1
end Go.Proofs.YtmjgnfkbnofjoaaGreatDoor
namespace Go.Proofs.YtmjgnfkbnofjoaaGreatDoor
set_option linter.unusedVariables false
theorem end_left {L:List Sym} {a c:List Int} {p n:Nat} (h:scan L 1 (a.drop p)=some n) (hp:p≤a.length):endN L (a++c) p=endN L a p:=by
 rw [endN_of h]
 refine endN_of (n:=n) ?_
 rw [List.drop_append_of_le_length hp]
 exact scan_more h c
theorem starts_left {L:List Sym} {a c:List Int}:∀ (k p q:Nat),Forest L a k p q→starts L (a++c) k p=starts L a k p
 | 0,p,q,h=>rfl
 | k+1,p,q,h=>by
  obtain ⟨h1,h2,h3⟩:=h.succ
  obtain ⟨n,e1,e2,e3⟩:=h1
  rw [starts,starts,end_left e1 (by omega),starts_left k _ q h3]
theorem end_right {L:List Sym} {a c:List Int} {p n:Nat} (h:scan L 1 (c.drop p)=some n):endN L (a++c) (a.length+p)=a.length+endN L c p:=by
 rw [endN_of h,← Nat.add_assoc]
 refine endN_of (n:=n) ?_
 rw [List.drop_append,List.drop_eq_nil_of_le (by omega),List.nil_append,Nat.add_sub_cancel_left]
 exact h
theorem starts_right {L:List Sym} {a c:List Int}:∀ (k p q:Nat),Forest L c k p q→starts L (a++c) k (a.length+p)=(starts L c k p).map (fun x=>a.length+x)
 | 0,p,q,h=>rfl
 | k+1,p,q,h=>by
  obtain ⟨h1,h2,h3⟩:=h.succ
  obtain ⟨n,e1,e2,e3⟩:=h1
  rw [starts,starts,end_right e1,starts_right k _ q h3];rfl
theorem scan_sh (L:List Sym) {ap:Int} (h:0≤ap):∀ (k:Nat) (b:List Int),scan L k (b.map (shF ap))=scan L k b
 | 0,b=>by rw [scan_zero,scan_zero]
 | k+1,[]=>rfl
 | k+1,x :: r=>by rw [List.map_cons,scan,scan,arN_sh L h,scan_sh L h]
theorem drop_sh (f:Int→Int) (p:Nat) (b:List Int):(b.map f).drop p=(b.drop p).map f:=by simp
theorem end_sh (L:List Sym) {ap:Int} (h:0≤ap) (b:List Int) (p:Nat):endN L (b.map (shF ap)) p=endN L b p:=by
 unfold endN endO
 rw [drop_sh,scan_sh L h,List.length_map]
theorem starts_sh (L:List Sym) {ap:Int} (h:0≤ap) (b:List Int):∀ (k p:Nat),starts L (b.map (shF ap)) k p=starts L b k p
 | 0,p=>rfl
 | k+1,p=>by rw [starts,starts,end_sh L h,starts_sh L h b]
theorem kids_a {L:List Sym} {a b:List Int} {ap:Int} (h0:0≤ap) (ha:IsT L a) {i:Nat} (hi:i<a.length):kidsL L (jl a b ap) i=argsN L a i:=by
 rw [argsN_eq hi]
 unfold kidsL
 have e:at' (jl a b ap) (i:Nat)=a[i]:=by
  rw [at'_nat _ _ (by simp [jl];omega)]
  unfold jl
  rw [List.getElem_append_left hi]
 rw [e]
 unfold jl
 exact starts_left _ _ _ (Forest.one ha hi).kids.2
theorem kids_b {L:List Sym} {a b:List Int} {ap:Int} (h0:0≤ap) (hb:IsT L b) {i:Nat} (hi:i<b.length):kidsL L (jl a b ap) (a.length+i)=(argsN L b i).map (fun x=>a.length+x):=by
 rw [argsN_eq hi]
 unfold kidsL
 have e:at' (jl a b ap) ((a.length+i:Nat):Int)=shF ap b[i]:=by
  rw [at'_nat _ _ (by simp [jl];omega)]
  unfold jl
  rw [List.getElem_append_right (by omega),List.getElem_map]
  congr 2
  omega
 rw [e,arN_sh L h0]
 unfold jl
 have hf:=(Forest.one hb hi).kids.2
 have hf' : Forest L (b.map (shF ap)) (arN L b[i]) (i+1) (endN L b i):=by
  obtain ⟨n,e1,e2,e3⟩:=hf
  exact ⟨n,by rw [drop_sh,scan_sh L h0];exact e1,e2,by rw [List.length_map];exact e3⟩
 rw [Nat.add_assoc,starts_right _ _ _ hf', starts_sh L h0]
def varN (ap:Bool) (N which:Nat) (n:Int):Nat:=if ap=true then N+2 * (-n-1).toNat+which else N+2 * (-n-1).toNat
def up0 (ap:Bool) (N la:Nat) (T:List Int) (i:Nat):Nat:=if i<N∧at' T i<0 then varN ap N (if la≤i then 1 else 0) (at' T i) else i
def rep0 (N:Nat) (T:List Int) (i:Nat):Int:=if i<N∧0≤at' T i then (i:Int) else -1
def apI (ap:Bool):Int:=if ap=true then 99 else 0
theorem at_jl {a b:List Int} {ap:Bool} {i:Nat} (hi:i<a.length+b.length):at' (jl a b (apI ap)) (i:Nat)=if at' (a++b) i<0∧a.length≤i then at' (a++b) i-apI ap else at' (a++b) i:=by
 rw [at'_nat _ _ (by simp [jl];omega),at'_nat _ _ (by simp;omega)]
 unfold jl
 by_cases h:i<a.length
 ·rw [List.getElem_append_left h,List.getElem_append_left h,if_neg (by omega)]
 ·rw [List.getElem_append_right (by omega),List.getElem_append_right (by omega),List.getElem_map]
  unfold shF
  by_cases q:b[i-a.length]'(by omega)<0
  ·rw [if_pos q,if_pos ⟨q,by omega⟩]
  ·rw [if_neg q,if_neg (fun f=>q f.1)]
theorem nr_zero {ap:Bool} {a b:List Int} (ha:∀ x∈a, -99≤x) (hb:∀ x∈b, -99≤x):∃ cl ρ,NR ap (jl a b (apI ap)) (up0 ap (a.length+b.length) a.length (a++b)) (rep0 (a.length+b.length) (a++b)) cl ρ (ld0 (jl a b (apI ap))):=by
 obtain ⟨N,hN⟩:∃ N,a.length+b.length=N:=⟨_,rfl⟩
 obtain ⟨J,hJ⟩:∃ J,jl a b (apI ap)=J:=⟨_,rfl⟩
 obtain ⟨T,hT⟩:∃ T,a++b=T:=⟨_,rfl⟩
 obtain ⟨la,hla⟩:∃ la,a.length=la:=⟨_,rfl⟩
 have hJl:J.length=N:=by rw [← hJ,← hN];simp [jl]
 have hlow:∀ i,i<N → -99≤at' T i:=by
  intro i hi
  rw [← hT,at'_nat _ _ (by simp;omega)]
  have:=List.getElem_mem (l:=a++b) (n:=i) (by simp;omega)
  rcases List.mem_append.1 this with e | e
  ·exact ha _ e
  ·exact hb _ e
 have hat:∀ i:Nat,i<N→at' J i=if at' T i<0∧la≤i then at' T i-apI ap else at' T i:=by
  intro i hi
  rw [← hJ,← hT,← hla]
  exact at_jl (by omega)
 rw [hN,hJ,hT,hla]
 obtain ⟨u,hu⟩:∃ u,up0 ap N la T=u:=⟨_,rfl⟩
 have u1:∀ i,i<N→at' T i<0→u i=varN ap N (if la≤i then 1 else 0) (at' T i):=fun i h1 h2=>by rw [← hu];unfold up0;rw [if_pos ⟨h1,h2⟩]
 have u2:∀ i,¬ (i<N∧at' T i<0)→u i=i:=fun i h=>by rw [← hu];unfold up0;rw [if_neg h]
 have vn:∀ i,i<N→at' T i<0→VNode ap N (u i)∧N≤u i∧ptN ap N (u i)=at' J i:=by
  intro i h1 h2
  rw [u1 i h1 h2,hat i h1]
  have hl:=hlow i h1
  obtain ⟨n,hn⟩:∃ n:Nat,at' T i = -(n:Int)-1:=⟨(-at' T i-1).toNat,by omega⟩
  rw [hn]
  have e0:(-(-(n:Int)-1)-1).toNat=n:=by omega
  unfold varN VNode ptN apI
  rw [e0]
  cases ap
  ·simp only [Bool.false_eq_true,if_false,false_or,false_and]
   refine ⟨.inr ⟨by omega,by omega,by omega⟩,by omega,?_⟩
   rw [if_neg (by omega),show N+2 * n-N=2 * n by omega,show 2 * n / 2=n by omega]
   split <;> omega
  ·simp only [if_true,true_or,and_true,true_and]
   by_cases hi:la≤i
   ·rw [if_pos hi]
    refine ⟨.inr ⟨by omega,by omega⟩,by omega,?_⟩
    rw [if_neg (by omega),show N+2 * n+1-N=2 * n+1 by omega,if_pos (by omega),show (2 * n+1) / 2=n by omega,if_pos ⟨by omega,hi⟩];omega
   ·rw [if_neg hi]
    refine ⟨.inr ⟨by omega,by omega⟩,by omega,?_⟩
    rw [if_neg (by omega),show N+2 * n+0-N=2 * n by omega,if_neg (by omega),show 2 * n / 2=n by omega,if_neg (fun f=>hi f.2)]
 have uu:∀ i,VNode ap N i→u (u i)=u i:=by
  intro i hi
  by_cases h:i<N∧at' T i<0
  ·have:=(vn i h.1 h.2).2.1
   exact u2 _ (by omega)
  ·rw [u2 i h,u2 i h]
 rw [hu]
 refine ⟨u,fun x=>if x<N then 1 else 0,?_⟩
 have hV:∀ x,VNode ap J.length x ↔ VNode ap N x:=fun x=>by rw [hJl]
 refine ⟨?_,?_,?_,?_,?_,?_,?_,?_⟩
 ·intro x hx
  rw [hV] at hx ⊢
  by_cases h:x<N∧at' T x<0
  ·exact (vn x h.1 h.2).1
  ·rw [u2 x h];exact hx
 ·intro x hx
  rw [hV] at hx ⊢
  by_cases h:x<N∧at' T x<0
  ·exact (vn x h.1 h.2).1
  ·rw [u2 x h];exact hx
 ·intro x hx;exact uu x ((hV x).1 hx)
 ·intro x hx;exact uu x ((hV x).1 hx)
 ·intro x hx;exact Iff.rfl
 ·intro x hx hn
  by_cases h:x<N∧at' T x<0
  ·have:=(vn x h.1 h.2).2.1
   rw [if_neg (by omega),if_pos h.1];omega
  ·exact absurd (u2 x h) hn
 ·intro c hc hcc
  rw [hV] at hc
  by_cases h:c<N
  ·by_cases q:at' T c<0
   ·have:=(vn c h q).2.1;omega
   ·right
    refine ⟨c,?_,by omega,hcc⟩
    unfold rep0;rw [if_pos ⟨h,by omega⟩]
  ·left
   refine ⟨?_,by omega⟩
   unfold rep0;rw [if_neg (fun f=>h f.1)]
 ·intro x hx
  rw [hV] at hx
  rw [hJl]
  by_cases h:x<N
  ·rw [pt_place h]
   by_cases q:at' T x<0
   ·obtain ⟨v1,v2,v3⟩:=vn x h q
    have e1:rep0 N T (u x) = -1:=by unfold rep0;rw [if_neg (fun f=>by omega)]
    rw [e1,if_pos (by omega),v3]
    have hneg:at' J x<0:=by rw [← v3];exact pt_neg v2
    unfold ld0;rw [if_pos ⟨by omega,hneg⟩]
   ·have e0:=u2 x (fun f=>q f.2)
    have e1:rep0 N T x=x:=by unfold rep0;rw [if_pos ⟨h,by omega⟩]
    rw [e0,e1,if_neg (by omega)]
    have hpos:¬ at' J x<0:=by rw [hat x h,if_neg (fun f=>q f.1)];exact q
    unfold ld0;rw [if_neg (fun f=>hpos f.2)]
  ·have e0:=u2 x (fun f=>h f.1)
   have e1:rep0 N T x = -1:=by unfold rep0;rw [if_neg (fun f=>h f.1)]
   rw [e0,e1,if_pos (by omega)]
   have:=pt_neg (ap:=ap) (N:=N) (x:=x) (by omega)
   unfold ld0;rw [if_neg (by omega)]
end Go.Proofs.YtmjgnfkbnofjoaaGreatDoor
namespace Go.Proofs.YtmjgnfkbnofjoaaGreatDoor
set_option maxRecDepth 100000
set_option linter.unusedVariables false
open Go.RowKit
structure Fam (b2:Nat) (w:World) (vs:Nat→Value) (xs:Nat→List Int) (va:Value) (AA:List (List Int)):Prop where
 rows:∀ i,i<3→Row b2 w (vs i) (xs i)
 ap:∀ i j,i<3→j<3→i≠j→∀ q,(vs i).ownBlock=some q→(vs j).ownBlock≠some q
 apa:∀ i,i<3→∀ q,(vs i).ownBlock=some q→va.ownBlock≠some q
 ar:∃ cs,w.ownsRow b2 51 1 va AA.length cs∧∀ j (h:j<AA.length),∃ v,cs[j]? = some v∧Row b2 w v AA[j]∧∀ q,v.ownBlock=some q→va.ownBlock≠some q∧∀ i,i<3→(vs i).ownBlock≠some q
theorem Fam.keep {b2:Nat} {S:Nat→Prop} {w w' : World} {vs:Nat→Value} {xs:Nat→List Int} {va:Value} {AA:List (List Int)} (h:Fam b2 w vs xs va AA) (hk:Kept S w w') (hs:∀ k,b2≤k→¬ S k):Fam b2 w' vs xs va AA:=by
 refine ⟨fun i hi=>hk.row (h.rows i hi) (fun q e=>hs q (own_base (h.rows i hi) e)),h.ap,h.apa,?_⟩
 obtain ⟨cs,h1,h2⟩:=h.ar
 refine ⟨cs,hk.row h1 (fun q e=>hs q (World.ownsRow.lt h1 q e).1),fun j hj=>?_⟩
 obtain ⟨v,a1,a2,a3⟩:=h2 j hj
 exact ⟨v,a1,hk.row a2 (fun q e=>hs q (own_base a2 e)),a3⟩
theorem Fam.same {b2:Nat} {w w' : World} {vs:Nat→Value} {xs:Nat→List Int} {va:Value} {AA:List (List Int)} (h:Fam b2 w vs xs va AA) (hk:Same0 w w'):Fam b2 w' vs xs va AA:=h.keep hk (fun _ _ f=>f)
theorem Fam.push {b2:Nat} {w w1 w9:World} {vs:Nat→Value} {xs:Nat→List Int} {va:Value} {AA:List (List Int)} (h:Fam b2 w vs xs va AA) {i:Nat} (hi:i<3) {gg cap' l:Nat} {z:Int} (hl:(xs i).length=l) (hk:Same0 w w1) (hown:w9.ownsRow b2 3 1 (.slice (some ⟨gg,0,none⟩) (l+1) cap') (l+1) (iv (xs i) ++ [.int .i64 z])) (hgrow:w1.grownBy w9 (vs i).ownBlock) (hat:(vs i).ownBlock=some gg∨w.heap.size≤gg) {xs' : Nat→List Int} (e1:xs' i=xs i ++ [z]) (e2:∀ j,j<3→j≠i→xs' j=xs j) :
  Fam b2 w9 (fun j=>if j=i then .slice (some ⟨gg,0,none⟩) (l+1) cap' else vs j) xs' va AA∧Kept (fun q=>b2≤q) w w9:=by
 have kg:Kept (fun q=>(vs i).ownBlock=some q) w w9:=Kept.grown (Kept.mono hk (fun _ _ f=>f.elim)) hgrow (fun q e _=>e)
 have fresh:∀ (v:Value) (q:Nat),v.ownBlock=some q→q<w.heap.size→(vs i).ownBlock≠some q→q≠gg:=by
  intro v q _ h1 h2 e
  subst e
  rcases hat with f | f
  ·exact h2 f
  ·omega
 obtain ⟨cs,a1,a2⟩:=h.ar
 refine ⟨⟨?_,?_,?_,cs,kg.row a1 (fun q e f=>h.apa i hi q f e),fun j hj=>?_⟩,kg.mono (fun q _ e=>own_base (h.rows i hi) e)⟩
 ·intro j hj
  by_cases ej:j=i
  ·subst ej
   simp only [if_true]
   rw [e1]
   have:(xs j ++ [z]).length=l+1:=by simp [hl]
   show w9.ownsRow b2 3 1 _ (xs j ++ [z]).length _
   rw [this,iv_append];exact hown
  ·simp only [ej,if_false]
   rw [e2 j hj ej]
   exact kg.row (h.rows j hj) (fun q e f=>h.ap j i hj hi ej q e f)
 ·intro j k hj hkk hjk q e f
  by_cases ej:j=i
  ·subst ej
   simp only [if_true] at e
   have ek:k≠j:=fun g=>hjk g.symm
   simp only [ek,if_false] at f
   simp only [Value.ownBlock,Option.some.injEq] at e
   subst e
   exact fresh (vs k) gg f (World.ownsRow.lt (h.rows k hkk) gg f).2 (fun g=>h.ap k j hkk hj ek gg f g) rfl
  ·simp only [ej,if_false] at e
   by_cases ek:k=i
   ·subst ek
    simp only [if_true,Value.ownBlock,Option.some.injEq] at f
    subst f
    exact fresh (vs j) gg e (World.ownsRow.lt (h.rows j hj) gg e).2 (fun g=>h.ap j k hj hkk hjk gg e g) rfl
   ·simp only [ek,if_false] at f
    exact h.ap j k hj hkk hjk q e f
 ·intro j hj q e f
  by_cases ej:j=i
  ·subst ej
   simp only [if_true,Value.ownBlock,Option.some.injEq] at e
   subst e
   exact fresh va gg f (World.ownsRow.lt a1 gg f).2 (fun g=>h.apa j hj gg g f) rfl
  ·simp only [ej,if_false] at e
   exact h.apa j hj q e f
 ·obtain ⟨v,b1,b2', b3⟩:=a2 j hj
  refine ⟨v,b1,kg.row b2' (fun q e f=>(b3 q e).2 i hi f),fun q e=>⟨(b3 q e).1,fun k hkk f=>?_⟩⟩
  by_cases ek:k=i
  ·subst ek
   simp only [if_true,Value.ownBlock,Option.some.injEq] at f
   subst f
   exact fresh v gg e (World.ownsRow.lt b2' gg e).2 (fun g=>(b3 gg e).2 k hi g) rfl
  ·simp only [ek,if_false] at f
   exact (b3 q e).2 k hkk f
theorem Fam.more {b2:Nat} {w w1 w9:World} {vs:Nat→Value} {xs:Nat→List Int} {va:Value} {AA:List (List Int)} {cs0:List Value} (h:Fam b2 w vs xs va AA) {gg cap' : Nat} {v:Value} {ys:List Int} (hv:Row b2 w v ys) (hva:∀ q,v.ownBlock=some q→va.ownBlock≠some q∧∀ i,i<3→(vs i).ownBlock≠some q) (hcs:w.ownsRow b2 51 1 va AA.length cs0) (hk:Same0 w w1) (hown:w9.ownsRow b2 51 1 (.slice (some ⟨gg,0,none⟩) (AA.length+1) cap') (AA.length+1) (cs0 ++ [v])) (hgrow:w1.grownBy w9 va.ownBlock) (hat:va.ownBlock=some gg∨w.heap.size≤gg) :
  Fam b2 w9 vs xs (.slice (some ⟨gg,0,none⟩) (AA.length+1) cap') (AA ++ [ys])∧Kept (fun q=>b2≤q) w w9:=by
 have kg:Kept (fun q=>va.ownBlock=some q) w w9:=Kept.grown (Kept.mono hk (fun _ _ f=>f.elim)) hgrow (fun q e _=>e)
 have fresh:∀ (q:Nat),q<w.heap.size→va.ownBlock≠some q→q≠gg:=by
  intro q h1 h2 e
  subst e
  rcases hat with f | f
  ·exact h2 f
  ·omega
 obtain ⟨cs,a1,a2⟩:=h.ar
 have hcc:cs=cs0:=by
  have l1:=a1.1
  have l2:=hcs.1
  refine List.ext_getElem? (fun i=>?_)
  by_cases hi:i<AA.length
  ·rcases a1.2 with ⟨e,_⟩ | ⟨g,cap,cur,hv', _⟩
   ·have:=a1.2
    rcases hcs.2 with ⟨_,e0⟩ | ⟨g,cap,cur,hv', _⟩
    ·omega
    ·rw [e] at hv'; cases hv'
   ·have c1:=World.ownsRow.cellAt (g:=g) (cap:=cap) (hv' ▸ a1) i (by omega)
    have c2:=World.ownsRow.cellAt (g:=g) (cap:=cap) (hv' ▸ hcs) i (by omega)
    rw [← c1,← c2]
  ·rw [List.getElem?_eq_none (by omega),List.getElem?_eq_none (by omega)]
 subst hcc
 have lcs:cs.length=AA.length:=by have:=a1.1;omega
 refine ⟨⟨fun i hi=>kg.row (h.rows i hi) (fun q e f=>h.apa i hi q e f),h.ap,fun i hi q e f=>?_,cs ++ [v],by simpa using hown,fun j hj=>?_⟩,kg.mono (fun q _ e=>(World.ownsRow.lt a1 q e).1)⟩
 ·simp only [Value.ownBlock,Option.some.injEq] at f
  subst f
  exact fresh gg (World.ownsRow.lt (h.rows i hi) gg e).2 (h.apa i hi gg e) rfl
 ·by_cases e:j=AA.length
  ·subst e
   refine ⟨v,by rw [List.getElem?_append_right (by omega),lcs];simp,?_,fun q e=>⟨fun f=>?_,(hva q e).2⟩⟩
   ·have e3:(AA ++ [ys])[AA.length]'hj=ys:=by simp
    rw [e3]
    exact kg.row hv (fun q e f=>(hva q e).1 f)
   ·simp only [Value.ownBlock,Option.some.injEq] at f
    subst f
    exact fresh gg (World.ownsRow.lt hv gg e).2 (hva gg e).1 rfl
  ·have hj' : j<AA.length:=by simp at hj;omega
   obtain ⟨u,b1,b2', b3⟩:=a2 j hj'
   refine ⟨u,by rw [List.getElem?_append_left (by omega)];exact b1,?_,fun q e=>⟨fun f=>?_,(b3 q e).2⟩⟩
   ·rw [List.getElem_append_left hj']
    exact kg.row b2' (fun q e f=>(b3 q e).1 f)
   ·simp only [Value.ownBlock,Option.some.injEq] at f
    subst f
    exact fresh gg (World.ownsRow.lt b2' gg e).2 (b3 gg e).1 rfl
end Go.Proofs.YtmjgnfkbnofjoaaGreatDoor
namespace Go.Proofs.YtmjgnfkbnofjoaaGreatDoor
set_option maxRecDepth 100000
set_option linter.unusedVariables false
open Go.RowKit
attribute [local go_sem ↓] Go.wp_at_zero Go.wp_at_succ
structure TwoR (w0 w:World) (vo vt:Value) (O W:List Int):Prop where
 o:Row w0.heap.size w vo O
 t:Row w0.heap.size w vt W
 ap:∀ q,vo.ownBlock=some q→vt.ownBlock≠some q
 kept:Same0 w0 w
end Go.Proofs.YtmjgnfkbnofjoaaGreatDoor
