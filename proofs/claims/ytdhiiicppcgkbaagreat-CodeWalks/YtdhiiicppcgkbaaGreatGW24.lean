import Derived.Test.YtdhiiicppcgkbaaGreatGW23
import Derived.Test.YtdhiiicppcgkbaaGreatGW22
import Derived.Test.YtdhiiicppcgkbaaGreatGW06
namespace Go.Proofs.YtdhiiicppcgkbaaGreat
set_option linter.unusedVariables false
theorem good_two {L:List Sym} {a b:List Int} {ap:Int} (h0:0≤ap) (x3:IsT L a) (y3:IsT L b) {vv:Int→List Int} (vT:∀ n,n<0→IsT L (vv n)) {T:List Int} (va:subV vv a=T) (vb:subV vv (b.map (shF ap))=T) :
  ∃ val:Int→List Int,Good L (jl a b ap) val∧val 0=T∧val (a.length:Nat)=T∧∀ n,n<0→val n=vv n:=by
 have hT:=trs_jl (apart:=ap) h0 x3 y3
 obtain ⟨val,hval⟩:∃ val:Int→List Int,val=fun x=>if x<0 then vv x else subV vv (cutJ L (jl a b ap) x.toNat):=⟨_,rfl⟩
 have vn:∀ n,n<0→val n=vv n:=fun n hn=>by rw [hval];simp only;rw [if_pos hn]
 have vp:∀ p:Nat,val p=subV vv (cutJ L (jl a b ap) p):=fun p=>by rw [hval];simp only;rw [if_neg (by omega),Int.toNat_natCast]
 refine ⟨val,⟨fun p hp hs=>?_,fun p hp hs=>?_,fun x hx=>?_⟩,?_,?_,vn⟩
 ·rw [vp,cut_sym hT hp,subV_cons,if_neg (by omega),subV_flat]
  simp only [vp];rfl
 ·rw [vp,cut_sym hT hp,subV_cons,if_pos hs,vn _ hs]
  have:kidsL L (jl a b ap) p=[]:=by unfold kidsL;rw [show arN L (at' (jl a b ap) p)=0 by unfold arN;rw [if_pos hs]];rfl
  rw [this];simp [subV]
 ·by_cases h:x<0
  ·rw [vn x h];exact vT x h
  ·obtain ⟨p,rfl⟩:=Int.eq_ofNat_of_zero_le (Int.not_lt.1 h)
   have:=vp p
   show IsT L (val (p:Int))
   rw [this]
   unfold IsT
   rw [need_subV _ (fun n _ hn=>vT n hn)]
   exact cut_isT hT (by have:=hx.2;omega)
 ·have:=vp 0
  rw [show ((0:Nat):Int)=0 from rfl] at this
  rw [this,← va]
  congr 1
  unfold cutJ
  rw [show endN L (jl a b ap) 0=a.length from end_first (b:=b.map (shF ap)) x3]
  unfold jl
  rw [List.drop_zero,Nat.sub_zero,List.take_left]
 ·rw [vp,← vb]
  congr 1
  unfold cutJ
  rw [show endN L (jl a b ap) a.length=a.length+(b.map (shF ap)).length from end_second (a:=a) (isT_sh h0 y3)]
  unfold jl
  rw [List.drop_left,Nat.add_sub_cancel_left,List.take_length]
theorem closed_good {L:List Sym} {a b:List Int} {ap:Nat} (hap:ap≤99) (ha:checkE L a=0) (hb:checkE L b=0) {ld:Int→Int} (hc:Closed L (jl a b ap) a.length ld) {u:List Int} (hu:Val L (jl a b ap) ld 0 u) :
  ∃ val:Int→List Int,Good L (jl a b ap) val∧val 0=u∧val (a.length:Nat)=u∧∀ n,n<0→IsT L (val n):=by
 obtain ⟨x1,x2,x3⟩:=checkE_zero.1 ha
 obtain ⟨y1,y2,y3⟩:=checkE_zero.1 hb
 have hlow:=jl_low ha hb hap
 obtain ⟨f,hf⟩:=varT_some L (jl a b ap) ld
 obtain ⟨e1,e2⟩:=both_sub (by omega) x3 y3 hc hf hu
 obtain ⟨vv,hvv⟩:∃ vv:Int→List Int,vv=fun n=>if -198≤n then f n else [n]:=⟨_,rfl⟩
 have v1:∀ n, -198≤n→vv n=f n:=fun n h=>by rw [hvv];simp only;rw [if_pos h]
 have vT:∀ n,n<0→IsT L (vv n):=by
  intro n hn
  by_cases h : -198≤n
  ·rw [v1 n h];exact hf.isT hc.trs hc.ok hn ⟨h,by omega⟩
  ·rw [hvv];simp only;rw [if_neg h];exact isT_var L hn
 have va:subV vv a=u:=by
  rw [e1]
  exact subV_congr a (fun n hn _=>v1 n (hlow n (by unfold jl;simp [hn])))
 have vb:subV vv (b.map (shF ap))=u:=by
  rw [e2]
  exact subV_congr _ (fun n hn _=>v1 n (hlow n (by unfold jl;exact List.mem_append_right _ hn)))
 obtain ⟨val,g1,g2,g3,g4⟩:=good_two (ap:=(ap:Int)) (by omega) x3 y3 vT va vb
 exact ⟨val,g1,g2,g3,fun n hn=>by rw [g4 n hn];exact vT n hn⟩
def nsF (L:List Sym) (J:List Int) (m:Nat):Option ((Int→Int) × Int):=
 match netF L J ((J.length+1) * J.length+2) (ld0 J) [(0,m)] with
 | some (some ld)=>
  match sizF L J ld (J.length+1) (fun _=>0) 0 with
  | some (k,_)=>if k = -1 then none else some (ld,k)
  | none=>none
 | _=>none
theorem nsol_any {L:List Sym} {J:List Int} (hT:Trs L J) (hv:∀ x∈J, -198≤x) {m:Nat} (h0:0<J.length) (hm:m<J.length) :
  ∃ res,NOk L J res ((J.length+1) * J.length+2) (ld0 J) [(0,m)]∧(res=none→nsF L J m=none)∧∀ ld,res=some ld→Closed L J m ld∧∃ k sz', sizF L J ld (J.length+1) (fun _=>0) 0=some (k,sz')∧(k = -1→nsF L J m=none)∧(k ≠ -1→nsF L J m=some (ld,k)∧∃ u,Val L J ld 0 u∧k=min (u.length:Int) 2001):=by
 have hl:=ld0_ok hv
 have hroot:=roots_len J (ld0 J)
 have hb:=Nat.mul_le_mul_left (J.length+1) hroot
 have hp:∀ r∈[((0:Nat),m)],r.1<J.length∧r.2<J.length:=fun r hr=>by simp at hr;rw [hr];exact ⟨h0,hm⟩
 obtain ⟨res,e1⟩:=net_ends hT ((J.length+1) * J.length+2) (ld0 J) [(0,m)] hl hp (by simp;omega)
 have hN:NOk L J res ((J.length+1) * J.length+2) (ld0 J) [(0,m)]:=⟨hT,hl,hp,e1,by simp;omega⟩
 refine ⟨res,hN,?_,?_⟩
 ·intro e
  rw [e] at e1
  unfold nsF;rw [e1]
 ·intro ld e
  subst e
  have hc:=closed_net hN
  have hz:SzOk (fun _=>0):=fun p=>.inr ⟨by simp,by simp⟩
  have hk:Known L J ld (fun _=>0):=fun p _ _ h=>by simp at h
  have p0:UPart J 0:=part_nat (p:=0) h0
  obtain ⟨k,sz', g1,g2⟩:=sizF_ends hT hc.ok (J.length+1) (fun _=>0) 0 p0 hz (by have:=unk_le J.length (fun _=>0);omega)
  obtain ⟨-,g4⟩:=sizF_known hT hc.ok _ _ _ _ _ p0 hz hk g1
  refine ⟨hc,k,sz', g1,?_,?_⟩
  ·intro e
   unfold nsF;rw [e1];simp only [g1];rw [if_pos e]
  ·intro e
   exact ⟨by unfold nsF;rw [e1];simp only [g1];rw [if_neg e],g4 e⟩
theorem net_good {L:List Sym} {J:List Int} (hT:Trs L J) (hv:∀ x∈J, -198≤x) {m:Nat} (h0:0<J.length) (hm:m<J.length) {val:Int→List Int} (hg:Good L J val) (he:val 0=val m) :
  ∃ ld k u,nsF L J m=some (ld,k)∧Closed L J m ld∧Val L J ld 0 u∧k=min (u.length:Int) 2001∧val 0=subV val u:=by
 obtain ⟨res,hU,hR1,hR2⟩:=nsol_any hT hv h0 hm
 have hst:∀ x,UPart J x→val (ld0 J x)=val x:=by
  intro x hx
  by_cases h:0≤x∧at' J x<0
  ·have e:ld0 J x=at' J x:=by unfold ld0;rw [if_pos h]
   obtain ⟨p,rfl⟩:=Int.eq_ofNat_of_zero_le h.1
   rw [e]
   exact (hg.var p (by have:=hx.2;omega) h.2).symm
  ·have e:ld0 J x=x:=by unfold ld0;rw [if_neg h]
   rw [e]
 obtain ⟨ld,rfl,hc⟩:=net_least (good_inj hT hg) _ _ _ _ hU hst (fun r hr=>by
  simp only [List.mem_cons,List.not_mem_nil,or_false] at hr
  subst hr
  exact he)
 obtain ⟨hcl,k,sz', hs,hk1,hk2⟩:=hR2 ld rfl
 obtain ⟨u,hu,hvu⟩:=val_exists hT hcl.ok hg hc _ 0 (Nat.le_refl _) (part_nat (p:=0) h0)
 have hk:k ≠ -1:=fun e=>(sizF_none hT hcl.ok _ _ _ _ _ (part_nat (p:=0) h0) (fun p=>.inr ⟨by simp,by simp⟩) hs).2 e (fun p _ _ f=>by simp at f) u hu
 obtain ⟨e1,u', hu', hku⟩:=hk2 hk
 have:=hu'.uniq hu
 subst this
 exact ⟨ld,k,u', e1,hcl,hu,hku,hvu⟩
theorem net_same {L:List Sym} {a b:List Int} {ap:Nat} (hap:ap≤99) (ha:checkE L a=0) (hb:checkE L b=0) :
  (nsF L (jl a b ap) a.length=none→solF L (jl a b ap) a.length=none)∧∀ ld k u,nsF L (jl a b ap) a.length=some (ld,k)→Closed L (jl a b ap) a.length ld→Val L (jl a b ap) ld 0 u→∃ v,ComU L a b ap v∧v.length=u.length∧wrF [] u=wrF [] v:=by
 obtain ⟨x1,x2,x3⟩:=checkE_zero.1 ha
 obtain ⟨y1,y2,y3⟩:=checkE_zero.1 hb
 have hT:=trs_jl (apart:=(ap:Int)) (by omega) x3 y3
 have hv:=jl_low ha hb hap
 have p1:=isT_pos x3
 have p2:=isT_pos y3
 have hl:(jl a b ap).length=a.length+b.length:=by simp [jl]
 constructor
 ·intro h
  rcases com_u hap ha hb with e | ⟨u,ld,k,h1,hc,hu,h3⟩
  ·exact e
  ·obtain ⟨val,g1,g2,g3,g4⟩:=closed_good hap ha hb hc hu
   obtain ⟨ld', k', u', e1,_⟩:=net_good hT hv (m:=a.length) (by omega) (by omega) g1 (by rw [g2,g3])
   rw [h] at e1;cases e1
 ·intro ld k u h hc hu
  obtain ⟨val,g1,g2,g3,g4⟩:=closed_good hap ha hb hc hu
  obtain ⟨ld', k', v,e1,hc', hv', hk', ev,_⟩:=sol_good hT hv (m:=a.length) (by omega) (by omega) g1 (by rw [g2,g3])
  obtain ⟨val2,f1,f2,f3,f4⟩:=closed_good hap ha hb hc' hv'
  obtain ⟨ld2,k2,u2,d1,d2,d3,d4,d5⟩:=net_good hT hv (m:=a.length) (by omega) (by omega) f1 (by rw [f2,f3])
  rw [h] at d1
  simp only [Option.some.injEq,Prod.mk.injEq] at d1
  obtain ⟨rfl,rfl⟩:=d1
  have:=d3.uniq hu
  subst this
  rw [g2] at ev
  rw [f2] at d5
  have e:=both_ways (g:=val) (g' := val2) (fun n _ hn=>g4 n hn) (fun n _ hn=>f4 n hn) ev d5
  have hll:=congrArg List.length e
  rw [wrF_length,wrF_length] at hll
  exact ⟨v,⟨ld', k', e1,hc', hv', hk'⟩,hll.symm,e⟩
end Go.Proofs.YtdhiiicppcgkbaaGreat
namespace Go.Proofs.YtdhiiicppcgkbaaGreat
set_option maxRecDepth 100000
set_option linter.unusedVariables false
open Go.RowKit
attribute [local go_sem ↓] Go.wp_at_zero Go.wp_at_succ
def SolQ (L:List Sym) (ap:Bool) (T J:List Int) (la:Nat) (w:World) (e:Ending) (w' : World):Prop:=Same0 w w' ∧ (nsF L J la=none→e=.returned (.tuple #[.pointer none,.int .i64 0]))∧∀ ld k,nsF L J la=some (ld,k)→∃ B,e=.returned (.tuple #[.pointer (some ⟨B.nb,0,none⟩),.int .i64 k])∧NAt L ap B w' T J ld∧B.top≤w'.heap.size
theorem apI_nat (ap:Bool):∃ k:Nat,apI ap=(k:Int)∧k≤99:=by cases ap;exact ⟨0,rfl,by omega⟩;exact ⟨99,rfl,by omega⟩
theorem jl_syms {a b:List Int} {ap:Bool} {p:Nat} (hp:p<(jl a b (apI ap)).length) (h:0≤at' (jl a b (apI ap)) p):at' (a++b) p=at' (jl a b (apI ap)) p:=by
 have hl:p<a.length+b.length:=by simpa [jl] using hp
 have e:=at_jl (ap:=ap) hl
 have h0:0≤apI ap:=by unfold apI;split <;> omega
 rw [e] at h ⊢
 by_cases q:at' (a++b) p<0∧a.length≤p
 ·rw [if_pos q] at h;omega
 ·rw [if_neg q]
set_option maxHeartbeats 4000000 in
theorem solved_any {w:World} {rv:Value} {L:List Sym} {ao bo:Option Addr} {ac bc:Nat} {a b:List Int} (hca:checkE L a=0) (hcb:checkE L b=0) {ap:Bool} (cL:Calls Tryz.prog 184 #[rv,.slice ao a.length ac,.slice bo b.length bc,.bool ap] w (LMade w L ap a b)) :
  Calls Tryz.prog 165 #[rv,.slice ao a.length ac,.slice bo b.length bc,.bool ap] w (SolQ L ap (a++b) (jl a b (apI ap)) a.length w):=by
 obtain ⟨i0,hi0,hz0,hz1,hz2⟩:=info_parts info_intN
 obtain ⟨a1,a2,a3⟩:=checkE_zero.1 hca
 obtain ⟨b1,b2,b3⟩:=checkE_zero.1 hcb
 have p1:=isT_pos a3
 have p2:=isT_pos b3
 obtain ⟨k9,hk9,hk99⟩:=apI_nat ap
 have hap0:0≤apI ap:=by omega
 have hT:=trs_jl (apart:=apI ap) hap0 a3 b3
 have hv:∀ x∈jl a b (apI ap), -198≤x:=by rw [hk9];exact jl_low hca hcb hk99
 obtain ⟨cl0,ρ0,hr0⟩:=nr_zero (ap:=ap) (fun x hx=>((badE_zero.1 a2) x hx).2) (fun x hx=>((badE_zero.1 b2) x hx).2)
 have hsy:∀ p:Nat,p<(jl a b (apI ap)).length→0≤at' (jl a b (apI ap)) p→at' (a++b) p=at' (jl a b (apI ap)) p:=fun p hp h=>jl_syms hp h
 unfold LMade at cL
 obtain ⟨J,hJ⟩:∃ J,jl a b (apI ap)=J:=⟨_,rfl⟩
 obtain ⟨T,hTT⟩:∃ T,a++b=T:=⟨_,rfl⟩
 have hJl:J.length=a.length+b.length:=by rw [← hJ];simp [jl]
 rw [hJ] at hT hv hr0 cL hsy ⊢
 rw [hTT] at hr0 cL hsy ⊢
 obtain ⟨up0', hup0⟩:∃ u,up0 ap (a.length+b.length) a.length T=u:=⟨_,rfl⟩
 obtain ⟨rep0', hrep0⟩:∃ u,rep0 (a.length+b.length) T=u:=⟨_,rfl⟩
 rw [hup0,hrep0] at hr0 cL
 obtain ⟨la,hla⟩:∃ la,a.length=la:=⟨_,rfl⟩
 obtain ⟨lb,hlb⟩:∃ lb,b.length=lb:=⟨_,rfl⟩
 rw [hla] at cL hJl a1 p1 ⊢
 rw [hlb] at cL hJl b1 p2 ⊢
 obtain ⟨res,hN,hR1,hR2⟩:=nsol_any hT hv (m:=la) (by omega) (by omega)
 have CJ:Hid (∀ B w1,NC L B w1 T J up0' rep0' → B.top≤w1.heap.size→Calls Tryz.prog 185 #[.pointer (some ⟨B.nb,0,none⟩),.int .i64 0,.int .i64 (la:Int)] w1 (NEnd L ap B T J res w1)):=by
  intro B w1 h1 h2
  exact njoin_any (a:=0) (m:=la) ⟨_,_,_,_,h1,hr0⟩ (by omega) hsy h2 hN
 clear hr0 hsy hup0 hrep0 hla hlb hJ hTT hk9 hca hcb a2 b2 a3 b3
 cases res with
 | none=>
  have HX:Hid (∀ w', Same0 w w' → SolQ L ap T J la w (.returned (.tuple #[.pointer none,.int .i64 0])) w'):=by
   intro w' hk
   refine ⟨hk,fun _=>rfl,fun ld k e=>?_⟩
   rw [hR1 rfl] at e;cases e
  clear hN hR1 hR2 hT hv
  go_enter Tryz.func165,Tryz.ntmps165
  go_wp2_with (first | (go_at_call 184;refine cL.mono ?_;rintro e w1 ⟨B,rfl,hC1,ht1,hk1,hu1,hb1⟩) | (go_at_call 185;refine (CJ.out B w1 hC1 ht1).mono ?_;rintro e w2 ⟨-,hj2,hk2⟩;obtain rfl:=hj2 rfl))
  go_ret2
  exact HX.out _ (hk1.trans hk2 (fun q hq f=>by rcases f with f | f <;> omega))
 | some ld=>
  obtain ⟨hcl,k,sz', hs,hk1,hk2⟩:=hR2 ld rfl
  obtain ⟨M,hM⟩:∃ M,J.length+200=M:=⟨_,rfl⟩
  have hm1:∀ w:World,(Instr.makeSlice 22 (.int .i64 (M:Int)) (.int .i64 (M:Int))).run Tryz.prog w=.ok (.slice (some ⟨w.heap.size,0,none⟩) M M) (w.alloc (.cells (madeCells #[.int .i64 0] M) 3)):=fun w=>by
   have:=run_make w 22 3 i0 _ Tryz.underlying22 hi0 hz0 .i64 .i64 (M:Int) (M:Int) (by omega) (by omega) (by rw [hz2];omega) (by omega)
   simpa [hz1,Value.cells] using this
  have CS:Hid (∀ B w2 up rep cl ρ,NC L B w2 T J up rep→NR ap J up rep cl ρ ld→B.top≤w2.heap.size→Calls Tryz.prog 186 #[.pointer (some ⟨B.nb,0,none⟩),.slice (some ⟨w2.heap.size,0,none⟩) M M,.int .i64 0] (w2.alloc (.cells (madeCells #[.int .i64 0] M) 3)) (NSPost ap J rep cl w2.heap.size (w2.alloc (.cells (madeCells #[.int .i64 0] M) 3)) k sz')):=by
   intro B w2 up rep cl ρ h1 h2 h3
   subst hM
   exact nsize_any hT hcl.ok (by omega) h2 h3 _ _ _ _ 0 k sz' (h1.same (Kept.alloc (Kept.refl _ w2) _)) (nums_new w2 (J.length+200)) (fun c _ _=>⟨fun p _=>rfl,fun _=>.inl rfl⟩) (by omega) (fun p=>.inr ⟨by simp,by simp⟩) hs
  have C3:Hid (∀ B w2 up rep,NC L B w2 T J up rep→w2.cell? ⟨B.nb,3,none⟩=some (.slice (some ⟨B.ub,0,none⟩) M B.uc)):=by
   intro B w2 up rep h1
   rw [← hM];exact h1.cells.2.2.1
  have K4:Hid (∀ (B:NB) (w1 w2 w4:World),Same0 w w1→Kept B.Two w1 w2→w.heap.size≤B.ub→w.heap.size≤B.rb→Kept (fun q=>q=w2.heap.size) (w2.alloc (.cells (madeCells #[.int .i64 0] M) 3)) w4→Same0 w w4):=by
   intro B w1 w2 w4 q1 q2 q3 q4 q5
   have s1:=q1.size
   have s2:=q2.size
   have k2:Same0 w w2:=q1.trans q2 (fun q hq f=>by rcases f with f | f <;> omega)
   exact (k2.trans' (Kept.alloc (Kept.refl _ w2) _)).trans q5 (fun q hq f=>by omega)
  by_cases hkk:k = -1
  ·have HX:Hid (∀ w', Same0 w w' → SolQ L ap T J la w (.returned (.tuple #[.pointer none,.int .i64 0])) w'):=by
    intro w' hk
    refine ⟨hk,fun _=>rfl,fun ld k e=>?_⟩
    rw [hk1 hkk] at e;cases e
   have CS2:Hid (∀ B w2 up rep cl ρ,NC L B w2 T J up rep→NR ap J up rep cl ρ ld→B.top≤w2.heap.size→Calls Tryz.prog 186 #[.pointer (some ⟨B.nb,0,none⟩),.slice (some ⟨w2.heap.size,0,none⟩) M M,.int .i64 0] (w2.alloc (.cells (madeCells #[.int .i64 0] M) 3)) fun e w4=>e=.returned (.int .i64 (-2))∧Kept (fun q=>q=w2.heap.size) (w2.alloc (.cells (madeCells #[.int .i64 0] M) 3)) w4):=by
    intro B w2 up rep cl ρ h1 h2 h3
    refine (CS.out B w2 up rep cl ρ h1 h2 h3).mono ?_
    rintro e w4 ⟨q1,mz', _,_,q4⟩
    rw [if_pos hkk] at q1
    exact ⟨q1,q4⟩
   clear hN hR1 hR2 hT hv CS hs hcl hk1 hk2 hM hkk
   go_enter Tryz.func165,Tryz.ntmps165
   go_wp2_with (first | (go_at_call 184;refine cL.mono ?_;rintro e w1 ⟨B,rfl,hC1,ht1,hk1,hu1,hb1⟩) | (go_at_call 185;refine (CJ.out B w1 hC1 ht1).mono ?_;rintro e w2 ⟨hj2, -,hk2⟩;obtain ⟨rfl,up2,rep2,cl2,ρ2,hC2,hr2⟩:=hj2 ld rfl;have c3:=C3.out B w2 up2 rep2 hC2;have ht2:=Nat.le_trans ht1 hk2.size) | (go_at_call 186;refine (CS2.out B w2 up2 rep2 cl2 ρ2 hC2 hr2 ht2).mono ?_;rintro e w4 ⟨rfl,hk4⟩))
   go_ret2
   exact HX.out _ (K4.out B w1 w2 _ hk1 hk2 hu1 hb1 hk4)
  ·obtain ⟨e1,u,hu,hku⟩:=hk2 hkk
   have hpos:0≤k:=by omega
   have HX:Hid (∀ B w', Same0 w w' → NAt L ap B w' T J ld→B.top≤w'.heap.size→SolQ L ap T J la w (.returned (.tuple #[.pointer (some ⟨B.nb,0,none⟩),.int .i64 k])) w'):=by
    intro B w' q1 q2 q3
    refine ⟨q1,fun e=>(by rw [e1] at e;cases e),fun ld' k' e=>?_⟩
    rw [e1] at e
    simp only [Option.some.injEq,Prod.mk.injEq] at e
    obtain ⟨rfl,rfl⟩:=e
    exact ⟨B,rfl,q2,q3⟩
   have CS2:Hid (∀ B w2 up rep cl ρ,NC L B w2 T J up rep→NR ap J up rep cl ρ ld→B.top≤w2.heap.size→Calls Tryz.prog 186 #[.pointer (some ⟨B.nb,0,none⟩),.slice (some ⟨w2.heap.size,0,none⟩) M M,.int .i64 0] (w2.alloc (.cells (madeCells #[.int .i64 0] M) 3)) fun e w4=>e=.returned (.int .i64 k)∧NAt L ap B w4 T J ld∧B.top≤w4.heap.size∧Kept (fun q=>q=w2.heap.size) (w2.alloc (.cells (madeCells #[.int .i64 0] M) 3)) w4):=by
    intro B w2 up rep cl ρ h1 h2 h3
    refine (CS.out B w2 up rep cl ρ h1 h2 h3).mono ?_
    rintro e w4 ⟨q1,mz', _,_,q4⟩
    rw [if_neg hkk] at q1
    have h1' := h1.same (Kept.alloc (Kept.refl _ w2) (.cells (madeCells #[.int .i64 0] M) 3))
    refine ⟨q1,⟨up,rep,cl,ρ,h1'.kept q4 (fun q hq f=>by omega),h2⟩,?_,q4⟩
    have:=q4.size
    rw [World.size_alloc] at this
    omega
   clear hN hR1 hR2 hT hv CS hs hcl hk1 hk2 hM hku hu e1
   go_enter Tryz.func165,Tryz.ntmps165
   go_wp2_with (first | (go_at_call 184;refine cL.mono ?_;rintro e w1 ⟨B,rfl,hC1,ht1,hk1,hu1,hb1⟩) | (go_at_call 185;refine (CJ.out B w1 hC1 ht1).mono ?_;rintro e w2 ⟨hj2, -,hk2⟩;obtain ⟨rfl,up2,rep2,cl2,ρ2,hC2,hr2⟩:=hj2 ld rfl;have c3:=C3.out B w2 up2 rep2 hC2;have ht2:=Nat.le_trans ht1 hk2.size) | (go_at_call 186;refine (CS2.out B w2 up2 rep2 cl2 ρ2 hC2 hr2 ht2).mono ?_;rintro e w4 ⟨rfl,hA4,ht4,hk4⟩))
   go_ret2
   exact HX.out B _ (K4.out B w1 w2 _ hk1 hk2 hu1 hb1 hk4) hA4 ht4
theorem rclash_any {w:World} {rv:Value} {L:List Sym} {ao bo:Option Addr} {ac bc:Nat} {a b:List Int} (hca:checkE L a=0) (hcb:checkE L b=0) (cS:Calls Tryz.prog 165 #[rv,.slice ao a.length ac,.slice bo b.length bc,.bool true] w (SolQ L true (a++b) (jl a b (apI true)) a.length w)) :
  Calls Tryz.prog 126 #[rv,.slice ao a.length ac,.slice bo b.length bc] w fun e w' => e=.returned (.bool (claB L a b))∧Same0 w w' := by
 obtain ⟨a1,a2,a3⟩:=checkE_zero.1 hca
 obtain ⟨b1,b2,b3⟩:=checkE_zero.1 hcb
 have p1:=isT_pos a3
 have p2:=isT_pos b3
 have hT:=trs_jl (apart:=(99:Int)) (by omega) a3 b3
 have hv:∀ x∈jl a b 99, -198≤x:=jl_low hca hcb (ap:=99) (by omega)
 have hJl:(jl a b 99).length=a.length+b.length:=by simp [jl]
 obtain ⟨n1,n2⟩:=net_same (ap:=99) (by omega) hca hcb
 obtain ⟨res,hN,hR1,hR2⟩:=nsol_any hT hv (m:=a.length) (by omega) (by omega)
 have e0:apI true=99:=rfl
 rw [e0] at cS
 have ec:claE L a b=0:=by unfold claE;rw [if_neg (by rw [hca];simp),hcb]
 cases hs:nsF L (jl a b 99) a.length with
 | none=>
  have hs2:=n1 hs
  have e1:claB L a b=true:=by unfold claB;rw [ec,show solF L (jl a b 99) a.length=none from hs2];rfl
  rw [e1]
  have cS2:Calls Tryz.prog 165 #[rv,.slice ao a.length ac,.slice bo b.length bc,.bool true] w fun e w' => e=.returned (.tuple #[.pointer none,.int .i64 0])∧Same0 w w' := cS.mono (fun e w' g=>⟨g.2.1 hs,g.1⟩)
  clear cS e1 hR1 hR2 hN n1 n2 hT hv hs ec e0 hs2
  go_enter Tryz.func126,Tryz.ntmps126
  go_wp2_with (first | (go_at_call 165;refine cS2.mono ?_;rintro e w1 ⟨rfl,hk1⟩))
  go_ret
  exact ⟨rfl,hk1⟩
 | some r=>
  obtain ⟨ld,k⟩:=r
  have hfull:Closed L (jl a b 99) a.length ld∧∃ u,Val L (jl a b 99) ld 0 u∧k=min (u.length:Int) 2001:=by
   cases res with
   | none=>rw [hR1 rfl] at hs;cases hs
   | some ld' =>
    obtain ⟨g1,k', sz', g2,g3,g4⟩:=hR2 ld' rfl
    by_cases e:k' = -1
    ·rw [g3 e] at hs;cases hs
    ·obtain ⟨f1,f2⟩:=g4 e
     rw [f1] at hs
     simp only [Option.some.injEq,Prod.mk.injEq] at hs
     obtain ⟨rfl,rfl⟩:=hs
     exact ⟨g1,f2⟩
  obtain ⟨hcl,u,hu,hku⟩:=hfull
  obtain ⟨v,⟨ld2,k2,hsol,_⟩,hvl,hwr⟩:=n2 ld k u hs hcl hu
  have p0:UPart (jl a b 99) 0:=part_nat (p:=0) (by omega)
  have hupos:=isT_pos (hu.isT hT hcl.ok p0)
  have hk0:¬ k=0:=by omega
  have e1:claB L a b=false:=by unfold claB;rw [show solF L (jl a b 99) a.length=some (ld2,k2) from hsol];simp
  rw [e1]
  have cS2:Calls Tryz.prog 165 #[rv,.slice ao a.length ac,.slice bo b.length bc,.bool true] w fun e w' => (∃ B:NB,e=.returned (.tuple #[.pointer (some ⟨B.nb,0,none⟩),.int .i64 k]))∧Same0 w w' := cS.mono (fun e w' g=>⟨(g.2.2 ld k hs).imp (fun B h=>h.1),g.1⟩)
  clear cS e1 hR1 hR2 hN n1 n2 hT hv hs ec e0 hcl hu hku hwr hsol
  go_enter Tryz.func126,Tryz.ntmps126
  go_wp2_with (first | (go_at_call 165;refine cS2.mono ?_;rintro e w1 ⟨⟨B,rfl⟩,hk1⟩))
  go_ret
  exact ⟨by simp [hk0],hk1⟩
end Go.Proofs.YtdhiiicppcgkbaaGreat
