import Derived.Test.YtdhiiicppcgkbaaGreatGW07
import Derived.Test.YtdhiiicppcgkbaaGreatGW02
import Derived.Deep.LoopGhost
import Derived.Test.YtdhiiicppcgkbaaGreatGW04
import Derived.Test.YtdhiiicppcgkbaaGreatGW03
import Derived.Deep.WholeRow
import Derived.Test.YtdhiiicppcgkbaaGreatGW06
import Derived.Test.YtdhiiicppcgkbaaGreatProg
import Derived.KernelRfl
import Derived.Handy
import Derived.LaidEql
import Derived.Stop.Asserts
import Derived.RowKitTokens
import Derived.SizedLaws
import Derived.Deep.RegionHeld3
namespace Go.Proofs.YtdhiiicppcgkbaaGreat
set_option maxRecDepth 100000
set_option linter.unusedVariables false
open Go.RowKit
attribute [local go_sem ↓] Go.wp_at_zero Go.wp_at_succ
def JB.Mem (B:JB) (k:Nat):Prop:=k=B.jb∨k=B.sb∨k=B.zb
theorem JB.way_mem {B:JB} {k:Nat} (h:B.Way k):B.Mem k:=by
 rcases h with e | e
 ·exact .inl e
 ·exact .inr (.inl e)
theorem JAt.setSize {L:List Sym} {w:World} {B:JB} {J:List Int} {ld:Int→Int} {sz:Nat→Int} (h:JAt L B w J ld sz) (p:Nat) (v:Int):JAt L B (w.setCell ⟨B.zb,p,none⟩ (.int .i64 v)) J ld (updN sz p v)∧Kept B.Mem w (w.setCell ⟨B.zb,p,none⟩ (.int .i64 v)):=by
 obtain ⟨nx,ρ,h1,h2⟩:=h
 have hk:Kept (fun k=>k=B.zb) w (w.setCell ⟨B.zb,p,none⟩ (.int .i64 v)):=Kept.setCell (S:=fun k=>k=B.zb) (p:=⟨B.zb,p,none⟩) (Kept.refl _ _) (fun _=>rfl) _
 have ap:=h1.ap
 exact ⟨⟨nx,ρ,⟨h1.head.kept hk ap.a4,h1.list.kept hk (fun e=>ap.a8 e.symm),h1.ends.kept hk (fun e=>ap.a9 e.symm),h1.same.kept hk ap.a7,h1.sizes.set p v,ap⟩,h2⟩,hk.mono (fun _ _ e=>.inr (.inr e))⟩
def SizPost (L:List Sym) (B:JB) (J:List Int) (ld:Int→Int) (w:World) (k:Int) (sz' : Nat→Int) (e:Ending) (w' : World):Prop:=e=.returned (.int .i64 k)∧JAt L B w' J ld sz' ∧ Kept B.Mem w w'
set_option maxHeartbeats 4000000 in
theorem usize_any {L:List Sym} {B:JB} {J:List Int} {ld:Int→Int} (hT:Trs L J) (hl:LdOk J ld) (hJ:J.length≤4000):∀ (n:Nat) (w:World) (sz:Nat→Int) (x k:Int) (sz' : Nat→Int),JAt L B w J ld sz→UPart J x→SzOk sz→sizF L J ld n sz x=some (k,sz') →
  Calls Tryz.prog 195 #[.pointer (some ⟨B.jb,0,none⟩),.int .i64 x] w (SizPost L B J ld w k sz'):=by
 intro n
 induction n with
 | zero=>intro w sz x k sz' _ _ _ e;simp [sizF] at e
 | succ n ih=>
  intro w sz x k sz' h hx hs e
  have cL:=leader_any h hx
  have hpx:=hl.part x hx
  have hsy:=hl.sym x hx
  rw [sizF] at e
  obtain ⟨p,hp⟩:∃ p,ld x=p:=⟨_,rfl⟩
  rw [hp] at e cL hpx hsy
  by_cases h1:p<0
  ·rw [if_pos h1] at e
   simp only [Option.some.injEq,Prod.mk.injEq] at e
   obtain ⟨rfl,rfl⟩:=e
   clear ih h
   go_enter Tryz.func195,Tryz.ntmps195
   go_wp2_with (first | (go_at_call 196;refine cL.mono ?_;rintro e w1 ⟨rfl,hj1,hk1⟩))
   go_returns
   exact ⟨rfl,hj1,hk1.mono (fun _ _ f=>JB.way_mem f)⟩
  ·rw [if_neg h1] at e
   obtain ⟨p,rfl⟩:∃ v:Nat,p=(v:Int):=⟨p.toNat,by omega⟩
   rw [Int.toNat_natCast] at e
   have hpl:p<J.length:=by have:=hpx.2;omega
   have i1:(0:Int)≤(p:Int):=by omega
   have i2:(p:Int)<(J.length:Int):=by omega
   by_cases h2:sz p≠0
   ·rw [if_pos h2] at e
    simp only [Option.some.injEq,Prod.mk.injEq] at e
    obtain ⟨rfl,rfl⟩:=e
    have CC:Hid (∀ w1,JAt L B w1 J ld sz→w1.cell? ⟨B.jb,202,none⟩=some (.slice (some ⟨B.zb,0,none⟩) J.length J.length)∧w1.cell? ⟨B.zb,p,none⟩=some (.int .i64 (sz p))):=by
     rintro w1 ⟨nx,ρ,hC, -⟩
     exact ⟨hC.head.cells.2.2.2.1,(hC.sizes.cell hpl).1⟩
    obtain ⟨v,hv⟩:∃ v,sz p=v:=⟨_,rfl⟩
    rw [hv] at CC h2 ⊢
    clear ih h
    go_enter Tryz.func195,Tryz.ntmps195
    go_wp2_with (first | (go_at_call 196;refine cL.mono ?_;rintro e w1 ⟨rfl,hj1,hk1⟩;obtain ⟨g1,g2⟩:=CC.out w1 hj1))
    go_returns
    exact ⟨rfl,hj1,hk1.mono (fun _ _ f=>JB.way_mem f)⟩
   ·rw [if_neg h2] at e
    have h0:sz p=0:=by simpa using h2
    cases h3:sizA (sizF L J ld n) (kidsL L J p) 1 (updN sz p (-1)) with
    | none=>simp [h3] at e
    | some v=>
     obtain ⟨s,sz1⟩:=v
     simp only [h3] at e
     have hF:=kids_forest hT hpl
     have CC:Hid (∀ w1,JAt L B w1 J ld sz→w1.cell? ⟨B.jb,202,none⟩=some (.slice (some ⟨B.zb,0,none⟩) J.length J.length)∧w1.cell? ⟨B.zb,p,none⟩=some (.int .i64 0)∧w1.frozen? ⟨B.zb,p,none⟩=false):=by
      rintro w1 ⟨nx,ρ,hC, -⟩
      have:=hC.sizes.cell hpl
      rw [h0] at this
      exact ⟨hC.head.cells.2.2.2.1,this.1,this.2⟩
     have HE:Hid ((if s = -1 then some (-1,sz1) else some (s,updN sz1 p s))=some (k,sz')):=e
     have H3:Hid (sizA (sizF L J ld n) (starts L J (arN L (at' J p)) (p+1)) 1 (updN sz p (-1))=some (s,sz1)):=h3
     have hs2:SzOk (updN sz p (-1)):=hs.upd _ (.inl rfl)
     have IH:Hid (∀ (w:World) (sz:Nat→Int) (x k:Int) (sz' : Nat→Int),JAt L B w J ld sz→UPart J x→SzOk sz→sizF L J ld n sz x=some (k,sz')→Calls Tryz.prog 195 #[.pointer (some ⟨B.jb,0,none⟩),.int .i64 x] w (SizPost L B J ld w k sz')):=ih
     clear ih h e h3 h2
     have i3:(p:Int)<4000:=by omega
     go_enter Tryz.func195,Tryz.ntmps195
     go_upto_region 7 with (first | (go_at_call 196;refine cL.mono ?_;rintro e w1 ⟨rfl,hj1,hk1⟩;obtain ⟨g1,g2,g3⟩:=CC.out w1 hj1))
     obtain ⟨hj2,hk2⟩:=hj1.setSize p (-1)
     obtain ⟨w2,hw2⟩:∃ w2,w1.setCell ⟨B.zb,p,none⟩ (.int .i64 (-1))=w2:=⟨_,rfl⟩
     rw [hw2] at hj2 hk2 ⊢
     have hK2:Kept B.Mem w w2:=(hk1.mono (fun _ _ f=>JB.way_mem f)).trans hk2 (fun _ _ f=>f)
     clear hw2 hk1 hk2 hj1 CC cL g1 g2 g3
     go_wp2_with fail
     go_loopg [6,7] (arN L (at' J p)) (fun c s6 s7 wr=>∃ (sum:Int) (t:Nat) (sq:Nat→Int),s6=.int .i64 sum∧s7=.int .i64 (t:Int)∧1≤sum∧sum≤2001∧Forest L J c t (endN L J p)∧SzOk sq∧JAt L B wr J ld sq∧Kept B.Mem w wr∧Hid (sizA (sizF L J ld n) (starts L J c t) sum sq=some (s,sz1)))
     case atStart=>exact ⟨1,p+1,_,rfl,by go_num,by omega,by omega,hF,hs2,hj2,hK2,H3⟩
     case round=>
      clear hj2 hK2 H3 hs2 hF
      obtain ⟨sum,t,sq,rfl,rfl,hs1,hs2,hF,hsq,hj,hK,HS⟩:=hrel
      obtain ⟨nx,ρ,hC, -⟩:=id hj
      obtain ⟨c0,c1,c2,c3,c4⟩:=hC.head.cells
      have ce:=(hC.ends.cell hpl).1
      cases gk with
      | zero=>
       have ht:=hF.zero
       have i4:¬ (t:Int)<(endN L J p:Int):=by omega
       have hss:sum=s∧sq=sz1:=by
        have:=HS.out
        simpa [starts,sizA] using this
       obtain ⟨rfl,rfl⟩:=hss
       have hne:¬ sum = -1:=by omega
       have:=HE.out
       rw [if_neg hne] at this
       simp only [Option.some.injEq,Prod.mk.injEq] at this
       obtain ⟨rfl,rfl⟩:=this
       obtain ⟨z1,z2⟩:=hC.sizes.cell hpl
       obtain ⟨y1,y2⟩:=hj.setSize p sum
       have fin:SizPost L B J ld w sum (updN sq p sum) (.returned (.int .i64 sum)) (wr.setCell ⟨B.zb,p,none⟩ (.int .i64 sum)):=⟨rfl,y1,hK.trans y2 (fun _ _ f=>f)⟩
       clear hC hj HS HE hF y1 y2 hK ht
       go_wp2_with fail
       go_returns
       exact fin
      | succ c=>
       have hpos:=hF.pos
       obtain ⟨f1,f2,f3⟩:=hF.succ
       have hle:=hF.le
       have htl:t<J.length:=by omega
       have i4:(t:Int)<(endN L J p:Int):=by omega
       have i5:(0:Int)≤(t:Int):=by omega
       have i6:(t:Int)<(J.length:Int):=by omega
       have ct:=(hC.ends.cell htl).1
       have hst:=HS.out
       rw [starts,sizA] at hst
       cases hq:sizF L J ld n sq (t:Int) with
       | none=>simp [hq] at hst
       | some v=>
        obtain ⟨k1,sq1⟩:=v
        simp only [hq] at hst
        have cS:=IH.out wr sq t k1 sq1 hj (part_nat htl) hsq hq
        obtain ⟨o1,o2⟩:=sizF_ok n _ _ _ _ hsq hq
        have HST:Hid ((if k1 = -1 then some (-1,sq1) else sizA (sizF L J ld n) (starts L J c (endN L J t)) (min (sum+k1) 2001) sq1)=some (s,sz1)):=hst
        have CE:Hid (∀ w1,JAt L B w1 J ld sq1→w1.cell? ⟨B.jb,1,none⟩=some (.slice (some ⟨B.eb,0,none⟩) J.length J.length)∧w1.cell? ⟨B.eb,t,none⟩=some (.int .i64 (endN L J t:Int))):=by
         rintro w1 ⟨nx,ρ,hC, -⟩
         exact ⟨hC.head.cells.2.1,(hC.ends.cell htl).1⟩
        clear hst hC hj HS hq hsq
        by_cases hk1:k1 = -1
        ·subst hk1
         have:=HST.out
         rw [if_pos rfl] at this
         simp only [Option.some.injEq,Prod.mk.injEq] at this
         obtain ⟨rfl,rfl⟩:=this
         have:=HE.out
         rw [if_pos rfl] at this
         simp only [Option.some.injEq,Prod.mk.injEq] at this
         obtain ⟨rfl,rfl⟩:=this
         clear HE HST IH
         go_wp2_with (first | (go_at_call 195;refine cS.mono ?_;rintro e w3 ⟨rfl,hj3,hk3⟩))
         go_returns
         exact ⟨rfl,hj3,hK.trans hk3 (fun _ _ f=>f)⟩
        ·have:=HST.out
         rw [if_neg hk1] at this
         have HST2:Hid (sizA (sizF L J ld n) (starts L J c (endN L J t)) (min (sum+k1) 2001) sq1=some (s,sz1)):=this
         have i7:1≤k1:=by omega
         have i8:k1≤2001:=by omega
         clear HST this o2
         go_upto_region 14 with (first | (go_at_call 195;refine cS.mono ?_;rintro e w3 ⟨rfl,hj3,hk3⟩;obtain ⟨g1,g2⟩:=CE.out w3 hj3))
         have hK3:=hK.trans hk3 (fun _ _ f=>f)
         clear HE IH hk3 hK cS CE
         by_cases hm:sum+k1≤2001
         ·rw [show min (sum+k1) 2001=sum+k1 by omega] at HST2
          go_wp2_with fail
          go_roundg c
          case measure=>omega
          case rel=>exact ⟨_,_,_,by go_num,rfl,by omega,by omega,f3,o1,hj3,hK3,HST2⟩
         ·rw [show min (sum+k1) 2001=2001 by omega] at HST2
          have hm' : 2001<sum+k1:=by omega
          go_wp2_with fail
          go_roundg c
          case measure=>omega
          case rel=>exact ⟨_,_,_,by go_num,rfl,by omega,by omega,f3,o1,hj3,hK3,HST2⟩
theorem led_zero {J:List Int} (hv:∀ x∈J, -198≤x):Led J (ld0 J) (ld0 J) (fun x=>if 0≤x then 1 else 0):=by
 have hl:=ld0_ok hv
 refine ⟨hl.part,hl.idem,fun x _=>Iff.rfl,fun x hx hn=>?_⟩
 by_cases h:0≤x∧at' J x<0
 ·have e:ld0 J x=at' J x:=by unfold ld0;rw [if_pos h]
  simp only [e]
  rw [if_neg (by omega),if_pos h.1];omega
 ·exact absurd (by unfold ld0;rw [if_neg h]) hn
theorem JJ.jat {L:List Sym} {w0 w:World} {B:JB} {J:List Int} (hv:∀ x∈J, -198≤x) (h:JJ w0 B w J J.length (fun x=>x) (fun i=>(endN L J i:Int)) (fun i=>ld0 J i)):JAt L B w J (ld0 J) (fun _=>0):=by
 refine ⟨ld0 J,_,⟨?_,?_,h.ends,h.same,h.sizes,h.ap⟩,led_zero hv⟩
 ·refine h.head.congr (fun v h1 h2=>?_)
  unfold ld0;rw [if_neg (by omega)]
 ·have hr:=h.row
  rcases hr.2 with ⟨e,_⟩ | ⟨g,cap,cur,hv', hb,hg,h1,h2,h3,h4⟩
  ·cases e
  ·simp only [Value.slice.injEq,Option.some.injEq,Addr.mk.injEq,and_true,true_and] at hv'
   obtain ⟨rfl,rfl⟩:=hv'
   refine ⟨cur,_,hg,by omega,fun i hi=>?_⟩
   have:=hr.cellAt i (by omega)
   rw [cellAt hg,iv_get hi] at this
   show cur[i]? = some (.int .i64 (at' J (i:Int)))
   rw [this,at'_nat J i hi]
theorem jl_vars {L:List Sym} {a b:List Int} (ha:checkE L a=0) (hb:checkE L b=0) {ap:Nat} (hap:ap≤99):∀ x∈jl a b ap, -198≤x:=by
 intro x hx
 unfold jl at hx
 rcases List.mem_append.1 hx with e | e
 ·have:=(badE_zero.1 (checkE_zero.1 ha).2.1 x e).2;omega
 ·obtain ⟨y,hy,rfl⟩:=List.mem_map.1 e
  have:=(badE_zero.1 (checkE_zero.1 hb).2.1 y hy).2
  unfold shF;split <;> omega
def SolPost (L:List Sym) (a b:List Int) (ap:Nat) (w:World) (e:Ending) (w' : World):Prop:=Same0 w w' ∧
 (checkE L a≠0→e=.returned (.tuple #[.pointer none,.int .i64 0,.int .i64 (checkE L a)])) ∧
 (checkE L a=0→checkE L b≠0→e=.returned (.tuple #[.pointer none,.int .i64 0,.int .i64 (checkE L b)])) ∧
 (checkE L a=0→checkE L b=0→solF L (jl a b ap) a.length=none→e=.returned (.tuple #[.pointer none,.int .i64 0,.int .i64 60])) ∧
 (checkE L a=0→checkE L b=0→∀ ld k,solF L (jl a b ap) a.length=some (ld,k)→∃ B sz', e=.returned (.tuple #[.pointer (some ⟨B.jb,0,none⟩),.int .i64 k,.int .i64 0])∧JAt L B w' (jl a b ap) ld sz' ∧ LdOk (jl a b ap) ld∧(∀ f,B.Foot f→w.heap.size≤f∧f<w'.heap.size)∧∃ u,Val L (jl a b ap) ld 0 u∧k=min (u.length:Int) 2001)
set_option maxHeartbeats 4000000 in
theorem solve_any {b:Nat} {w:World} {L:List Sym} (h:Sg w.heap.size w b L) {xo yo:Option Addr} {xc yc:Nat} {x y:List Int} (hx:IntsAt w xo x) (hy:IntsAt w yo y) (hxm:x.length≤maxLen) (hym:y.length≤maxLen) {ap:Nat} (hap:ap≤99) :
  Calls Tryz.prog 189 #[.pointer (some ⟨b,0,none⟩),.slice xo x.length xc,.slice yo y.length yc,.int .i64 (ap:Int)] w (SolPost L x y ap w):=by
 have c1:=check_any (cap:=xc) h hx hxm
 have c2:Hid (∀ w1,Same0 w w1→Calls Tryz.prog 59 #[.pointer (some ⟨b,0,none⟩),.slice yo y.length yc] w1 fun e w' => e=.returned (.int .i64 (checkE L y))∧Same0 w1 w'):=fun w1 hk=>check_any (cap:=yc) (h.same hk) (hy.same hk) hym
 by_cases hz:checkE L x=0
 ·by_cases hq:checkE L y=0
  ·obtain ⟨x1,x2,x3⟩:=checkE_zero.1 hz
   obtain ⟨y1,y2,y3⟩:=checkE_zero.1 hq
   obtain ⟨J,hJ⟩:∃ J,jl x y ap=J:=⟨_,rfl⟩
   have hJl:J.length=x.length+y.length:=by rw [← hJ];simp [jl]
   have hv:=jl_vars hz hq hap
   have hT:=trs_jl (apart:=(ap:Int)) (by omega) x3 y3
   rw [hJ] at hv hT
   have p1:=isT_pos x3
   have p2:=isT_pos y3
   obtain ⟨res,hU,hR1,hR2⟩:=(sol_any hT hv (m:=x.length) (by omega) (by omega)).uni
   have CJ:Hid (∀ w1,Same0 w w1→Calls Tryz.prog 193 #[.pointer (some ⟨b,0,none⟩),.slice xo x.length xc,.slice yo y.length yc,.int .i64 (ap:Int)] w1 fun e w' => ∃ B,e=.returned (.pointer (some ⟨B.jb,0,none⟩))∧JAt L B w' J (ld0 J) (fun _=>0)∧(∀ f,B.Foot f→w.heap.size≤f)∧Same0 w w'):=by
    intro w1 hk
    have hg:Sg w1.heap.size w1 b L:=by
     have:=h.same hk
     obtain ⟨⟨sv,mr,s1,s2⟩,s3⟩:=this
     exact ⟨⟨sv,mr,s1,fun k hk' => Nat.lt_of_lt_of_le (s2 k hk') hk.size⟩,s3⟩
    refine (ujoin_any hg (hx.same hk) (hy.same hk) x3 y3 x1 y1 (fun z hz=>(badE_zero.1 y2 z hz).2) hap).mono ?_
    rintro e w' ⟨B,rfl,hj⟩
    rw [hJ] at hj
    exact ⟨B,rfl,hj.jat hv,fun f hf=>Nat.le_trans hk.size (hj.new f hf),hk.trans' hj.kept⟩
   have CU:Hid (∀ B w1,JAt L B w1 J (ld0 J) (fun _=>0)→Calls Tryz.prog 194 #[.pointer (some ⟨B.jb,0,none⟩),.int .i64 0,.int .i64 (x.length:Int)] w1 (UEnd L B J (fun _=>0) res w1)):=by
    intro B w1 hj
    exact unite_any (a:=0) hj (by omega) (by omega) (by omega) hU
   rw [hz] at c1
   rw [hq] at c2
   cases res with
   | none=>
    have HX:Hid (∀ w', Same0 w w' → SolPost L x y ap w (.returned (.tuple #[.pointer none,.int .i64 0,.int .i64 60])) w'):=by
     intro w' hk
     refine ⟨hk,fun f=>absurd hz f,fun _ f=>absurd hq f,fun _ _ _=>rfl,fun _ _ ld k f=>?_⟩
     rw [hJ,hR1 rfl] at f;cases f
    clear hU hR1 hR2 hz hq hx hy h hJ
    go_enter Tryz.func189,Tryz.ntmps189
    go_upto_region 4 with (first | (go_at_call 59;refine c1.mono ?_;rintro e w1 ⟨rfl,hk1⟩))
    go_upto_region 7 with (first | (go_at_call 59;refine (c2.out _ hk1).mono ?_;rintro e w2 ⟨rfl,hk2⟩))
    have K2:=hk1.trans' hk2
    go_wp2_with (first | (go_at_call 193;refine (CJ.out _ K2).mono ?_;rintro e w3 ⟨B,rfl,hj3,hf3,hk3⟩) | (go_at_call 194;refine (CU.out _ _ hj3).mono ?_;rintro e w4 ⟨-,he4,hk4⟩;obtain rfl:=he4 rfl;clear he4))
    have K4:Same0 w w4:=hk3.trans hk4 (fun i hi f=>by have:=hf3 i (JB.way_foot f);omega)
    exact bodyPost_ret (v:=.tuple #[.pointer none,.int .i64 0,.int .i64 60]) (by simp [results,Tryz.results189,go_sem]) rfl (HX.out _ K4)
   | some ld=>
    obtain ⟨hld,k,sz', hs,hk1,hk2⟩:=hR2 ld rfl
    have CS:Hid (∀ B w1,JAt L B w1 J ld (fun _=>0)→Calls Tryz.prog 195 #[.pointer (some ⟨B.jb,0,none⟩),.int .i64 0] w1 (SizPost L B J ld w1 k sz')):=fun B w1 hj=>usize_any hT hld (by omega) _ w1 _ 0 k sz' hj (part_nat (p:=0) (by omega)) (fun p=>.inr ⟨by simp,by simp⟩) hs
    have HX:Hid (∀ B w', JAt L B w' J ld sz' → (∀ f,B.Foot f→w.heap.size≤f)→Same0 w w' → (k = -1→SolPost L x y ap w (.returned (.tuple #[.pointer none,.int .i64 0,.int .i64 60])) w')∧(k ≠ -1→SolPost L x y ap w (.returned (.tuple #[.pointer (some ⟨B.jb,0,none⟩),.int .i64 k,.int .i64 0])) w')):=by
     intro B w' hj hf hk
     have hfl:∀ f,B.Foot f→f<w'.heap.size:=by
      obtain ⟨nx,ρ,hC, -⟩:=id hj
      exact fun f hf=>hC.lt hf
     refine ⟨fun e=>?_,fun e=>?_⟩
     ·refine ⟨hk,fun f=>absurd hz f,fun _ f=>absurd hq f,fun _ _ _=>rfl,fun _ _ ld k f=>?_⟩
      rw [hJ,hk1 e] at f;cases f
     ·obtain ⟨e1,u,e2,e3⟩:=hk2 e
      refine ⟨hk,fun f=>absurd hz f,fun _ f=>absurd hq f,fun _ _ f=>?_,fun _ _ ld' k' f=>?_⟩
      ·rw [hJ,e1] at f;cases f
      ·rw [hJ] at f ⊢
       rw [e1] at f
       simp only [Option.some.injEq,Prod.mk.injEq] at f
       obtain ⟨rfl,rfl⟩:=f
       exact ⟨B,sz', rfl,hj,hld,fun f hf' => ⟨hf f hf', hfl f hf'⟩,u,e2,e3⟩
    clear hU hR1 hR2 hz hq hx hy h hJ hk1 hk2 hs
    go_enter Tryz.func189,Tryz.ntmps189
    go_upto_region 4 with (first | (go_at_call 59;refine c1.mono ?_;rintro e w1 ⟨rfl,hk1⟩))
    go_upto_region 7 with (first | (go_at_call 59;refine (c2.out _ hk1).mono ?_;rintro e w2 ⟨rfl,hk2⟩))
    have K2:=hk1.trans' hk2
    go_upto_region 10 with (first | (go_at_call 193;refine (CJ.out _ K2).mono ?_;rintro e w3 ⟨B,rfl,hj3,hf3,hk3⟩) | (go_at_call 194;refine (CU.out _ _ hj3).mono ?_;rintro e w4 ⟨he4, -,hk4⟩;obtain ⟨rfl,hj4⟩:=he4 ld rfl;clear he4))
    have K4:Same0 w w4:=hk3.trans hk4 (fun i hi f=>by have:=hf3 i (JB.way_foot f);omega)
    by_cases hk:k = -1
    ·subst hk
     go_wp2_with (first | (go_at_call 195;refine (CS.out _ _ hj4).mono ?_;rintro e w5 ⟨rfl,hj5,hk5⟩))
     have K5:Same0 w w5:=K4.trans hk5 (fun i hi f=>by
      have:=hf3 i (by rcases f with e | e | e;exact .inl e;exact .inr (.inr (.inr (.inl e)));exact .inr (.inr (.inr (.inr e))));omega)
     exact bodyPost_ret (v:=.tuple #[.pointer none,.int .i64 0,.int .i64 60]) (by simp [results,Tryz.results189,go_sem]) rfl ((HX.out B w5 hj5 hf3 K5).1 (by trivial))
    ·go_wp2_with (first | (go_at_call 195;refine (CS.out _ _ hj4).mono ?_;rintro e w5 ⟨rfl,hj5,hk5⟩))
     have K5:Same0 w w5:=K4.trans hk5 (fun i hi f=>by
      have:=hf3 i (by rcases f with e | e | e;exact .inl e;exact .inr (.inr (.inr (.inl e)));exact .inr (.inr (.inr (.inr e))));omega)
     exact bodyPost_ret (v:=.tuple #[.pointer (some ⟨B.jb,0,none⟩),.int .i64 k,.int .i64 0]) (by simp [results,Tryz.results189,go_sem]) rfl ((HX.out B w5 hj5 hf3 K5).2 hk)
  ·rw [hz] at c1
   have HX:Hid (∀ w', Same0 w w' → SolPost L x y ap w (.returned (.tuple #[.pointer none,.int .i64 0,.int .i64 (checkE L y)])) w'):=fun w' hk=>⟨hk,fun f=>absurd hz f,fun _ _=>rfl,fun _ f=>absurd f hq,fun _ f=>absurd f hq⟩
   have hq' : (checkE L y == 0)=false:=by simpa using hq
   clear hz hq
   go_enter Tryz.func189,Tryz.ntmps189
   go_upto_region 4 with (first | (go_at_call 59;refine c1.mono ?_;rintro e w1 ⟨rfl,hk1⟩))
   go_wp2_with (first | (go_at_call 59;refine (c2.out _ hk1).mono ?_;rintro e w2 ⟨rfl,hk2⟩))
   exact bodyPost_ret (v:=.tuple #[.pointer none,.int .i64 0,.int .i64 (checkE L y)]) (by simp [results,Tryz.results189,go_sem]) rfl (HX.out _ (hk1.trans' hk2))
 ·have HX:Hid (∀ w', Same0 w w' → SolPost L x y ap w (.returned (.tuple #[.pointer none,.int .i64 0,.int .i64 (checkE L x)])) w'):=fun w' hk=>⟨hk,fun _=>rfl,fun f=>absurd f hz,fun f=>absurd f hz,fun f=>absurd f hz⟩
  have hz' : (checkE L x == 0)=false:=by simpa using hz
  clear hz
  go_enter Tryz.func189,Tryz.ntmps189
  go_wp2_with (first | (go_at_call 59;refine c1.mono ?_;rintro e w1 ⟨rfl,hk1⟩))
  exact bodyPost_ret (v:=.tuple #[.pointer none,.int .i64 0,.int .i64 (checkE L x)]) (by simp [results,Tryz.results189,go_sem]) rfl (HX.out _ hk1)
structure ZWk (Z:Array Value):Prop where
 size:Z.size=202
 var:∀ v,1≤v→v<199→Z[2+v]? = some (.int .i64 0)
 last:Z[201]? = some (.int .i64 0)
 one:Z.all (·.oneCell')=true
theorem sg_up {n b:Nat} {w:World} {L:List Sym} (h:Sg n w b L) {m:Nat} (hn:n≤m):Sg m w b L:=by
 obtain ⟨⟨sv,mr,s1,s2⟩,s3⟩:=h
 exact ⟨⟨sv,mr,s1,fun k hk=>Nat.lt_of_lt_of_le (s2 k hk) hn⟩,s3⟩
def claE (L:List Sym) (a b:List Int):Int:=if checkE L a≠0 then checkE L a else checkE L b
def claB (L:List Sym) (a b:List Int):Bool:=decide (claE L a b=0) && (solF L (jl a b 99) a.length).isNone
theorem bad_ne (L:List Sym) (t:List Int):badE L t≠60:=by
 induction t with
 | nil=>simp [badE]
 | cons x r ih=>
  simp only [badE,ne_eq]
  split
  ·omega
  ·split
   ·omega
   ·exact ih
theorem check_ne (L:List Sym) (t:List Int):checkE L t≠60:=by
 have:=bad_ne L t
 unfold checkE
 split
 ·omega
 ·split
  ·exact this
  ·split <;> omega
theorem clash_any {b:Nat} {w:World} {L:List Sym} (h:Sg w.heap.size w b L) {xo yo:Option Addr} {xc yc:Nat} {x y:List Int} (hx:IntsAt w xo x) (hy:IntsAt w yo y) (hxm:x.length≤maxLen) (hym:y.length≤maxLen) :
  Calls Tryz.prog 181 #[.pointer (some ⟨b,0,none⟩),.slice xo x.length xc,.slice yo y.length yc] w fun e w' => e=.returned (.tuple #[.bool (claB L x y),.int .i64 (claE L x y)])∧Same0 w w' := by
 have c:=solve_any (xc:=xc) (yc:=yc) h hx hy hxm hym (ap:=99) (by omega)
 clear h hx hy
 by_cases hz:checkE L x=0
 ·by_cases hq:checkE L y=0
  ·have e0:claE L x y=0:=by simp [claE,hz,hq]
   cases hs:solF L (jl x y 99) x.length with
   | none=>
    have e1:claB L x y=true:=by simp [claB,e0,hs]
    rw [e0,e1]
    have c2:Calls Tryz.prog 189 #[.pointer (some ⟨b,0,none⟩),.slice xo x.length xc,.slice yo y.length yc,.int .i64 99] w fun e w' => e=.returned (.tuple #[.pointer none,.int .i64 0,.int .i64 60])∧Same0 w w' := c.mono (fun e w' g=>⟨g.2.2.2.1 hz hq hs,g.1⟩)
    clear c hz hq hs e0 e1
    go_enter Tryz.func181,Tryz.ntmps181
    go_wp2_with (first | (go_at_call 189;refine c2.mono ?_;rintro e w1 ⟨rfl,hk⟩))
    go_ret2
    exact ⟨rfl,hk⟩
   | some v=>
    obtain ⟨ld,k⟩:=v
    have e1:claB L x y=false:=by simp [claB,e0,hs]
    rw [e0,e1]
    have c2:Calls Tryz.prog 189 #[.pointer (some ⟨b,0,none⟩),.slice xo x.length xc,.slice yo y.length yc,.int .i64 99] w fun e w' => (∃ j,e=.returned (.tuple #[.pointer (some ⟨j,0,none⟩),.int .i64 k,.int .i64 0]))∧Same0 w w' := c.mono (fun e w' g=>by
     obtain ⟨B,sz', a1,_⟩:=g.2.2.2.2 hz hq ld k hs
     exact ⟨⟨_,a1⟩,g.1⟩)
    clear c hz hq hs e0 e1
    go_enter Tryz.func181,Tryz.ntmps181
    go_wp2_with (first | (go_at_call 189;refine c2.mono ?_;rintro e w1 ⟨⟨j,rfl⟩,hk⟩))
    go_ret2
    exact ⟨rfl,hk⟩
  ·have e0:claE L x y=checkE L y:=by simp [claE,hz]
   have e1:claB L x y=false:=by simp [claB,e0,hq]
   rw [e0,e1]
   have c2:Calls Tryz.prog 189 #[.pointer (some ⟨b,0,none⟩),.slice xo x.length xc,.slice yo y.length yc,.int .i64 99] w fun e w' => e=.returned (.tuple #[.pointer none,.int .i64 0,.int .i64 (checkE L y)])∧Same0 w w' := c.mono (fun e w' g=>⟨g.2.2.1 hz hq,g.1⟩)
   have hn:(checkE L y == 60)=false:=by simpa using check_ne L y
   clear c hz hq e0 e1
   go_enter Tryz.func181,Tryz.ntmps181
   go_wp2_with (first | (go_at_call 189;refine c2.mono ?_;rintro e w1 ⟨rfl,hk⟩))
   go_ret2
   exact ⟨rfl,hk⟩
 ·have e0:claE L x y=checkE L x:=by simp [claE,hz]
  have e1:claB L x y=false:=by simp [claB,e0,hz]
  rw [e0,e1]
  have c2:Calls Tryz.prog 189 #[.pointer (some ⟨b,0,none⟩),.slice xo x.length xc,.slice yo y.length yc,.int .i64 99] w fun e w' => e=.returned (.tuple #[.pointer none,.int .i64 0,.int .i64 (checkE L x)])∧Same0 w w' := c.mono (fun e w' g=>⟨g.2.1 hz,g.1⟩)
  have hn:(checkE L x == 60)=false:=by simpa using check_ne L x
  clear c hz e0 e1
  go_enter Tryz.func181,Tryz.ntmps181
  go_wp2_with (first | (go_at_call 189;refine c2.mono ?_;rintro e w1 ⟨rfl,hk⟩))
  go_ret2
  exact ⟨rfl,hk⟩
end Go.Proofs.YtdhiiicppcgkbaaGreat
namespace Go.Proofs.YtdhiiicppcgkbaaGreat
set_option linter.unusedVariables false
abbrev Ru:=List Int × List Int
def defB (L:List Sym) (n:Int):Bool:=if n<0 then false else match L[n.toNat]? with | some x=>x.df | none=>false
theorem defB_at {L:List Sym} {i:Nat} (h:i<L.length):defB L (i:Int)=L[i].df:=by
 rw [defB,if_neg (by omega)];simp [h]
theorem defB_no {L:List Sym} {n:Int} (h:n<0∨(L.length:Int)≤n):defB L n=false:=by
 unfold defB
 rcases h with h | h
 ·simp [h]
 ·rw [if_neg (by omega),List.getElem?_eq_none (by omega)]
def negN (t:List Int):Nat:=t.countP (fun n=>decide (n<0))
theorem negN_take {t:List Int} {k:Nat} (h:k<t.length):negN (t.take (k+1))=negN (t.take k)+if t[k]<0 then 1 else 0:=by
 unfold negN
 rw [List.take_add_one,List.getElem?_eq_getElem h,List.countP_append]
 simp [List.countP_cons]
theorem negN_le (t:List Int):negN t≤t.length:=List.countP_le_length
def freeB (l:List Int) (n:Int):Bool:=decide (n<0) && !decide (n∈l)
def meetB (L:List Sym) (a x:List Int):Bool:=!claB L a x && decide (claE L a x=0)
def askB (L:List Sym) (N:Nat) (A:List Ru) (x:Ru):Nat→Bool
 | 0=>decide (N≤100)
 | 1=>decide (checkE L x.1=0) && decide (checkE L x.2=0)
 | 2=>decide (x.1.length≤200) && decide (x.2.length≤200)
 | 3=>defB L (x.1.headD (-1))
 | 4=>decide (negN x.1=(varsL x.1).length)
 | 5=>x.1.tail.all (fun n=>!defB L n)
 | 6=>x.2.all (fun n=>!freeB x.1 n)
 | _=>A.all (fun a=>!meetB L a.1 x.1)
def ckB (L:List Sym) (own l:List Ru) (j n:Nat):Bool:=askB L (own.length+l.length) (own++l.take n) (l.getD n ([],[])) j
def Upto (L:List Sym) (own l:List Ru) (j n:Nat):Prop:=(∀ i,i<j→∀ m,m<l.length→ckB L own l i m=true)∧∀ m,m<n→m<l.length→ckB L own l j m=true
def wrongL (L:List Sym) (own l:List Ru) (j n:Nat):List (Int × Int):=
 if j=1 then [(71,(n:Int)),(if checkE L (l.getD n ([],[])).1=0 then checkE L (l.getD n ([],[])).2 else checkE L (l.getD n ([],[])).1, -1)]
 else if j=7 then [(77,(n:Int)),(78,(((own++l.take n).findIdx (fun a=>meetB L a.1 (l.getD n ([],[])).1):Nat):Int))]
 else [((70+j:Nat),(n:Int))]
def Ans (L:List Sym) (own l:List Ru) (ws:List (Int × Int)):Prop:=
 (ws=[]∧Upto L own l 8 0)∨∃ j n,j<8∧n<l.length∧Upto L own l j n∧ckB L own l j n=false∧ws=wrongL L own l j n
theorem Upto.nil (L:List Sym) (own l:List Ru):Upto L own l 0 0:=⟨fun i hi=>absurd hi (by omega),fun m hm=>absurd hm (by omega)⟩
theorem Upto.step {L:List Sym} {own l:List Ru} {j n:Nat} (h:Upto L own l j n) (hc:ckB L own l j n=true):Upto L own l j (n+1):=
 ⟨h.1,fun m hm hl=>by
  by_cases e:m=n
  ·subst e;exact hc
  ·exact h.2 m (by omega) hl⟩
theorem Upto.next {L:List Sym} {own l:List Ru} {j n:Nat} (h:Upto L own l j n) (hn:l.length≤n):Upto L own l (j+1) 0:=
 ⟨fun i hi m hm=>by
  by_cases e:i=j
  ·subst e;exact h.2 m (by omega) hm
  ·exact h.1 i (by omega) m hm,fun m hm=>absurd hm (by omega)⟩
theorem wrongL_ne (L:List Sym) (own l:List Ru) (j n:Nat):wrongL L own l j n≠[]:=by
 unfold wrongL
 split
 ·simp
 ·split <;> simp
theorem Ans.uniq {L:List Sym} {own l:List Ru} {a b:List (Int × Int)} (h:Ans L own l a) (k:Ans L own l b):a=b:=by
 have key:∀ {j n j' n' : Nat},n<l.length→n' < l.length→Upto L own l j n→ckB L own l j n=false→Upto L own l j' n' → ckB L own l j' n' = false→j=j' ∧ n=n' := by
  intro j n j' n' h1 h2 u1 c1 u2 c2
  have e:j=j' := by
   rcases Nat.lt_trichotomy j j' with q | q | q
   ·have:=u2.1 j q n h1;rw [c1] at this;cases this
   ·exact q
   ·have:=u1.1 j' q n' h2;rw [c2] at this;cases this
  subst e
  refine ⟨rfl,?_⟩
  rcases Nat.lt_trichotomy n n' with q | q | q
  ·have:=u2.2 n q h1;rw [c1] at this;cases this
  ·exact q
  ·have:=u1.2 n' q h2;rw [c2] at this;cases this
 rcases h with ⟨rfl,u⟩ | ⟨j,n,h1,h2,u,c,rfl⟩
 ·rcases k with ⟨rfl,_⟩ | ⟨j,n,h1,h2,u', c,rfl⟩
  ·rfl
  ·have:=u.1 j h1 n h2;rw [c] at this;cases this
 ·rcases k with ⟨rfl,u'⟩ | ⟨j', n', h1', h2', u', c', rfl⟩
  ·have:=u'.1 j h1 n h2;rw [c] at this;cases this
  ·obtain ⟨rfl,rfl⟩:=key h2 h2' u c u' c'; rfl
theorem Ans.nil {L:List Sym} {own l:List Ru} (h:Ans L own l []):∀ j,j<8→∀ n,n<l.length→ckB L own l j n=true:=by
 rcases h with ⟨_,u⟩ | ⟨j,n,_,_,_,_,e⟩
 ·exact fun j hj n hn=>u.1 j hj n hn
 ·exact absurd e.symm (wrongL_ne _ _ _ _ _)
theorem Ans.of_all {L:List Sym} {own l:List Ru} (h:∀ j,j<8→∀ n,n<l.length→ckB L own l j n=true):Ans L own l []:=.inl ⟨rfl,h,fun m hm=>absurd hm (by omega)⟩
theorem claB_swap {L:List Sym} {a b:List Int} (ha:checkE L a=0) (hb:checkE L b=0):claB L a b=claB L b a:=by
 have one:∀ {a b:List Int},checkE L a=0→checkE L b=0→(solF L (jl a b 99) a.length).isNone=true→(solF L (jl b a 99) b.length).isNone=true:=by
  intro a b ha hb h
  rcases com_u (ap:=99) (Nat.le_refl _) hb ha with e | ⟨u,hu⟩
  ·have e' : solF L (jl b a 99) b.length=none:=e
   rw [e'];rfl
  ·obtain ⟨v,⟨ld,k,h1,_⟩,_⟩:=com_swap ha hb hu
   rw [h1] at h;cases h
 have e1:claE L a b=0:=by simp [claE,ha,hb]
 have e2:claE L b a=0:=by simp [claE,ha,hb]
 unfold claB
 rw [e1,e2]
 simp only [decide_true,Bool.true_and]
 cases h1:(solF L (jl a b 99) a.length).isNone with
 | true=>exact (one ha hb h1).symm
 | false=>
  cases h2:(solF L (jl b a 99) b.length).isNone with
  | false=>rfl
  | true=>have:=one hb ha h2;rw [h1] at this;cases this
theorem meetB_eq {L:List Sym} {a x:List Int} (ha:checkE L a=0) (hx:checkE L x=0):meetB L a x = !claB L x a:=by
 have e1:claE L a x=0:=by simp [claE,ha,hx]
 rw [meetB,e1,claB_swap ha hx];simp
end Go.Proofs.YtdhiiicppcgkbaaGreat
namespace Go.Proofs.YtdhiiicppcgkbaaGreat
open Go.RowKit Go.Extern.Stop Go.Stop Go.Extern
set_option linter.unusedVariables false
set_option maxRecDepth 100000
theorem is_typeOf (v:Value) (w:World):(Extern.ReflectliteType.typeOf #[.iface 58 v]).run Tryz.prog w=.ok (.iface 274 (.agg #[.pointer (some ⟨0,58,none⟩)])) w:=by kernel_rfl
theorem is_comparable (w:World):(callFunc 221 #[.agg #[.pointer (some ⟨0,58,none⟩)]]).run Tryz.prog w=.ok (.value (.bool true)) w:=
  (@run_callFunc_extern Tryz.prog 221 _ (Extern.ReflectliteType.method fun t => do Extern.Rtype.noPackHeld "Comparable" t; pure (.bool (← typeInfo t).comparable)) Tryz.func221 (by kernel_rfl) (by kernel_rfl) (by kernel_rfl) (by kernel_rfl) _ w).trans (by kernel_rfl)
theorem is_mComparable (v : Value) (w : World) : (Go.method 445 274 v "Comparable").run Tryz.prog w = .ok (221, v) w := by kernel_rfl
theorem is_noIs (v:Value) (xT:TypeId) (w:World):(Instr.typeAssert (.iface 58 v) xT 276 true).run Tryz.prog w=.ok (.tuple #[.nilIface,.bool false]) w:=run_typeAssert_lacksB Tryz.underlying276 (by kernel_rfl) (by kernel_rfl) v xT w
theorem is_noUnwrap (v:Value) (xT:TypeId) (w:World):(Instr.typeAssert (.iface 58 v) xT 279 true).run Tryz.prog w=.ok (.tuple #[.nilIface,.bool false]) w:=run_typeAssert_lacksB Tryz.underlying279 (by kernel_rfl) (by kernel_rfl) v xT w
theorem is_noUnwraps (v:Value) (xT:TypeId) (w:World):(Instr.typeAssert (.iface 58 v) xT 280 true).run Tryz.prog w=.ok (.tuple #[.nilIface,.bool false]) w:=run_typeAssert_lacksB Tryz.underlying280 (by kernel_rfl) (by kernel_rfl) v xT w
theorem is_hasIs (v:Value) (xT:TypeId) (w:World):(Instr.typeAssert (.iface 123 v) xT 276 true).run Tryz.prog w=.ok (.tuple #[.iface 123 v,.bool true]) w:=run_typeAssert_hasB Tryz.underlying276 (by kernel_rfl) v xT w
theorem is_hasUnwrap (v:Value) (xT:TypeId) (w:World):(Instr.typeAssert (.iface 123 v) xT 279 true).run Tryz.prog w=.ok (.tuple #[.iface 123 v,.bool true]) w:=run_typeAssert_hasB Tryz.underlying279 (by kernel_rfl) v xT w
theorem is_mIs (v : Value) (w : World) : (Go.method 445 123 v "Is").run Tryz.prog w = .ok (216, v) w := by kernel_rfl
theorem is_mUnwrap (v : Value) (w : World) : (Go.method 445 123 v "Unwrap").run Tryz.prog w = .ok (217, v) w := by kernel_rfl
theorem is_eqE (a b:Int) (w:World):(binOp .eql 47 (.iface 58 (.int .i64 a)) (.iface 58 (.int .i64 b))).run Tryz.prog w=.ok (.bool (a == b)) w:=by kernel_rfl
theorem is_eqF (v u:Value) (w:World):(binOp .eql 47 (.iface 123 v) (.iface 58 u)).run Tryz.prog w=.ok (.bool false) w:=by kernel_rfl
theorem is_asE (v:Value) (xT:TypeId) (w:World):(Instr.typeAssert (.iface 58 v) xT 58 true).run Tryz.prog w=.ok (.tuple #[v,.bool true]) w:=by kernel_rfl
theorem is_nilE (v:Value) (w:World):(binOp .eql 47 .nilIface (.iface 58 v)).run Tryz.prog w=.ok (.bool false) w:=by kernel_rfl
def FltAt (w:World):List (Int × Int)→Value→Prop
 | [],v=>v=.nilIface
 | (c,p) :: r,v=>(p = -1∧r=[]∧v=.iface 58 (.int .i64 c))∨(p ≠ -1∧∃ b u,v=.iface 123 (.pointer (some ⟨b,0,none⟩))∧w.heap[b]? = some (.cells #[.int .i64 c,.int .i64 p,u] 125 (0,0))∧FltAt w r u)
theorem FltAt.same {w w' : World} (hk:Same0 w w'):∀ {ws:List (Int × Int)} {v:Value},FltAt w ws v→FltAt w' ws v
 | [],_,h=>h
 | (c,p) :: r,v,h=>by
  rcases h with h | ⟨h0,b,u,h1,h2,h3⟩
  ·exact .inl h
  ·exact .inr ⟨h0,b,u,h1,hk.at0 h2,FltAt.same hk h3⟩
theorem fIs_any {w:World} {b:Nat} {c p:Int} {u:Value} (h:w.heap[b]? = some (.cells #[.int .i64 c,.int .i64 p,u] 125 (0,0))) (d:Int) :
  Calls Tryz.prog 216 #[.pointer (some ⟨b,0,none⟩),.iface 58 (.int .i64 d)] w fun e w' => e=.returned (.bool (d == c))∧w' = w:=by
 have aE:=is_asE
 have b0:=cellAt h 0
 simp only [List.getElem?_toArray,List.getElem?_cons_zero] at b0
 clear h
 by_cases hd:d=c
 ·have e1:(d == c)=true:=by simpa using hd
  go_enter Tryz.func216,Tryz.ntmps216
  go_wp2
  go_ret
  exact ⟨by rw [e1];rfl,rfl⟩
 ·have e1:(d == c)=false:=by simpa using hd
  go_enter Tryz.func216,Tryz.ntmps216
  go_wp2
  go_ret
  exact ⟨by rw [e1];rfl,rfl⟩
theorem fUnwrap_any {w:World} {b:Nat} {c p:Int} {u:Value} (h:w.heap[b]? = some (.cells #[.int .i64 c,.int .i64 p,u] 125 (0,0))) :
  Calls Tryz.prog 217 #[.pointer (some ⟨b,0,none⟩)] w fun e w' => e=.returned u∧w' = w:=by
 have b0:=cellAt h 2
 simp only [List.getElem?_toArray,List.getElem?_cons_zero,List.getElem?_cons_succ] at b0
 clear h
 go_enter Tryz.func217,Tryz.ntmps217
 go_wp2
 go_ret
 exact ⟨rfl,rfl⟩
theorem is_one (a d:Int) (w:World):Calls Tryz.prog 122 #[.iface 58 (.int .i64 a),.iface 58 (.int .i64 d)] w fun e w' => e=.returned (.bool (a == d))∧w' = w:=by
 have h8:=@run_callFunc_extern Tryz.prog 160 _ Extern.ReflectliteType.typeOf Tryz.func160 (by kernel_rfl) (by kernel_rfl) (by kernel_rfl) (by kernel_rfl)
 have tT:=is_typeOf
 have cT:=is_comparable
 have mR:=is_mComparable
 have nE:=is_noIs
 have uE:=is_noUnwrap
 have vE:=is_noUnwraps
 by_cases hd:a=d
 ·subst hd
  have e1:(a == a)=true:=by simp
  have eq:=is_eqE a a
  rw [e1] at eq ⊢
  clear e1
  go_enter Tryz.func122,Tryz.ntmps122
  go_wp2
  refine wp_loop_rounds 1 ?_
  rw [rounds_succ]
  go_wp2
  go_ret
  exact ⟨rfl,rfl⟩
 ·have e1:(a == d)=false:=by simpa using hd
  have eq:=is_eqE a d
  rw [e1] at eq ⊢
  clear hd e1
  go_enter Tryz.func122,Tryz.ntmps122
  go_wp2
  refine wp_loop_rounds 1 ?_
  rw [rounds_succ]
  go_wp2
  go_ret
  exact ⟨rfl,rfl⟩
theorem is_fault {w:World} {b:Nat} {c p:Int} (h:w.heap[b]? = some (.cells #[.int .i64 c,.int .i64 p,.nilIface] 125 (0,0))) (d:Int) :
  Calls Tryz.prog 122 #[.iface 123 (.pointer (some ⟨b,0,none⟩)),.iface 58 (.int .i64 d)] w fun e w' => e=.returned (.bool (d == c))∧w' = w:=by
 have h8:=@run_callFunc_extern Tryz.prog 160 _ Extern.ReflectliteType.typeOf Tryz.func160 (by kernel_rfl) (by kernel_rfl) (by kernel_rfl) (by kernel_rfl)
 have tT:=is_typeOf
 have cT:=is_comparable
 have mR:=is_mComparable
 have nE:=is_hasIs
 have uE:=is_hasUnwrap
 have m1:=is_mIs
 have m2:=is_mUnwrap
 have eq:=is_eqF
 have c1:=fIs_any h d
 have c2:=fUnwrap_any h
 clear h
 generalize (d == c)=r at *
 cases r
 ·go_enter Tryz.func122,Tryz.ntmps122
  go_wp2
  refine wp_loop_rounds 1 ?_
  rw [rounds_succ]
  go_wp2_with (first | (go_at_call 216;refine c1.mono ?_;rintro e w' ⟨rfl,rfl⟩) | (go_at_call 217;refine c2.mono ?_;rintro e w' ⟨rfl,rfl⟩))
  go_ret
  exact ⟨rfl,rfl⟩
 ·go_enter Tryz.func122,Tryz.ntmps122
  go_wp2
  refine wp_loop_rounds 1 ?_
  rw [rounds_succ]
  go_wp2_with (first | (go_at_call 216;refine c1.mono ?_;rintro e w' ⟨rfl,rfl⟩) | (go_at_call 217;refine c2.mono ?_;rintro e w' ⟨rfl,rfl⟩))
  go_ret
  exact ⟨rfl,rfl⟩
set_option maxHeartbeats 4000000 in
theorem is_fault_one {w:World} {b:Nat} {c p:Int} {k:Int} (h:w.heap[b]? = some (.cells #[.int .i64 c,.int .i64 p,.iface 58 (.int .i64 k)] 125 (0,0))) (d:Int) :
  Calls Tryz.prog 122 #[.iface 123 (.pointer (some ⟨b,0,none⟩)),.iface 58 (.int .i64 d)] w fun e w' => e=.returned (.bool ((d == c) || k == d))∧w' = w:=by
 have h8:=@run_callFunc_extern Tryz.prog 160 _ Extern.ReflectliteType.typeOf Tryz.func160 (by kernel_rfl) (by kernel_rfl) (by kernel_rfl) (by kernel_rfl)
 have tT:=is_typeOf
 have cT:=is_comparable
 have mR:=is_mComparable
 have nE:=is_hasIs
 have uE:=is_hasUnwrap
 have m1:=is_mIs
 have m2:=is_mUnwrap
 have eq:=is_eqF
 have c1:=fIs_any h d
 have c2:=fUnwrap_any h
 have eqk:=is_eqE k d w
 have nE' := is_noIs
 have uE' := is_noUnwrap
 have vE' := is_noUnwraps
 clear h
 generalize (d == c)=r at *
 cases r
 ·simp only [Bool.false_or]
  generalize (k == d)=q at *
  cases q
  ·go_enter Tryz.func122,Tryz.ntmps122
   go_wp2
   refine wp_loop_rounds 2 ?_
   rw [rounds_succ]
   go_wp2_with (first | (go_at_call 216;refine c1.mono ?_;rintro e w' ⟨rfl,rfl⟩) | (go_at_call 217;refine c2.mono ?_;rintro e w' ⟨rfl,rfl⟩))
   rw [rounds_succ]
   go_wp2
   go_ret
   exact ⟨rfl,rfl⟩
  ·go_enter Tryz.func122,Tryz.ntmps122
   go_wp2
   refine wp_loop_rounds 2 ?_
   rw [rounds_succ]
   go_wp2_with (first | (go_at_call 216;refine c1.mono ?_;rintro e w' ⟨rfl,rfl⟩) | (go_at_call 217;refine c2.mono ?_;rintro e w' ⟨rfl,rfl⟩))
   rw [rounds_succ]
   go_wp2
   go_ret
   exact ⟨rfl,rfl⟩
 ·simp only [Bool.true_or]
  clear c2
  go_enter Tryz.func122,Tryz.ntmps122
  go_wp2
  refine wp_loop_rounds 2 ?_
  rw [rounds_succ]
  go_wp2_with (first | (go_at_call 216;refine c1.mono ?_;rintro e w' ⟨rfl,rfl⟩))
  go_ret
  exact ⟨rfl,rfl⟩
set_option maxHeartbeats 4000000 in
theorem is_fault_two {w:World} {b:Nat} {c p:Int} {b' : Nat} {c' p' : Int} (h:w.heap[b]? = some (.cells #[.int .i64 c,.int .i64 p,.iface 123 (.pointer (some ⟨b', 0,none⟩))] 125 (0,0))) (h' : w.heap[b']? = some (.cells #[.int .i64 c', .int .i64 p', .nilIface] 125 (0,0))) (d:Int) :
  Calls Tryz.prog 122 #[.iface 123 (.pointer (some ⟨b,0,none⟩)),.iface 58 (.int .i64 d)] w fun e w' => e=.returned (.bool ((d == c) || d == c'))∧w' = w:=by
 have h8:=@run_callFunc_extern Tryz.prog 160 _ Extern.ReflectliteType.typeOf Tryz.func160 (by kernel_rfl) (by kernel_rfl) (by kernel_rfl) (by kernel_rfl)
 have tT:=is_typeOf
 have cT:=is_comparable
 have mR:=is_mComparable
 have nE:=is_hasIs
 have uE:=is_hasUnwrap
 have m1:=is_mIs
 have m2:=is_mUnwrap
 have eq:=is_eqF
 have c1:=fIs_any h d
 have c2:=fUnwrap_any h
 have c3:=fIs_any h' d
 have c4:=fUnwrap_any h'
 clear h'
 clear h
 generalize (d == c)=r at *
 cases r
 ·simp only [Bool.false_or]
  generalize (d == c')=q at *
  cases q
  ·go_enter Tryz.func122,Tryz.ntmps122
   go_wp2
   refine wp_loop_rounds 2 ?_
   rw [rounds_succ]
   go_wp2_with (first | (go_at_call 216;refine c1.mono ?_;rintro e w' ⟨rfl,rfl⟩) | (go_at_call 217;refine c2.mono ?_;rintro e w' ⟨rfl,rfl⟩))
   rw [rounds_succ]
   go_wp2_with (first | (go_at_call 216;refine c3.mono ?_;rintro e w' ⟨rfl,rfl⟩) | (go_at_call 217;refine c4.mono ?_;rintro e w' ⟨rfl,rfl⟩))
   go_ret
   exact ⟨rfl,rfl⟩
  ·go_enter Tryz.func122,Tryz.ntmps122
   go_wp2
   refine wp_loop_rounds 2 ?_
   rw [rounds_succ]
   go_wp2_with (first | (go_at_call 216;refine c1.mono ?_;rintro e w' ⟨rfl,rfl⟩) | (go_at_call 217;refine c2.mono ?_;rintro e w' ⟨rfl,rfl⟩))
   rw [rounds_succ]
   go_wp2_with (first | (go_at_call 216;refine c3.mono ?_;rintro e w' ⟨rfl,rfl⟩) | (go_at_call 217;refine c4.mono ?_;rintro e w' ⟨rfl,rfl⟩))
   go_ret
   exact ⟨rfl,rfl⟩
 ·simp only [Bool.true_or]
  clear c2
  go_enter Tryz.func122,Tryz.ntmps122
  go_wp2
  refine wp_loop_rounds 2 ?_
  rw [rounds_succ]
  go_wp2_with (first | (go_at_call 216;refine c1.mono ?_;rintro e w' ⟨rfl,rfl⟩))
  go_ret
  exact ⟨rfl,rfl⟩
theorem is_none (d:Int) (w:World):Calls Tryz.prog 122 #[.nilIface,.iface 58 (.int .i64 d)] w fun e w' => e=.returned (.bool false)∧w' = w:=by
 have hn:=is_nilE
 go_enter Tryz.func122,Tryz.ntmps122
 go_wp2
 go_ret
 exact ⟨rfl,rfl⟩
def bears (ws:List (Int × Int)) (d:Int):Bool:=decide (d∈ws.map Prod.fst)
theorem is_any {w:World} {ws:List (Int × Int)} {v:Value} (h:FltAt w ws v) (h2:ws.length≤2) (d:Int) :
  Calls Tryz.prog 122 #[v,.iface 58 (.int .i64 d)] w fun e w' => e=.returned (.bool (bears ws d))∧w' = w:=by
 match ws,h2 with
 | [],_=>
  obtain rfl:v=.nilIface:=h
  exact is_none d w
 | [(c,p)],_=>
  rcases h with ⟨rfl,_,rfl⟩ | ⟨_,b,u,rfl,h1,hu⟩
  ·refine (is_one c d w).mono ?_
   rintro e w' ⟨rfl,rfl⟩
   refine ⟨ret_bool ?_,rfl⟩
   by_cases e:d=c
   ·simp [bears,e]
   ·simp [bears,e];omega
  ·obtain rfl:u=.nilIface:=hu
   refine (is_fault h1 d).mono ?_
   rintro e w' ⟨rfl,rfl⟩
   refine ⟨ret_bool ?_,rfl⟩
   by_cases e:d=c <;> simp [bears,e]
 | [(c,p),(c', p')],_=>
  rcases h with ⟨_,e,_⟩ | ⟨_,b,u,rfl,h1,hu⟩
  ·cases e
  ·rcases hu with ⟨rfl,_,rfl⟩ | ⟨_,b', u', rfl,h1', hu'⟩
   ·refine (is_fault_one h1 d).mono ?_
    rintro e w' ⟨rfl,rfl⟩
    refine ⟨ret_bool ?_,rfl⟩
    by_cases e:d=c
    ·simp [bears,e]
    ·by_cases e' : d=c'
     ·simp [bears,e']
     ·have:(c' == d)=false:=by simp;omega
      simp [bears,e,e', this]
   ·obtain rfl:u' = .nilIface:=hu'
    refine (is_fault_two h1 h1' d).mono ?_
    rintro e w' ⟨rfl,rfl⟩
    refine ⟨ret_bool ?_,rfl⟩
    by_cases e:d=c
    ·simp [bears,e]
    ·by_cases e' : d=c' <;> simp [bears,e,e']
end Go.Proofs.YtdhiiicppcgkbaaGreat
namespace Go.Proofs.YtdhiiicppcgkbaaGreat
set_option linter.unusedVariables false
open Go.RowKit Go.Deep
structure Arg (w:World) (ao:Option Addr) (xs:List Int) (cap:Nat):Prop where
 at' : IntsAt w ao xs
 cap' : xs.length≤cap
 nil:ao=none→xs.length=0∧cap=0
 size:xs.length * 8≤140737488351232
section
variable {H : Type} {enc : TypeId × Value → H} {w : World} {spare : Nat → Bool} {held : Bool}
theorem bytes_int:Tryz.prog.bytesOf 3=8:=by kernel_rfl
theorem open_ints {t fuel:Nat} {cs:List Value} {x:DataW H × List MemPlace} (ht:Tryz.prog.underlying t=some (.slice 3)) (h:DataW.trod enc Tryz.prog w 0 spare held fuel t cs=some x) (hw:∀ n∈x.1.weights Tryz.prog t,n≤reachBytes) :
  ∃ ao cap xs,cs=[.slice ao xs.length cap]∧Arg w ao xs cap:=by
 have h' := h
 rcases open_slice ht h with ⟨hcs,_⟩ | ⟨a,len,cap,m,n,D,Pl,hcs,_,hl,hm,hmm,rfl,hx⟩
 ·exact ⟨none,0,[],hcs,.inl rfl,Nat.le_refl _,fun _=>⟨rfl,rfl⟩,by simp⟩
 ·subst hcs
  have hsz:len * 8≤140737488351232:=by
   have:=hw ((((List.range len).map D).length+((List.range (m-len)).map fun j=>D (len+j)).length) * Tryz.prog.bytesOf 3) (by simp [DataW.weights,ht])
   rw [bytes_int] at this
   simp [reachBytes] at this
   omega
  rcases open_elems ht cells_int (by omega) h' with ⟨e,_,_⟩ | ⟨a', e,hl1,hl2,hall⟩
  ·cases e
  ·cases e
   have each:∀ i,i<len→∃ z:Int,w.cell? ⟨a.block,a.off+i,none⟩=some (.int .i64 z):=by
    intro i hi
    obtain ⟨_,_,cs,n,y,hl,hcell,hy⟩:=hall i hi
    obtain ⟨z,e1,_,_⟩:=DataW.trod_int Tryz.underlying3 hy
    subst e1
    exact ⟨z,by simpa using hcell 0 (by omega)⟩
   obtain ⟨f,hf⟩:=Classical.axiomOfChoice (fun i:Fin len=>each i i.2)
   refine ⟨some a,cap,List.ofFn f,by simp,?_,by simpa using hl,(fun e=>by cases e),by simpa using hsz⟩
   by_cases h0:len=0
   ·subst h0;exact .inl (by simp)
   ·obtain ⟨ea,hlt,_⟩:=hall 0 (by omega)
    refine .inr ⟨a.block,a.off,by rw [← ea],hlt,fun i hi=>?_⟩
    have hi' : i<len:=by simpa using hi
    simpa using hf ⟨i,hi'⟩
theorem cells_term:Tryz.prog.cellsOf 64=1:=by kernel_rfl
structure CaseIs (w:World) (v:Value) (lo:Option Addr) (ll lc:Nat) (ls:List Sym) (so:Option Addr) (tc:Nat) (t:List Int) (at' : Int) (uo:Option Addr) (uc:Nat) (u:List Int) (po:Option Addr) (pc:Nat) (path:List Int):Prop where
 eq:v=.agg #[.slice lo ll lc,.slice so t.length tc,.int .i64 at', .slice uo u.length uc,.slice po path.length pc]
 syms:SymsAt w lo ll ls
 sl:ll≤maxLen
 t' : Arg w so t tc
 u' : Arg w uo u uc
 p' : Arg w po path pc
end
end Go.Proofs.YtdhiiicppcgkbaaGreat
namespace Go.Proofs.YtdhiiicppcgkbaaGreat
set_option maxRecDepth 100000
set_option linter.unusedVariables false
open Go.RowKit
attribute [local go_sem ↓] Go.wp_at_zero Go.wp_at_succ
theorem Arg.same {w w' : World} {ao:Option Addr} {xs:List Int} {cap:Nat} (h:Arg w ao xs cap) (hk:Same0 w w'):Arg w' ao xs cap:=⟨h.at'.same hk,h.cap', h.nil,h.size⟩
def RuAt (w:World) (b off:Nat) (x:Ru):Prop:=
 ∃ ao ac bo bc,w.cell? ⟨b,off,none⟩=some (.slice ao x.1.length ac)∧w.cell? ⟨b,off+1,none⟩=some (.slice bo x.2.length bc)∧Arg w ao x.1 ac∧Arg w bo x.2 bc
def RsAt (w:World) (lo:Option Addr) (l:List Ru):Prop:=
 l=[]∨∃ b off,lo=some ⟨b,off,none⟩∧b<w.heap.size∧∀ i (h:i<l.length),RuAt w b (off+i * 2) l[i]
theorem RuAt.same {w w' : World} {b off:Nat} {x:Ru} (h:RuAt w b off x) (hb:b<w.heap.size) (hk:Same0 w w'):RuAt w' b off x:=by
 obtain ⟨ao,ac,bo,bc,h1,h2,h3,h4⟩:=h
 exact ⟨ao,ac,bo,bc,(hk.cell (p:=⟨b,off,none⟩) hb (fun f=>f)).trans h1,(hk.cell (p:=⟨b,off+1,none⟩) hb (fun f=>f)).trans h2,h3.same hk,h4.same hk⟩
theorem RsAt.same {w w' : World} {lo:Option Addr} {l:List Ru} (h:RsAt w lo l) (hk:Same0 w w'):RsAt w' lo l:=by
 refine h.imp id ?_
 rintro ⟨b,off,rfl,hb,hc⟩
 exact ⟨b,off,rfl,Nat.lt_of_lt_of_le hb hk.size,fun i hi=>(hc i hi).same hb hk⟩
theorem RsAt.get {w:World} {lo:Option Addr} {l:List Ru} (h:RsAt w lo l) {i:Nat} (hi:i<l.length):∃ b off,lo=some ⟨b,off,none⟩∧b<w.heap.size∧RuAt w b (off+i * 2) l[i]:=by
 rcases h with rfl | ⟨b,off,e,hb,hc⟩
 ·simp at hi
 ·exact ⟨b,off,e,hb,hc i hi⟩
structure StR (w:World) (b bs:Nat) (ro:Option Addr) (rc:Nat) (L:List Sym) (R:List Ru):Prop where
 blk:w.heap[b]? = some (.cells #[.pointer (some ⟨bs,0,none⟩),.slice ro R.length rc] 171 (0,0))
 sig:Sg w.heap.size w bs L
 rs:RsAt w ro R
 nil:ro=none→rc=0
 le:R.length≤100
 ok:∀ x∈R,checkE L x.1=0
theorem StR.same {w w' : World} {b bs:Nat} {ro:Option Addr} {rc:Nat} {L:List Sym} {R:List Ru} (h:StR w b bs ro rc L R) (hk:Same0 w w'):StR w' b bs ro rc L R:=
 ⟨hk.at0 h.blk,sg_up (h.sig.same hk) hk.size,h.rs.same hk,h.nil,h.le,h.ok⟩
theorem StR.cells {w:World} {b bs:Nat} {ro:Option Addr} {rc:Nat} {L:List Sym} {R:List Ru} (h:StR w b bs ro rc L R):w.cell? ⟨b,0,none⟩=some (.pointer (some ⟨bs,0,none⟩))∧w.cell? ⟨b,1,none⟩=some (.slice ro R.length rc):=by
 have h0:=cellAt h.blk 0
 have h1:=cellAt h.blk 1
 simp only [List.getElem?_toArray,List.getElem?_cons_zero,List.getElem?_cons_succ] at h0 h1
 exact ⟨h0,h1⟩
theorem cell_al {w:World} {p:Addr} {v:Value} (h:w.cell? p=some v) (o:Obj):(w.alloc o).cell? p=some v:=by
 rw [World.cell?_alloc_some _ _ _ (by rw [h];rfl),h]
theorem heap_al_al (w:World) (o o' : Obj):((w.alloc o).alloc o').heap[w.heap.size+1]? = some o' := by
 have:=heap_alloc_new (w.alloc o) o'
 rwa [World.size_alloc] at this
set_option maxHeartbeats 1000000 in
theorem rule_any {w:World} {b lb off len lc n:Nat} {ao bo:Option Addr} {al ac bl bc:Nat} (h0:w.cell? ⟨lb,off+n * 2,none⟩=some (.slice ao al ac)) (h1:w.cell? ⟨lb,off+n * 2+1,none⟩=some (.slice bo bl bc)) (hn:n<len) :
  Calls Tryz.prog 174 #[.agg #[.pointer (some ⟨b,0,none⟩),.slice (some ⟨lb,off,none⟩) len lc,.int .i64 (n:Int)]] w fun e w' => e=.returned (.agg #[.slice ao al ac,.slice bo bl bc])∧Same0 w w' := by
 have i1:(0:Int)≤(n:Int):=by omega
 have i2:(n:Int)<(len:Int):=by omega
 have H0:=fun o o' => cell_al (cell_al h0 o) o'
 have H1:=fun o o' => cell_al (cell_al h1 o) o'
 clear h0 h1
 go_enter Tryz.func174,Tryz.ntmps174
 go_wp2
 exact bodyPost_ret (v:=.agg #[.slice ao al ac,.slice bo bl bc]) (by simp [results,Tryz.results174,go_sem]) rfl ⟨rfl,((Kept.refl _ w).alloc _).alloc _⟩
set_option maxHeartbeats 1000000 in
theorem fault_any (w:World) (b:Nat) (lo:Option Addr) (ll lc:Nat) (why:Value) (hw:why=.nilIface∨∃ t v,why=.iface t v) (n:Nat) (c:Int) :
  Calls Tryz.prog 175 #[.agg #[.pointer (some ⟨b,0,none⟩),.slice lo ll lc,.int .i64 (n:Int)],.int .i64 c,why] w fun e w' => ∃ k,e=.returned (.iface 123 (.pointer (some ⟨k,0,none⟩)))∧w'.heap[k]? = some (.cells #[.int .i64 c,.int .i64 (n:Int),why] 125 (0,0))∧Same0 w w' := by
 rcases hw with rfl | ⟨t,v,rfl⟩
 ·go_enter Tryz.func175,Tryz.ntmps175
  go_wp2
  go_ret
  exact ⟨_,rfl,heap_al_al _ _ _,((Kept.refl _ w).alloc _).alloc _⟩
 ·go_enter Tryz.func175,Tryz.ntmps175
  go_wp2
  go_ret
  exact ⟨_,rfl,heap_al_al _ _ _,((Kept.refl _ w).alloc _).alloc _⟩
set_option maxHeartbeats 1000000 in
theorem unless_any (w:World) (b:Nat) (lo:Option Addr) (ll lc n:Nat) (c:Int) (h:Bool) :
  Calls Tryz.prog 173 #[.agg #[.pointer (some ⟨b,0,none⟩),.slice lo ll lc,.int .i64 (n:Int)],.bool h,.int .i64 c] w fun e w' => ∃ v,e=.returned v∧FltAt w' (if h=true then [(0, -1)] else [(c,(n:Int))]) v∧Same0 w w' := by
 cases h
 ·have cF:=fault_any
  go_enter Tryz.func173,Tryz.ntmps173
  go_wp2_with (first | (go_at_call 175;refine (cF _ _ _ _ _ _ (.inl rfl) _ _).mono ?_;rintro e w1 ⟨k,rfl,hk1,hk2⟩))
  go_ret
  exact ⟨_,rfl,.inr ⟨by omega,k,_,rfl,hk1,rfl⟩,Same0.trans' ((Kept.refl _ w).alloc _) hk2⟩
 ·go_enter Tryz.func173,Tryz.ntmps173
  go_wp2
  go_ret
  exact ⟨_,rfl,.inl ⟨rfl,rfl,rfl⟩,(Kept.refl _ w).alloc _⟩
theorem sg_at_no {n b:Nat} {w:World} {L:List Sym} (h:Sg n w b L) {x:Int} (hx:x<0∨(L.length:Int)≤x):Calls Tryz.prog 105 #[.pointer (some ⟨b,0,none⟩),.int .i64 x] w fun e w' => e=.returned (.tuple #[.agg #[.string ⟨#[]⟩,.int .i64 0,.bool false],.int .i64 14])∧Same0 w w' := by
 obtain ⟨⟨sv,mr,h1,_⟩,ha⟩:=h
 exact at_no h1 x hx
theorem sg_at_yes {n b:Nat} {w:World} {L:List Sym} (h:Sg n w b L) {i:Nat} (hi:i<L.length):Calls Tryz.prog 105 #[.pointer (some ⟨b,0,none⟩),.int .i64 (i:Int)] w fun e w' => e=.returned (.tuple #[.agg #[.string L[i].name,.int .i64 L[i].ar,.bool L[i].df],.int .i64 0])∧Same0 w w' := by
 obtain ⟨⟨sv,mr,h1,_⟩,ha⟩:=h
 exact at_yes h1 i hi
set_option maxHeartbeats 1000000 in
theorem isDefined_any {w:World} {b bs:Nat} {ro:Option Addr} {rc:Nat} {L:List Sym} {R:List Ru} (h:StR w b bs ro rc L R) (lo:Option Addr) (ll lc n:Nat) (x:Int) :
  Calls Tryz.prog 176 #[.agg #[.pointer (some ⟨b,0,none⟩),.slice lo ll lc,.int .i64 (n:Int)],.int .i64 x] w fun e w' => e=.returned (.bool (defB L x))∧Same0 w w' := by
 have K:∀ o,Same0 w (w.alloc o):=fun o=>(Kept.refl _ w).alloc o
 have C:=fun o=>(h.same (K o)).cells.1
 by_cases hx:x<0∨(L.length:Int)≤x
 ·have H1:Hid (defB L x=false):=defB_no hx
  have c:=fun o=>sg_at_no (h.same (K o)).sig hx
  clear K h
  go_enter Tryz.func176,Tryz.ntmps176
  go_wp2_with (first | (go_at_call 105;refine (c _).mono ?_;rintro e w' ⟨rfl,hk⟩))
  go_ret
  exact ⟨by rw [H1.out];rfl,Kept.alloc (Same0.trans' ((Kept.refl _ w).alloc _) hk) _⟩
 ·obtain ⟨i,rfl⟩:∃ i:Nat,x=(i:Int):=⟨x.toNat,by omega⟩
  have hi:i<L.length:=by omega
  have H1:Hid (defB L (i:Int)=L[i].df):=defB_at hi
  have c:=fun o=>sg_at_yes (h.same (K o)).sig hi
  clear K h
  go_enter Tryz.func176,Tryz.ntmps176
  go_wp2_with (first | (go_at_call 105;refine (c _).mono ?_;rintro e w' ⟨rfl,hk⟩))
  go_ret
  exact ⟨by rw [H1.out];rfl,Kept.alloc (Same0.trans' ((Kept.refl _ w).alloc _) hk) _⟩
end Go.Proofs.YtdhiiicppcgkbaaGreat
