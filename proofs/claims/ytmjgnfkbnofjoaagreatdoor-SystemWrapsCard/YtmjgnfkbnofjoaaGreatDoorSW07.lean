import Derived.Test.YtmjgnfkbnofjoaaGreatDoorSW06
import Derived.Deep.LoopGhost
import Derived.Deep.CutRange
import Derived.Deep.RegionHeld3
import Derived.BigRegion
import Derived.Test.YtmjgnfkbnofjoaaGreatDoorSW02
import Derived.Test.YtmjgnfkbnofjoaaGreatDoorSW04
import Derived.Deep.WholeRow
import Derived.Test.YtmjgnfkbnofjoaaGreatDoorSW05
import Derived.Test.YtmjgnfkbnofjoaaGreatDoorSW01
namespace Go.Proofs.YtmjgnfkbnofjoaaGreatDoor
set_option maxRecDepth 100000
set_option linter.unusedVariables false
open Go.RowKit
attribute [local go_sem ↓] Go.wp_at_zero Go.wp_at_succ
theorem JB.way_foot {B:JB} {k:Nat} (h:B.Way k):B.Foot k:=by
 rcases h with e | e
 ·exact .inl e
 ·exact .inr (.inr (.inr (.inl e)))
structure URel (L:List Sym) (B:JB) (J:List Int) (sz:Nat→Int) (res:Option (Int→Int)) (w0:World) (k:Nat) (wr:World) (v:Value) (ld:Int→Int) (rs:List (Nat × Nat × Nat)):Prop where
 u:UOk L J res k ld rs
 j:JAt L B wr J ld sz
 row:RRow w0.heap.size wr v rs
 kept:Kept B.Way w0 wr
theorem URel.drewN {L:List Sym} {B:JB} {J:List Int} {sz:Nat→Int} {res:Option (Int→Int)} {w0:World} {k:Nat} {wr:World} {v:Value} {ld:Int→Int} {rs:List (Nat × Nat × Nat)} (h:URel L B J sz res w0 k wr v ld rs) (n:Nat):URel L B J sz res w0 k (wr.drewN n) v ld rs:=
 ⟨h.u,h.j.kept (S:=fun _=>False) ((Kept.refl _ _).drewN n) (fun _ _ f=>f),h.row.kept (S:=fun _=>False) ((Kept.refl _ _).drewN n) (fun _ _ f=>f),h.kept.drewN n⟩
def UEnd (L:List Sym) (B:JB) (J:List Int) (sz:Nat→Int) (res:Option (Int→Int)) (w:World) (e:Ending) (w' : World):Prop:=(∀ ld', res=some ld' → e=.returned (.bool true)∧JAt L B w' J ld' sz)∧(res=none→e=.returned (.bool false))∧Kept B.Way w w'
theorem run_new (w:World) (x y o:Nat):RRow w.heap.size (w.alloc (.cells #[.int .i64 (x:Int),.int .i64 (y:Int),.int .i64 (o:Int)] 361)) (.slice (some ⟨w.heap.size,0,none⟩) 1 1) [(x,y,o)]:=
 ⟨by simp [runCells],.inr ⟨w.heap.size,1,_,rfl,Nat.le_refl _,heap_alloc_new _ _,Nat.le_refl _,by decide,rfl,rfl⟩⟩
theorem JAt.join {L:List Sym} {w:World} {B:JB} {J:List Int} {ld:Int→Int} {sz:Nat→Int} (h:JAt L B w J ld sz) {p q:Int} (hp:UPart J p) (hq:UPart J q) (lp:ld p=p) (lq:ld q=q) (hpq:p≠q):JAt L B (w.setCell (nxA B p) (.int .i64 q)) J (un p q ld) sz∧Kept B.Way w (w.setCell (nxA B p) (.int .i64 q)):=by
 obtain ⟨nx,ρ,h1,h2⟩:=h
 obtain ⟨g1,g2⟩:=h1.put hp q
 exact ⟨⟨_,_,g1,h2.join hp hq lp lq hpq⟩,g2.mono (fun i _ e=>by rw [e];exact B.way p)⟩
theorem nxA_var (B:JB) {v:Nat} (hv:1≤v):nxA B (-(v:Int))=⟨B.jb,2+v,none⟩:=by unfold nxA;rw [if_pos (by omega)];congr 2;omega
theorem nxA_nat (B:JB) (v:Nat):nxA B (v:Int)=⟨B.sb,v,none⟩:=by unfold nxA;rw [if_neg (by omega)];congr 1
set_option maxHeartbeats 4000000 in
theorem unite_any {L:List Sym} {w:World} {B:JB} {J:List Int} {ld:Int→Int} {sz:Nat→Int} {res:Option (Int→Int)} (h:JAt L B w J ld sz) {a b n:Nat} (ha:a<J.length) (hb:b<J.length) (hJ:J.length≤4000) (hu:UOk L J res n ld [(a,endN L J a,b)]) :
  Calls Tryz.prog 236 #[.pointer (some ⟨B.jb,0,none⟩),.int .i64 (a:Int),.int .i64 (b:Int)] w (UEnd L B J sz res w):=by
 have hfoot:∀ k,B.Foot k→k<w.heap.size:=by
  obtain ⟨nx,ρ,hC,_⟩:=h
  exact fun k hk=>hC.lt hk
 have U0:URel L B J sz res w n (w.alloc (.cells #[.int .i64 (a:Int),.int .i64 (endN L J a:Int),.int .i64 (b:Int)] 361)) (.slice (some ⟨w.heap.size,0,none⟩) 1 1) ld [(a,endN L J a,b)]:=
  ⟨hu,h.kept (S:=fun _=>False) (Kept.alloc (Kept.refl _ w) _) (fun _ _ f=>f),run_new w a _ b,Kept.alloc (Kept.refl _ w) _⟩
 obtain ⟨nx,ρ,hC,_⟩:=h
 obtain ⟨c0,c1,c2,c3,c4⟩:=hC.head.cells
 have ce:=(hC.ends.cell ha).1
 clear hC
 have i1:(0:Int)≤(a:Int):=by omega
 have i2:(a:Int)<(J.length:Int):=by omega
 go_enter Tryz.func236,Tryz.ntmps236
 go_wp2_with fail
 go_step3
 go_wp2_with fail
 go_step3
 go_wp2_with fail
 clear c0 c1 c2 c3 c4 ce i1 i2 hu
 go_loopg [7] n (fun k s7 wr=>∃ ld rs,URel L B J sz res w k wr s7 ld rs)
 case atStart=>exact ⟨ld,_,U0⟩
 case round=>
  clear U0
  obtain ⟨ld,rs,hU⟩:=hrel
  cases rs with
  | nil=>
   obtain ⟨vo,vcap,rfl⟩:=row_shape hU.row
   have e1:=hU.u.nil
   have fin:UEnd L B J sz res w (.returned (.bool true)) wr:=⟨fun ld' e=>⟨rfl,by rw [e1] at e;cases e;exact hU.j⟩,fun e=>(by rw [e1] at e;cases e),hU.kept⟩
   clear hU e1
   go_wp2_with fail
   go_returns
   exact fin
  | cons r rs=>
   obtain ⟨x,y,o⟩:=r
   obtain ⟨g,cap,rfl,hg1,hg2,hcap, -⟩:=hU.row.top
   have hlen:rs.length≤4000:=by have:=hU.u.len;simp at this;omega
   have j1:(0:Int)≤(rs.length:Int):=by omega
   have j2:(rs.length:Int)<((rs.length+1:Nat):Int):=by omega
   go_wp2_with fail
   go_loopg [7] gk (fun k s7 wi=>∃ ld x o,s7=.slice (some ⟨g,0,none⟩) (rs.length+1) cap∧k≤gk∧URel L B J sz res w k wi s7 ld ((x,y,o) :: rs))
   case atStart=>exact ⟨ld,x,o,rfl,Nat.le_refl _,hU⟩
   case round=>
    clear hU
    obtain ⟨ld,x,o,rfl,hgk,hU⟩:=hrel
    obtain ⟨g', cap', hv, -,hg3, -,q0,q1,q2,q3,q4⟩:=hU.row.top
    simp only [Value.slice.injEq,Option.some.injEq,Addr.mk.injEq,and_true,true_and] at hv
    obtain ⟨rfl,rfl⟩:=hv
    by_cases hxy:x<y
    ·have hxi:(x:Int)<(y:Int):=by omega
     obtain ⟨t1,t2,t3,t4,hpx,hpo,hlx,hlo,hr⟩:=hU.u.top hxy
     go_wp2_with fail
     go_quiet (fail)
     have hV:=hU.drewN nq
     obtain ⟨wq,hwq⟩:∃ wq,wr.drewN nq=wq:=⟨_,rfl⟩
     rw [hwq] at hV ⊢
     clear hU hwq q0 q1 q2 q3 q4 hg3
     obtain ⟨g', cap', hv, -,hg3, -,q0,q1,q2,q3,q4⟩:=hV.row.top
     simp only [Value.slice.injEq,Option.some.injEq,Addr.mk.injEq,and_true,true_and] at hv
     obtain ⟨rfl,rfl⟩:=hv
     have hng:¬ B.Way g:=fun f=>by have:=hfoot g (JB.way_foot f);omega
     have CX:Hid (∀ ww z,UPart J z→JAt L B ww J ld sz∧Kept B.Way wq ww→Calls Tryz.prog 238 #[.pointer (some ⟨B.jb,0,none⟩),.int .i64 z] ww fun e w' => e=.returned (.int .i64 (ld z))∧JAt L B w' J ld sz∧Kept B.Way wq w'):=fun ww z hz hw=>(leader_any hw.1 hz).mono (fun e w' ⟨a1,a2,a3⟩=>⟨a1,a2,hw.2.trans a3 (fun _ _ f=>f)⟩)
     have px:UPart J (x:Int):=part_nat t1
     have po:UPart J (o:Int):=part_nat t2
     have CC:Hid (∀ ww,Kept B.Way wq ww→ww.cell? ⟨g,rs.length * 3,none⟩=some (.int .i64 (x:Int))∧ww.cell? ⟨g,rs.length * 3+2,none⟩=some (.int .i64 (o:Int))):=fun ww hk=>⟨(hk.cell (p:=⟨g,_,none⟩) hg3 hng).trans q0,(hk.cell (p:=⟨g,_,none⟩) hg3 hng).trans q2⟩
     have W1:JAt L B wq.drew J ld sz∧Kept B.Way wq wq.drew:=⟨hV.j.kept (S:=fun _=>False) ((Kept.refl _ _).drew) (fun _ _ f=>f),(Kept.refl _ _).drew⟩
     go_upto_region 5 with fail
     go_cut [9,10] from 30 to 138 (fun s9 s10 wc=>s9=.int .i64 (ld x)∧s10=.int .i64 (ld o)∧JAt L B wc J ld sz∧Kept B.Way wq wc)
     case first=>
      clear hV
      have CC0:=CC.out _ W1.2
      go_region_held3 (fun w' => w'.cell? ⟨g,rs.length * 3,none⟩=some (.int .i64 (x:Int))∧w'.cell? ⟨g,rs.length * 3+2,none⟩=some (.int .i64 (o:Int))) (first | exact CC0 | exact cc1) (first | (go_at_call 238;refine (CX.out _ _ (by first | exact px | exact po) (by first | exact hw1 | exact W1)).mono ?_;rintro e w1 ⟨rfl,hw1⟩;have cc1:=CC.out _ hw1.2))
      all_goals
       go_wp2_with fail
       go_meet
       exact ⟨rfl,rfl,hw1⟩
     case rest=>
      obtain ⟨rfl,rfl,hJ1,hK1⟩:=hcut
      clear CX CC W1 q0 q1 q2 q3 q4
      have hR1:=hV.row.kept hK1 (fun k hk f=>by have:=hfoot k (JB.way_foot f);omega)
      have hK2:Kept B.Way w wc:=hV.kept.trans hK1 (fun _ _ f=>f)
      obtain ⟨g', cap', hv, -,hg4, -,q0,q1,q2,q3,q4⟩:=hR1.top
      simp only [Value.slice.injEq,Option.some.injEq,Addr.mk.injEq,and_true,true_and] at hv
      obtain ⟨rfl,rfl⟩:=hv
      obtain ⟨k', hk', S1,S2,S3,S4,S5⟩:=hV.u.step hxy
      have hR2:=hR1.on (endN L J x) (endN L J o)
      have hK3:Kept (fun k=>k=g) wc ((wc.setCell ⟨g,rs.length * 3,none⟩ (.int .i64 (endN L J x:Int))).setCell ⟨g,rs.length * 3+2,none⟩ (.int .i64 (endN L J o:Int))):=(Kept.setCell (S:=fun k=>k=g) (p:=⟨g,rs.length * 3,none⟩) (Kept.refl _ _) (fun _=>rfl) _).setCell (p:=⟨g,rs.length * 3+2,none⟩) (fun _=>rfl) _
      have hJ2:=hJ1.kept hK3 (fun k hk e=>by have:=hfoot k hk;omega)
      have hK4:=hK2.trans hK3 (fun k hk e=>by omega)
      obtain ⟨nx,ρ,hC, -⟩:=hJ1
      obtain ⟨c0,c1,c2,c3,c4⟩:=hC.head.cells
      have ce1:=(hC.ends.cell t1).1
      have ce2:=(hC.ends.cell t2).1
      have i1:(0:Int)≤(x:Int):=by omega
      have i2:(x:Int)<(J.length:Int):=by omega
      have i3:(0:Int)≤(o:Int):=by omega
      have i4:(o:Int)<(J.length:Int):=by omega
      have HH:Hid (JAt L B ((wc.setCell ⟨g,rs.length * 3,none⟩ (.int .i64 (endN L J x:Int))).setCell ⟨g,rs.length * 3+2,none⟩ (.int .i64 (endN L J o:Int))) J ld sz∧RRow w.heap.size ((wc.setCell ⟨g,rs.length * 3,none⟩ (.int .i64 (endN L J x:Int))).setCell ⟨g,rs.length * 3+2,none⟩ (.int .i64 (endN L J o:Int))) (.slice (some ⟨g,0,none⟩) (rs.length+1) cap) ((endN L J x,y,endN L J o) :: rs)∧Kept B.Way w ((wc.setCell ⟨g,rs.length * 3,none⟩ (.int .i64 (endN L J x:Int))).setCell ⟨g,rs.length * 3+2,none⟩ (.int .i64 (endN L J o:Int)))):=⟨hJ2,hR2,hK4⟩
      clear hC hJ2 hR2 hK4 hK3 hV hR1 hK1 hK2
      go_upto_region 6 with fail
      go_cut [] from 30 to 138 (fun w8=>JAt L B w8 J ld sz∧RRow w.heap.size w8 (.slice (some ⟨g,0,none⟩) (rs.length+1) cap) ((endN L J x,y,endN L J o) :: rs)∧Kept B.Way w w8)
      case first=>
       clear S1 S2 S3 S4 S5
       go_region
       all_goals
        go_wp2_with fail
        go_meet
        obtain ⟨a1,a2,a3⟩:=HH.out
        exact ⟨a1.kept (S:=fun _=>False) ((Kept.refl _ _).drew) (fun _ _ f=>f),a2.kept (S:=fun _=>False) ((Kept.refl _ _).drew) (fun _ _ f=>f),a3.drew⟩
      case rest=>
       obtain ⟨hJ8,hR8,hK8⟩:=hcut
       clear HH c0 c1 c2 c3 c4 ce1 ce2 q0 q1 q2 q3 q4 hg4
       obtain ⟨p,hp⟩:∃ p,ld (x:Int)=p:=⟨_,rfl⟩
       obtain ⟨q,hq⟩:∃ q,ld (o:Int)=q:=⟨_,rfl⟩
       rw [hp,hq] at S1 S2 S3 S4 S5 ⊢
       rw [hp] at hpx hlx
       rw [hq] at hpo hlo
       clear hp hq
       by_cases h1:p=q
       ·have hN:=S1 h1
        clear S1 S2 S3 S4 S5
        go_wp2_with fail
        go_roundg k'
        case measure=>omega
        case rel=>exact ⟨ld,_,_,rfl,by omega,hN,hJ8,hR8,hK8⟩
       ·by_cases h2:p<0
        ·have hN:=S2 h1 h2
         obtain ⟨v,rfl⟩:∃ v:Nat,p = -(v:Int):=⟨(-p).toNat,by omega⟩
         obtain ⟨hJ9,hK9⟩:=hJ8.join hpx hpo hlx hlo h1
         rw [nxA_var B (by omega)] at hJ9 hK9
         have hR9:=hR8.kept hK9 (fun k hk f=>by have:=hfoot k (JB.way_foot f);omega)
         have hK10:=hK8.trans hK9 (fun _ _ f=>f)
         obtain ⟨nx,ρ,hC, -⟩:=hJ8
         have i5:(0:Int)≤(v:Int):=by omega
         have i6:(v:Int)<199:=by have:=hpx.1;omega
         obtain ⟨e1,e2⟩:=hC.head.var (v:=v) (by omega) (by omega)
         clear S1 S2 S3 S4 S5 hC hR8 hK8
         go_wp2_with fail
         go_roundg k'
         case measure=>omega
         case rel=>exact ⟨_,_,_,rfl,by omega,hN,hJ9,hR9,hK10⟩
        ·by_cases h3:q<0
         ·have hN:=S3 h1 h2 h3
          obtain ⟨v,rfl⟩:∃ v:Nat,q = -(v:Int):=⟨(-q).toNat,by omega⟩
          obtain ⟨hJ9,hK9⟩:=hJ8.join hpo hpx hlo hlx (fun e=>h1 e.symm)
          rw [nxA_var B (by omega)] at hJ9 hK9
          have hR9:=hR8.kept hK9 (fun k hk f=>by have:=hfoot k (JB.way_foot f);omega)
          have hK10:=hK8.trans hK9 (fun _ _ f=>f)
          obtain ⟨nx,ρ,hC, -⟩:=hJ8
          have i5:(0:Int)≤(v:Int):=by omega
          have i6:(v:Int)<199:=by have:=hpo.1;omega
          obtain ⟨e1,e2⟩:=hC.head.var (v:=v) (by omega) (by omega)
          clear S1 S2 S3 S4 S5 hC hR8 hK8
          go_wp2_with fail
          go_roundg k'
          case measure=>omega
          case rel=>exact ⟨_,_,_,rfl,by omega,hN,hJ9,hR9,hK10⟩
         ·obtain ⟨p,rfl⟩:∃ v:Nat,p=(v:Int):=⟨p.toNat,by omega⟩
          obtain ⟨q,rfl⟩:∃ v:Nat,q=(v:Int):=⟨q.toNat,by omega⟩
          have hpl:p<J.length:=by have:=hpx.2;omega
          have hql:q<J.length:=by have:=hpo.2;omega
          obtain ⟨hJ9,hK9⟩:=hJ8.join hpx hpo hlx hlo h1
          rw [nxA_nat B p] at hJ9 hK9
          obtain ⟨nx,ρ,hC, -⟩:=hJ8
          obtain ⟨c0,c1,c2,c3,c4⟩:=hC.head.cells
          have cp:=(hC.list.cell hpl).1
          have cq:=(hC.list.cell hql).1
          have cs:=hC.same.cell hpl
          have i5:(0:Int)≤(p:Int):=by omega
          have i6:(p:Int)<(J.length:Int):=by omega
          have i7:(0:Int)≤(q:Int):=by omega
          have i8:(q:Int)<(J.length:Int):=by omega
          obtain ⟨cs1,cs2⟩:=cs
          by_cases h4:at' J (p:Int)=at' J (q:Int)
          ·have hN:=S5 h1 h2 h3 h4
           have hR9:=hR8.kept hK9 (fun k hk f=>by have:=hfoot k (JB.way_foot f);omega)
           have hK10:=hK8.trans hK9 (fun _ _ f=>f)
           have h4' : (at' J (p:Int) == at' J (q:Int))=true:=by simpa using h4
           clear S1 S2 S3 S4 S5 hC hR8 hK8 hK9
           go_upto_region 14 with fail
           go_quiet (fail)
           have hX:Hid (JAt L B ((wc.drewN nq).setCell ⟨B.sb,p,none⟩ (.int .i64 (q:Int))) J (un (p:Int) (q:Int) ld) sz∧RRow w.heap.size ((wc.drewN nq).setCell ⟨B.sb,p,none⟩ (.int .i64 (q:Int))) (.slice (some ⟨g,0,none⟩) (rs.length+1) cap) ((endN L J x,y,endN L J o) :: rs)∧Kept B.Way w ((wc.drewN nq).setCell ⟨B.sb,p,none⟩ (.int .i64 (q:Int)))):=by
            have k0:Same0 (wc.setCell ⟨B.sb,p,none⟩ (.int .i64 (q:Int))) ((wc.drewN nq).setCell ⟨B.sb,p,none⟩ (.int .i64 (q:Int))):=(Kept.refl _ (wc.setCell ⟨B.sb,p,none⟩ (.int .i64 (q:Int)))).drewN nq
            exact ⟨hJ9.kept k0 (fun _ _ f=>f),hR9.kept k0 (fun _ _ f=>f),hK10.trans k0 (fun _ _ f=>f.elim)⟩
           clear hJ9 hR9 hK10
           go_upto_region 8 with fail
           obtain ⟨w9,hw9⟩:∃ w9,(wc.drewN nq).setCell ⟨B.sb,p,none⟩ (.int .i64 (q:Int))=w9:=⟨_,rfl⟩
           rw [hw9] at hX ⊢
           clear hw9 c0 c1 c2 c3 c4 cp cq cs1 cs2 h4 h4'
           obtain ⟨i0,hi0,hz0,hz1,hz2⟩:=info_parts info_run
           have PE:Hid (∀ gg cap' w10,w10.ownsRow w.heap.size 361 3 (.slice (some ⟨gg,0,none⟩) (rs.length+1+1) cap') (rs.length+1+1) (runCells ((endN L J x,y,endN L J o) :: rs).reverse ++ [.int .i64 ((p:Int)+1),.int .i64 (endN L J p:Int),.int .i64 ((q:Int)+1)])→(w9.alloc (.cells #[.int .i64 ((p:Int)+1),.int .i64 (endN L J p:Int),.int .i64 ((q:Int)+1)] 361)).grownBy w10 (some g)→URel L B J sz res w k' w10 (.slice (some ⟨gg,0,none⟩) (rs.length+1+1) cap') (un (p:Int) (q:Int) ld) ((p+1,endN L J p,q+1) :: (endN L J x,y,endN L J o) :: rs)):=by
            intro gg cap' w10 hown hgrow
            obtain ⟨a1,a2,a3⟩:=hX.out
            have kg:Kept (fun k=>k=g) w9 w10:=Kept.grown (Kept.alloc (Kept.refl _ w9) _) hgrow (fun k e _=>by simpa using e.symm)
            refine ⟨by simpa using hN,a1.kept kg (fun k hk e=>by have:=hfoot k hk;omega),?_,a3.trans kg (fun k hk e=>by omega)⟩
            unfold RRow
            rw [runCells_top]
            simpa using hown
           obtain ⟨a1,a2, -⟩:=hX.out
           have hrow:w9.ownsRow w.heap.size 361 3 (.slice (some ⟨g,0,none⟩) (rs.length+1) cap) (rs.length+1) (runCells ((endN L J x,y,endN L J o) :: rs).reverse):=a2
           obtain ⟨nx,ρ,hC, -⟩:=a1
           obtain ⟨c0,c1,c2,c3,c4⟩:=hC.head.cells
           have ce:=(hC.ends.cell hpl).1
           have hn1:rs.length+1+1≤maxLen:=by unfold maxLen;omega
           have hn2:(rs.length+1+1) * 24≤140737488355328:=by omega
           have hb9:w.heap.size≤(w9.alloc (.cells #[.int .i64 ((p:Int)+1),.int .i64 (endN L J p:Int),.int .i64 ((q:Int)+1)] 361)).heap.size:=by
            have:=a2.top
            obtain ⟨g', cap', hv,hb1,hlt1, -⟩:=this
            simp;omega
           have i9:(p:Int)<4000:=by omega
           have i10:(q:Int)<4000:=by omega
           clear hX hC a2
           go_wp2_with (first | (at_builtin;refine wpList_append_lies _ rfl _ _ 362 rfl w.heap.size 361 i0 _ 3 24 Tryz.underlying362 hi0 hz0 hz1 hz2 rfl (by omega) (.slice (some ⟨g,0,none⟩) (rs.length+1) cap) (rs.length+1) (runCells ((endN L J x,y,endN L J o) :: rs).reverse) rfl (hrow.alloc _) ⟨w9.heap.size,0,none⟩ 1 1 [.int .i64 ((p:Int)+1),.int .i64 (endN L J p:Int),.int .i64 ((q:Int)+1)] rfl rfl (World.news_of_block (cs:=#[.int .i64 ((p:Int)+1),.int .i64 (endN L J p:Int),.int .i64 ((q:Int)+1)]) (t:=361) (fr:=(0,0)) (heap_alloc_new w9 _)) (by simp [Value.oneCell']) (by omega) hn1 hn2 hb9 (w9.heap.size+1) (by simp) ?_;intro gg cap' w10 hown hgrow hat hlt;have hP:=PE.out gg cap' w10 hown hgrow))
           go_roundg k'
           case measure=>omega
           case rel=>exact ⟨_,_,hP⟩
          ·have hN:=S4 h1 h2 h3 h4
           have fin:Hid (∀ n,UEnd L B J sz res w (.returned (.bool false)) (wc.drewN n)):=fun n=>⟨fun ld' e=>(by rw [hN] at e;cases e),fun _=>rfl,hK8.drewN n⟩
           clear S1 S2 S3 S4 S5 hC hR8 hK8 hJ9 hK9 hN
           go_upto_region 14 with fail
           go_quiet (fail)
           go_wp2_with fail
           go_returns
           exact fin.out _
    ·have hxi:¬ (x:Int)<(y:Int):=by omega
     obtain ⟨k', hk', hU'⟩:=hU.u.pop hxy
     have hP:URel L B J sz res w k' wr (.slice (some ⟨g,0,none⟩) rs.length cap) ld rs:=⟨hU', hU.j,hU.row.less,hU.kept⟩
     have j3:(rs.length:Int)≤(cap:Int):=by omega
     have hP' : Hid (∀ n,URel L B J sz res w k' (wr.drewN n) (.slice (some ⟨g,0,none⟩) rs.length cap) ld rs):=fun n=>hP.drewN n
     clear hU hU' hP
     go_wp2_with fail
     go_quiet (fail)
     go_wp2_with fail
     go_roundg k'
     case measure=>omega
     case rel=>exact ⟨ld,rs,hP'.out _⟩
def JB.Mem (B:JB) (k:Nat):Prop:=k=B.jb∨k=B.sb∨k=B.zb
theorem JB.way_mem {B:JB} {k:Nat} (h:B.Way k):B.Mem k:=by
 rcases h with e | e
 ·exact .inl e
 ·exact .inr (.inl e)
theorem JAt.setSize {L:List Sym} {w:World} {B:JB} {J:List Int} {ld:Int→Int} {sz:Nat→Int} (h:JAt L B w J ld sz) (p:Nat) (v:Int):JAt L B (w.setCell ⟨B.zb,p,none⟩ (.int .i64 v)) J ld (updN sz p v)∧Kept B.Mem w (w.setCell ⟨B.zb,p,none⟩ (.int .i64 v)):=by
 obtain ⟨nx,ρ,h1,h2⟩:=h
 have hk:Kept (fun k=>k=B.zb) w (w.setCell ⟨B.zb,p,none⟩ (.int .i64 v)):=Kept.setCell (S:=fun k=>k=B.zb) (p:=⟨B.zb,p,none⟩) (Kept.refl _ _) (fun _=>rfl) _
 have ap:=h1.ap
 exact ⟨⟨nx,ρ,⟨h1.head.kept hk ap.a4,h1.list.kept hk (fun e=>ap.a8 e.symm),h1.ends.kept hk (fun e=>ap.a9 e.symm),h1.same.kept hk ap.a7,h1.sizes.set p v,ap⟩,h2⟩,hk.mono (fun _ _ e=>.inr (.inr e))⟩
def SizPost (L:List Sym) (B:JB) (J:List Int) (ld:Int→Int) (w:World) (k:Int) (sz' : Nat→Int) (e:Ending) (w' : World):Prop:=e=.returned (.int .i64 k)∧JAt L B w' J ld sz' ∧ Kept B.Mem w w'
set_option maxHeartbeats 4000000 in
theorem usize_any {L:List Sym} {B:JB} {J:List Int} {ld:Int→Int} (hT:Trs L J) (hl:LdOk J ld) (hJ:J.length≤4000):∀ (n:Nat) (w:World) (sz:Nat→Int) (x k:Int) (sz' : Nat→Int),JAt L B w J ld sz→UPart J x→SzOk sz→sizF L J ld n sz x=some (k,sz') →
  Calls Tryz.prog 237 #[.pointer (some ⟨B.jb,0,none⟩),.int .i64 x] w (SizPost L B J ld w k sz'):=by
 intro n
 induction n with
 | zero=>intro w sz x k sz' _ _ _ e;simp [sizF] at e
 | succ n ih=>
  intro w sz x k sz' h hx hs e
  have cL:=leader_any h hx
  have hpx:=hl.part x hx
  have hsy:=hl.sym x hx
  rw [sizF] at e
  obtain ⟨p,hp⟩:∃ p,ld x=p:=⟨_,rfl⟩
  rw [hp] at e cL hpx hsy
  by_cases h1:p<0
  ·rw [if_pos h1] at e
   simp only [Option.some.injEq,Prod.mk.injEq] at e
   obtain ⟨rfl,rfl⟩:=e
   clear ih h
   go_enter Tryz.func237,Tryz.ntmps237
   go_wp2_with (first | (go_at_call 238;refine cL.mono ?_;rintro e w1 ⟨rfl,hj1,hk1⟩))
   go_returns
   exact ⟨rfl,hj1,hk1.mono (fun _ _ f=>JB.way_mem f)⟩
  ·rw [if_neg h1] at e
   obtain ⟨p,rfl⟩:∃ v:Nat,p=(v:Int):=⟨p.toNat,by omega⟩
   rw [Int.toNat_natCast] at e
   have hpl:p<J.length:=by have:=hpx.2;omega
   have i1:(0:Int)≤(p:Int):=by omega
   have i2:(p:Int)<(J.length:Int):=by omega
   by_cases h2:sz p≠0
   ·rw [if_pos h2] at e
    simp only [Option.some.injEq,Prod.mk.injEq] at e
    obtain ⟨rfl,rfl⟩:=e
    have CC:Hid (∀ w1,JAt L B w1 J ld sz→w1.cell? ⟨B.jb,202,none⟩=some (.slice (some ⟨B.zb,0,none⟩) J.length J.length)∧w1.cell? ⟨B.zb,p,none⟩=some (.int .i64 (sz p))):=by
     rintro w1 ⟨nx,ρ,hC, -⟩
     exact ⟨hC.head.cells.2.2.2.1,(hC.sizes.cell hpl).1⟩
    obtain ⟨v,hv⟩:∃ v,sz p=v:=⟨_,rfl⟩
    rw [hv] at CC h2 ⊢
    clear ih h
    go_enter Tryz.func237,Tryz.ntmps237
    go_wp2_with (first | (go_at_call 238;refine cL.mono ?_;rintro e w1 ⟨rfl,hj1,hk1⟩;obtain ⟨g1,g2⟩:=CC.out w1 hj1))
    go_returns
    exact ⟨rfl,hj1,hk1.mono (fun _ _ f=>JB.way_mem f)⟩
   ·rw [if_neg h2] at e
    have h0:sz p=0:=by simpa using h2
    cases h3:sizA (sizF L J ld n) (kidsL L J p) 1 (updN sz p (-1)) with
    | none=>simp [h3] at e
    | some v=>
     obtain ⟨s,sz1⟩:=v
     simp only [h3] at e
     have hF:=kids_forest hT hpl
     have CC:Hid (∀ w1,JAt L B w1 J ld sz→w1.cell? ⟨B.jb,202,none⟩=some (.slice (some ⟨B.zb,0,none⟩) J.length J.length)∧w1.cell? ⟨B.zb,p,none⟩=some (.int .i64 0)∧w1.frozen? ⟨B.zb,p,none⟩=false):=by
      rintro w1 ⟨nx,ρ,hC, -⟩
      have:=hC.sizes.cell hpl
      rw [h0] at this
      exact ⟨hC.head.cells.2.2.2.1,this.1,this.2⟩
     have HE:Hid ((if s = -1 then some (-1,sz1) else some (s,updN sz1 p s))=some (k,sz')):=e
     have H3:Hid (sizA (sizF L J ld n) (starts L J (arN L (at' J p)) (p+1)) 1 (updN sz p (-1))=some (s,sz1)):=h3
     have hs2:SzOk (updN sz p (-1)):=hs.upd _ (.inl rfl)
     have IH:Hid (∀ (w:World) (sz:Nat→Int) (x k:Int) (sz' : Nat→Int),JAt L B w J ld sz→UPart J x→SzOk sz→sizF L J ld n sz x=some (k,sz')→Calls Tryz.prog 237 #[.pointer (some ⟨B.jb,0,none⟩),.int .i64 x] w (SizPost L B J ld w k sz')):=ih
     clear ih h e h3 h2
     have i3:(p:Int)<4000:=by omega
     go_enter Tryz.func237,Tryz.ntmps237
     go_upto_region 7 with (first | (go_at_call 238;refine cL.mono ?_;rintro e w1 ⟨rfl,hj1,hk1⟩;obtain ⟨g1,g2,g3⟩:=CC.out w1 hj1))
     obtain ⟨hj2,hk2⟩:=hj1.setSize p (-1)
     obtain ⟨w2,hw2⟩:∃ w2,w1.setCell ⟨B.zb,p,none⟩ (.int .i64 (-1))=w2:=⟨_,rfl⟩
     rw [hw2] at hj2 hk2 ⊢
     have hK2:Kept B.Mem w w2:=(hk1.mono (fun _ _ f=>JB.way_mem f)).trans hk2 (fun _ _ f=>f)
     clear hw2 hk1 hk2 hj1 CC cL g1 g2 g3
     go_wp2_with fail
     go_loopg [6,7] (arN L (at' J p)) (fun c s6 s7 wr=>∃ (sum:Int) (t:Nat) (sq:Nat→Int),s6=.int .i64 sum∧s7=.int .i64 (t:Int)∧1≤sum∧sum≤2001∧Forest L J c t (endN L J p)∧SzOk sq∧JAt L B wr J ld sq∧Kept B.Mem w wr∧Hid (sizA (sizF L J ld n) (starts L J c t) sum sq=some (s,sz1)))
     case atStart=>exact ⟨1,p+1,_,rfl,by go_num,by omega,by omega,hF,hs2,hj2,hK2,H3⟩
     case round=>
      clear hj2 hK2 H3 hs2 hF
      obtain ⟨sum,t,sq,rfl,rfl,hs1,hs2,hF,hsq,hj,hK,HS⟩:=hrel
      obtain ⟨nx,ρ,hC, -⟩:=id hj
      obtain ⟨c0,c1,c2,c3,c4⟩:=hC.head.cells
      have ce:=(hC.ends.cell hpl).1
      cases gk with
      | zero=>
       have ht:=hF.zero
       have i4:¬ (t:Int)<(endN L J p:Int):=by omega
       have hss:sum=s∧sq=sz1:=by
        have:=HS.out
        simpa [starts,sizA] using this
       obtain ⟨rfl,rfl⟩:=hss
       have hne:¬ sum = -1:=by omega
       have:=HE.out
       rw [if_neg hne] at this
       simp only [Option.some.injEq,Prod.mk.injEq] at this
       obtain ⟨rfl,rfl⟩:=this
       obtain ⟨z1,z2⟩:=hC.sizes.cell hpl
       obtain ⟨y1,y2⟩:=hj.setSize p sum
       have fin:SizPost L B J ld w sum (updN sq p sum) (.returned (.int .i64 sum)) (wr.setCell ⟨B.zb,p,none⟩ (.int .i64 sum)):=⟨rfl,y1,hK.trans y2 (fun _ _ f=>f)⟩
       clear hC hj HS HE hF y1 y2 hK ht
       go_wp2_with fail
       go_returns
       exact fin
      | succ c=>
       have hpos:=hF.pos
       obtain ⟨f1,f2,f3⟩:=hF.succ
       have hle:=hF.le
       have htl:t<J.length:=by omega
       have i4:(t:Int)<(endN L J p:Int):=by omega
       have i5:(0:Int)≤(t:Int):=by omega
       have i6:(t:Int)<(J.length:Int):=by omega
       have ct:=(hC.ends.cell htl).1
       have hst:=HS.out
       rw [starts,sizA] at hst
       cases hq:sizF L J ld n sq (t:Int) with
       | none=>simp [hq] at hst
       | some v=>
        obtain ⟨k1,sq1⟩:=v
        simp only [hq] at hst
        have cS:=IH.out wr sq t k1 sq1 hj (part_nat htl) hsq hq
        obtain ⟨o1,o2⟩:=sizF_ok n _ _ _ _ hsq hq
        have HST:Hid ((if k1 = -1 then some (-1,sq1) else sizA (sizF L J ld n) (starts L J c (endN L J t)) (min (sum+k1) 2001) sq1)=some (s,sz1)):=hst
        have CE:Hid (∀ w1,JAt L B w1 J ld sq1→w1.cell? ⟨B.jb,1,none⟩=some (.slice (some ⟨B.eb,0,none⟩) J.length J.length)∧w1.cell? ⟨B.eb,t,none⟩=some (.int .i64 (endN L J t:Int))):=by
         rintro w1 ⟨nx,ρ,hC, -⟩
         exact ⟨hC.head.cells.2.1,(hC.ends.cell htl).1⟩
        clear hst hC hj HS hq hsq
        by_cases hk1:k1 = -1
        ·subst hk1
         have:=HST.out
         rw [if_pos rfl] at this
         simp only [Option.some.injEq,Prod.mk.injEq] at this
         obtain ⟨rfl,rfl⟩:=this
         have:=HE.out
         rw [if_pos rfl] at this
         simp only [Option.some.injEq,Prod.mk.injEq] at this
         obtain ⟨rfl,rfl⟩:=this
         clear HE HST IH
         go_wp2_with (first | (go_at_call 237;refine cS.mono ?_;rintro e w3 ⟨rfl,hj3,hk3⟩))
         go_returns
         exact ⟨rfl,hj3,hK.trans hk3 (fun _ _ f=>f)⟩
        ·have:=HST.out
         rw [if_neg hk1] at this
         have HST2:Hid (sizA (sizF L J ld n) (starts L J c (endN L J t)) (min (sum+k1) 2001) sq1=some (s,sz1)):=this
         have i7:1≤k1:=by omega
         have i8:k1≤2001:=by omega
         clear HST this o2
         go_upto_region 14 with (first | (go_at_call 237;refine cS.mono ?_;rintro e w3 ⟨rfl,hj3,hk3⟩;obtain ⟨g1,g2⟩:=CE.out w3 hj3))
         have hK3:=hK.trans hk3 (fun _ _ f=>f)
         clear HE IH hk3 hK cS CE
         by_cases hm:sum+k1≤2001
         ·rw [show min (sum+k1) 2001=sum+k1 by omega] at HST2
          go_wp2_with fail
          go_roundg c
          case measure=>omega
          case rel=>exact ⟨_,_,_,by go_num,rfl,by omega,by omega,f3,o1,hj3,hK3,HST2⟩
         ·rw [show min (sum+k1) 2001=2001 by omega] at HST2
          have hm' : 2001<sum+k1:=by omega
          go_wp2_with fail
          go_roundg c
          case measure=>omega
          case rel=>exact ⟨_,_,_,by go_num,rfl,by omega,by omega,f3,o1,hj3,hK3,HST2⟩
theorem led_zero {J:List Int} (hv:∀ x∈J, -198≤x):Led J (ld0 J) (ld0 J) (fun x=>if 0≤x then 1 else 0):=by
 have hl:=ld0_ok hv
 refine ⟨hl.part,hl.idem,fun x _=>Iff.rfl,fun x hx hn=>?_⟩
 by_cases h:0≤x∧at' J x<0
 ·have e:ld0 J x=at' J x:=by unfold ld0;rw [if_pos h]
  simp only [e]
  rw [if_neg (by omega),if_pos h.1];omega
 ·exact absurd (by unfold ld0;rw [if_neg h]) hn
theorem JJ.jat {L:List Sym} {w0 w:World} {B:JB} {J:List Int} (hv:∀ x∈J, -198≤x) (h:JJ w0 B w J J.length (fun x=>x) (fun i=>(endN L J i:Int)) (fun i=>ld0 J i)):JAt L B w J (ld0 J) (fun _=>0):=by
 refine ⟨ld0 J,_,⟨?_,?_,h.ends,h.same,h.sizes,h.ap⟩,led_zero hv⟩
 ·refine h.head.congr (fun v h1 h2=>?_)
  unfold ld0;rw [if_neg (by omega)]
 ·have hr:=h.row
  rcases hr.2 with ⟨e,_⟩ | ⟨g,cap,cur,hv', hb,hg,h1,h2,h3,h4⟩
  ·cases e
  ·simp only [Value.slice.injEq,Option.some.injEq,Addr.mk.injEq,and_true,true_and] at hv'
   obtain ⟨rfl,rfl⟩:=hv'
   refine ⟨cur,_,hg,by omega,fun i hi=>?_⟩
   have:=hr.cellAt i (by omega)
   rw [cellAt hg,iv_get hi] at this
   show cur[i]? = some (.int .i64 (at' J (i:Int)))
   rw [this,at'_nat J i hi]
theorem jl_vars {L:List Sym} {a b:List Int} (ha:checkE L a=0) (hb:checkE L b=0) {ap:Nat} (hap:ap≤99):∀ x∈jl a b ap, -198≤x:=by
 intro x hx
 unfold jl at hx
 rcases List.mem_append.1 hx with e | e
 ·have:=(badE_zero.1 (checkE_zero.1 ha).2.1 x e).2;omega
 ·obtain ⟨y,hy,rfl⟩:=List.mem_map.1 e
  have:=(badE_zero.1 (checkE_zero.1 hb).2.1 y hy).2
  unfold shF;split <;> omega
def SolPost (L:List Sym) (a b:List Int) (ap:Nat) (w:World) (e:Ending) (w' : World):Prop:=Same0 w w' ∧
 (checkE L a≠0→e=.returned (.tuple #[.pointer none,.int .i64 0,.int .i64 (checkE L a)])) ∧
 (checkE L a=0→checkE L b≠0→e=.returned (.tuple #[.pointer none,.int .i64 0,.int .i64 (checkE L b)])) ∧
 (checkE L a=0→checkE L b=0→solF L (jl a b ap) a.length=none→e=.returned (.tuple #[.pointer none,.int .i64 0,.int .i64 60])) ∧
 (checkE L a=0→checkE L b=0→∀ ld k,solF L (jl a b ap) a.length=some (ld,k)→∃ B sz', e=.returned (.tuple #[.pointer (some ⟨B.jb,0,none⟩),.int .i64 k,.int .i64 0])∧JAt L B w' (jl a b ap) ld sz' ∧ LdOk (jl a b ap) ld∧(∀ f,B.Foot f→w.heap.size≤f∧f<w'.heap.size)∧∃ u,Val L (jl a b ap) ld 0 u∧k=min (u.length:Int) 2001)
set_option maxHeartbeats 4000000 in
theorem solve_any {b:Nat} {w:World} {L:List Sym} (h:Sg w.heap.size w b L) {xo yo:Option Addr} {xc yc:Nat} {x y:List Int} (hx:IntsAt w xo x) (hy:IntsAt w yo y) (hxm:x.length≤maxLen) (hym:y.length≤maxLen) {ap:Nat} (hap:ap≤99) :
  Calls Tryz.prog 230 #[.pointer (some ⟨b,0,none⟩),.slice xo x.length xc,.slice yo y.length yc,.int .i64 (ap:Int)] w (SolPost L x y ap w):=by
 have c1:=check_any (cap:=xc) h hx hxm
 have c2:Hid (∀ w1,Same0 w w1→Calls Tryz.prog 104 #[.pointer (some ⟨b,0,none⟩),.slice yo y.length yc] w1 fun e w' => e=.returned (.int .i64 (checkE L y))∧Same0 w1 w'):=fun w1 hk=>check_any (cap:=yc) (h.same hk) (hy.same hk) hym
 by_cases hz:checkE L x=0
 ·by_cases hq:checkE L y=0
  ·obtain ⟨x1,x2,x3⟩:=checkE_zero.1 hz
   obtain ⟨y1,y2,y3⟩:=checkE_zero.1 hq
   obtain ⟨J,hJ⟩:∃ J,jl x y ap=J:=⟨_,rfl⟩
   have hJl:J.length=x.length+y.length:=by rw [← hJ];simp [jl]
   have hv:=jl_vars hz hq hap
   have hT:=trs_jl (apart:=(ap:Int)) (by omega) x3 y3
   rw [hJ] at hv hT
   have p1:=isT_pos x3
   have p2:=isT_pos y3
   obtain ⟨res,hU,hR1,hR2⟩:=(sol_any hT hv (m:=x.length) (by omega) (by omega)).uni
   have CJ:Hid (∀ w1,Same0 w w1→Calls Tryz.prog 235 #[.pointer (some ⟨b,0,none⟩),.slice xo x.length xc,.slice yo y.length yc,.int .i64 (ap:Int)] w1 fun e w' => ∃ B,e=.returned (.pointer (some ⟨B.jb,0,none⟩))∧JAt L B w' J (ld0 J) (fun _=>0)∧(∀ f,B.Foot f→w.heap.size≤f)∧Same0 w w'):=by
    intro w1 hk
    have hg:Sg w1.heap.size w1 b L:=by
     have:=h.same hk
     obtain ⟨⟨sv,mr,s1,s2⟩,s3⟩:=this
     exact ⟨⟨sv,mr,s1,fun k hk' => Nat.lt_of_lt_of_le (s2 k hk') hk.size⟩,s3⟩
    refine (ujoin_any hg (hx.same hk) (hy.same hk) x3 y3 x1 y1 (fun z hz=>(badE_zero.1 y2 z hz).2) hap).mono ?_
    rintro e w' ⟨B,rfl,hj⟩
    rw [hJ] at hj
    exact ⟨B,rfl,hj.jat hv,fun f hf=>Nat.le_trans hk.size (hj.new f hf),hk.trans' hj.kept⟩
   have CU:Hid (∀ B w1,JAt L B w1 J (ld0 J) (fun _=>0)→Calls Tryz.prog 236 #[.pointer (some ⟨B.jb,0,none⟩),.int .i64 0,.int .i64 (x.length:Int)] w1 (UEnd L B J (fun _=>0) res w1)):=by
    intro B w1 hj
    exact unite_any (a:=0) hj (by omega) (by omega) (by omega) hU
   rw [hz] at c1
   rw [hq] at c2
   cases res with
   | none=>
    have HX:Hid (∀ w', Same0 w w' → SolPost L x y ap w (.returned (.tuple #[.pointer none,.int .i64 0,.int .i64 60])) w'):=by
     intro w' hk
     refine ⟨hk,fun f=>absurd hz f,fun _ f=>absurd hq f,fun _ _ _=>rfl,fun _ _ ld k f=>?_⟩
     rw [hJ,hR1 rfl] at f;cases f
    clear hU hR1 hR2 hz hq hx hy h hJ
    go_enter Tryz.func230,Tryz.ntmps230
    go_upto_region 4 with (first | (go_at_call 104;refine c1.mono ?_;rintro e w1 ⟨rfl,hk1⟩))
    go_upto_region 7 with (first | (go_at_call 104;refine (c2.out _ hk1).mono ?_;rintro e w2 ⟨rfl,hk2⟩))
    have K2:=hk1.trans' hk2
    go_wp2_with (first | (go_at_call 235;refine (CJ.out _ K2).mono ?_;rintro e w3 ⟨B,rfl,hj3,hf3,hk3⟩) | (go_at_call 236;refine (CU.out _ _ hj3).mono ?_;rintro e w4 ⟨-,he4,hk4⟩;obtain rfl:=he4 rfl;clear he4))
    have K4:Same0 w w4:=hk3.trans hk4 (fun i hi f=>by have:=hf3 i (JB.way_foot f);omega)
    exact bodyPost_ret (v:=.tuple #[.pointer none,.int .i64 0,.int .i64 60]) (by simp [results,Tryz.results230,go_sem]) rfl (HX.out _ K4)
   | some ld=>
    obtain ⟨hld,k,sz', hs,hk1,hk2⟩:=hR2 ld rfl
    have CS:Hid (∀ B w1,JAt L B w1 J ld (fun _=>0)→Calls Tryz.prog 237 #[.pointer (some ⟨B.jb,0,none⟩),.int .i64 0] w1 (SizPost L B J ld w1 k sz')):=fun B w1 hj=>usize_any hT hld (by omega) _ w1 _ 0 k sz' hj (part_nat (p:=0) (by omega)) (fun p=>.inr ⟨by simp,by simp⟩) hs
    have HX:Hid (∀ B w', JAt L B w' J ld sz' → (∀ f,B.Foot f→w.heap.size≤f)→Same0 w w' → (k = -1→SolPost L x y ap w (.returned (.tuple #[.pointer none,.int .i64 0,.int .i64 60])) w')∧(k ≠ -1→SolPost L x y ap w (.returned (.tuple #[.pointer (some ⟨B.jb,0,none⟩),.int .i64 k,.int .i64 0])) w')):=by
     intro B w' hj hf hk
     have hfl:∀ f,B.Foot f→f<w'.heap.size:=by
      obtain ⟨nx,ρ,hC, -⟩:=id hj
      exact fun f hf=>hC.lt hf
     refine ⟨fun e=>?_,fun e=>?_⟩
     ·refine ⟨hk,fun f=>absurd hz f,fun _ f=>absurd hq f,fun _ _ _=>rfl,fun _ _ ld k f=>?_⟩
      rw [hJ,hk1 e] at f;cases f
     ·obtain ⟨e1,u,e2,e3⟩:=hk2 e
      refine ⟨hk,fun f=>absurd hz f,fun _ f=>absurd hq f,fun _ _ f=>?_,fun _ _ ld' k' f=>?_⟩
      ·rw [hJ,e1] at f;cases f
      ·rw [hJ] at f ⊢
       rw [e1] at f
       simp only [Option.some.injEq,Prod.mk.injEq] at f
       obtain ⟨rfl,rfl⟩:=f
       exact ⟨B,sz', rfl,hj,hld,fun f hf' => ⟨hf f hf', hfl f hf'⟩,u,e2,e3⟩
    clear hU hR1 hR2 hz hq hx hy h hJ hk1 hk2 hs
    go_enter Tryz.func230,Tryz.ntmps230
    go_upto_region 4 with (first | (go_at_call 104;refine c1.mono ?_;rintro e w1 ⟨rfl,hk1⟩))
    go_upto_region 7 with (first | (go_at_call 104;refine (c2.out _ hk1).mono ?_;rintro e w2 ⟨rfl,hk2⟩))
    have K2:=hk1.trans' hk2
    go_upto_region 10 with (first | (go_at_call 235;refine (CJ.out _ K2).mono ?_;rintro e w3 ⟨B,rfl,hj3,hf3,hk3⟩) | (go_at_call 236;refine (CU.out _ _ hj3).mono ?_;rintro e w4 ⟨he4, -,hk4⟩;obtain ⟨rfl,hj4⟩:=he4 ld rfl;clear he4))
    have K4:Same0 w w4:=hk3.trans hk4 (fun i hi f=>by have:=hf3 i (JB.way_foot f);omega)
    by_cases hk:k = -1
    ·subst hk
     go_wp2_with (first | (go_at_call 237;refine (CS.out _ _ hj4).mono ?_;rintro e w5 ⟨rfl,hj5,hk5⟩))
     have K5:Same0 w w5:=K4.trans hk5 (fun i hi f=>by
      have:=hf3 i (by rcases f with e | e | e;exact .inl e;exact .inr (.inr (.inr (.inl e)));exact .inr (.inr (.inr (.inr e))));omega)
     exact bodyPost_ret (v:=.tuple #[.pointer none,.int .i64 0,.int .i64 60]) (by simp [results,Tryz.results230,go_sem]) rfl ((HX.out B w5 hj5 hf3 K5).1 (by trivial))
    ·go_wp2_with (first | (go_at_call 237;refine (CS.out _ _ hj4).mono ?_;rintro e w5 ⟨rfl,hj5,hk5⟩))
     have K5:Same0 w w5:=K4.trans hk5 (fun i hi f=>by
      have:=hf3 i (by rcases f with e | e | e;exact .inl e;exact .inr (.inr (.inr (.inl e)));exact .inr (.inr (.inr (.inr e))));omega)
     exact bodyPost_ret (v:=.tuple #[.pointer (some ⟨B.jb,0,none⟩),.int .i64 k,.int .i64 0]) (by simp [results,Tryz.results230,go_sem]) rfl ((HX.out B w5 hj5 hf3 K5).2 hk)
  ·rw [hz] at c1
   have HX:Hid (∀ w', Same0 w w' → SolPost L x y ap w (.returned (.tuple #[.pointer none,.int .i64 0,.int .i64 (checkE L y)])) w'):=fun w' hk=>⟨hk,fun f=>absurd hz f,fun _ _=>rfl,fun _ f=>absurd f hq,fun _ f=>absurd f hq⟩
   have hq' : (checkE L y == 0)=false:=by simpa using hq
   clear hz hq
   go_enter Tryz.func230,Tryz.ntmps230
   go_upto_region 4 with (first | (go_at_call 104;refine c1.mono ?_;rintro e w1 ⟨rfl,hk1⟩))
   go_wp2_with (first | (go_at_call 104;refine (c2.out _ hk1).mono ?_;rintro e w2 ⟨rfl,hk2⟩))
   exact bodyPost_ret (v:=.tuple #[.pointer none,.int .i64 0,.int .i64 (checkE L y)]) (by simp [results,Tryz.results230,go_sem]) rfl (HX.out _ (hk1.trans' hk2))
 ·have HX:Hid (∀ w', Same0 w w' → SolPost L x y ap w (.returned (.tuple #[.pointer none,.int .i64 0,.int .i64 (checkE L x)])) w'):=fun w' hk=>⟨hk,fun _=>rfl,fun f=>absurd f hz,fun f=>absurd f hz,fun f=>absurd f hz⟩
  have hz' : (checkE L x == 0)=false:=by simpa using hz
  clear hz
  go_enter Tryz.func230,Tryz.ntmps230
  go_wp2_with (first | (go_at_call 104;refine c1.mono ?_;rintro e w1 ⟨rfl,hk1⟩))
  exact bodyPost_ret (v:=.tuple #[.pointer none,.int .i64 0,.int .i64 (checkE L x)]) (by simp [results,Tryz.results230,go_sem]) rfl (HX.out _ hk1)
structure ZWk (Z:Array Value):Prop where
 size:Z.size=202
 var:∀ v,1≤v→v<199→Z[2+v]? = some (.int .i64 0)
 last:Z[201]? = some (.int .i64 0)
 one:Z.all (·.oneCell')=true
theorem sg_up {n b:Nat} {w:World} {L:List Sym} (h:Sg n w b L) {m:Nat} (hn:n≤m):Sg m w b L:=by
 obtain ⟨⟨sv,mr,s1,s2⟩,s3⟩:=h
 exact ⟨⟨sv,mr,s1,fun k hk=>Nat.lt_of_lt_of_le (s2 k hk) hn⟩,s3⟩
def claE (L:List Sym) (a b:List Int):Int:=if checkE L a≠0 then checkE L a else checkE L b
def claB (L:List Sym) (a b:List Int):Bool:=decide (claE L a b=0) && (solF L (jl a b 99) a.length).isNone
theorem bad_ne (L:List Sym) (t:List Int):badE L t≠60:=by
 induction t with
 | nil=>simp [badE]
 | cons x r ih=>
  simp only [badE,ne_eq]
  split
  ·omega
  ·split
   ·omega
   ·exact ih
theorem check_ne (L:List Sym) (t:List Int):checkE L t≠60:=by
 have:=bad_ne L t
 unfold checkE
 split
 ·omega
 ·split
  ·exact this
  ·split <;> omega
theorem clash_any {b:Nat} {w:World} {L:List Sym} (h:Sg w.heap.size w b L) {xo yo:Option Addr} {xc yc:Nat} {x y:List Int} (hx:IntsAt w xo x) (hy:IntsAt w yo y) (hxm:x.length≤maxLen) (hym:y.length≤maxLen) :
  Calls Tryz.prog 216 #[.pointer (some ⟨b,0,none⟩),.slice xo x.length xc,.slice yo y.length yc] w fun e w' => e=.returned (.tuple #[.bool (claB L x y),.int .i64 (claE L x y)])∧Same0 w w' := by
 have c:=solve_any (xc:=xc) (yc:=yc) h hx hy hxm hym (ap:=99) (by omega)
 clear h hx hy
 by_cases hz:checkE L x=0
 ·by_cases hq:checkE L y=0
  ·have e0:claE L x y=0:=by simp [claE,hz,hq]
   cases hs:solF L (jl x y 99) x.length with
   | none=>
    have e1:claB L x y=true:=by simp [claB,e0,hs]
    rw [e0,e1]
    have c2:Calls Tryz.prog 230 #[.pointer (some ⟨b,0,none⟩),.slice xo x.length xc,.slice yo y.length yc,.int .i64 99] w fun e w' => e=.returned (.tuple #[.pointer none,.int .i64 0,.int .i64 60])∧Same0 w w' := c.mono (fun e w' g=>⟨g.2.2.2.1 hz hq hs,g.1⟩)
    clear c hz hq hs e0 e1
    go_enter Tryz.func216,Tryz.ntmps216
    go_wp2_with (first | (go_at_call 230;refine c2.mono ?_;rintro e w1 ⟨rfl,hk⟩))
    go_ret2
    exact ⟨rfl,hk⟩
   | some v=>
    obtain ⟨ld,k⟩:=v
    have e1:claB L x y=false:=by simp [claB,e0,hs]
    rw [e0,e1]
    have c2:Calls Tryz.prog 230 #[.pointer (some ⟨b,0,none⟩),.slice xo x.length xc,.slice yo y.length yc,.int .i64 99] w fun e w' => (∃ j,e=.returned (.tuple #[.pointer (some ⟨j,0,none⟩),.int .i64 k,.int .i64 0]))∧Same0 w w' := c.mono (fun e w' g=>by
     obtain ⟨B,sz', a1,_⟩:=g.2.2.2.2 hz hq ld k hs
     exact ⟨⟨_,a1⟩,g.1⟩)
    clear c hz hq hs e0 e1
    go_enter Tryz.func216,Tryz.ntmps216
    go_wp2_with (first | (go_at_call 230;refine c2.mono ?_;rintro e w1 ⟨⟨j,rfl⟩,hk⟩))
    go_ret2
    exact ⟨rfl,hk⟩
  ·have e0:claE L x y=checkE L y:=by simp [claE,hz]
   have e1:claB L x y=false:=by simp [claB,e0,hq]
   rw [e0,e1]
   have c2:Calls Tryz.prog 230 #[.pointer (some ⟨b,0,none⟩),.slice xo x.length xc,.slice yo y.length yc,.int .i64 99] w fun e w' => e=.returned (.tuple #[.pointer none,.int .i64 0,.int .i64 (checkE L y)])∧Same0 w w' := c.mono (fun e w' g=>⟨g.2.2.1 hz hq,g.1⟩)
   have hn:(checkE L y == 60)=false:=by simpa using check_ne L y
   clear c hz hq e0 e1
   go_enter Tryz.func216,Tryz.ntmps216
   go_wp2_with (first | (go_at_call 230;refine c2.mono ?_;rintro e w1 ⟨rfl,hk⟩))
   go_ret2
   exact ⟨rfl,hk⟩
 ·have e0:claE L x y=checkE L x:=by simp [claE,hz]
  have e1:claB L x y=false:=by simp [claB,e0,hz]
  rw [e0,e1]
  have c2:Calls Tryz.prog 230 #[.pointer (some ⟨b,0,none⟩),.slice xo x.length xc,.slice yo y.length yc,.int .i64 99] w fun e w' => e=.returned (.tuple #[.pointer none,.int .i64 0,.int .i64 (checkE L x)])∧Same0 w w' := c.mono (fun e w' g=>⟨g.2.1 hz,g.1⟩)
  have hn:(checkE L x == 60)=false:=by simpa using check_ne L x
  clear c hz e0 e1
  go_enter Tryz.func216,Tryz.ntmps216
  go_wp2_with (first | (go_at_call 230;refine c2.mono ?_;rintro e w1 ⟨rfl,hk⟩))
  go_ret2
  exact ⟨rfl,hk⟩
end Go.Proofs.YtmjgnfkbnofjoaaGreatDoor
namespace Go.Proofs.YtmjgnfkbnofjoaaGreatDoor
set_option linter.unusedVariables false
abbrev Ru:=List Int × List Int
def defB (L:List Sym) (n:Int):Bool:=if n<0 then false else match L[n.toNat]? with | some x=>x.df | none=>false
theorem defB_at {L:List Sym} {i:Nat} (h:i<L.length):defB L (i:Int)=L[i].df:=by
 rw [defB,if_neg (by omega)];simp [h]
theorem defB_no {L:List Sym} {n:Int} (h:n<0∨(L.length:Int)≤n):defB L n=false:=by
 unfold defB
 rcases h with h | h
 ·simp [h]
 ·rw [if_neg (by omega),List.getElem?_eq_none (by omega)]
def negN (t:List Int):Nat:=t.countP (fun n=>decide (n<0))
theorem negN_take {t:List Int} {k:Nat} (h:k<t.length):negN (t.take (k+1))=negN (t.take k)+if t[k]<0 then 1 else 0:=by
 unfold negN
 rw [List.take_add_one,List.getElem?_eq_getElem h,List.countP_append]
 simp [List.countP_cons]
theorem negN_le (t:List Int):negN t≤t.length:=List.countP_le_length
def freeB (l:List Int) (n:Int):Bool:=decide (n<0) && !decide (n∈l)
def meetB (L:List Sym) (a x:List Int):Bool:=!claB L a x && decide (claE L a x=0)
def askB (L:List Sym) (N:Nat) (A:List Ru) (x:Ru):Nat→Bool
 | 0=>decide (N≤100)
 | 1=>decide (checkE L x.1=0) && decide (checkE L x.2=0)
 | 2=>decide (x.1.length≤200) && decide (x.2.length≤200)
 | 3=>defB L (x.1.headD (-1))
 | 4=>decide (negN x.1=(varsL x.1).length)
 | 5=>x.1.tail.all (fun n=>!defB L n)
 | 6=>x.2.all (fun n=>!freeB x.1 n)
 | _=>A.all (fun a=>!meetB L a.1 x.1)
def ckB (L:List Sym) (own l:List Ru) (j n:Nat):Bool:=askB L (own.length+l.length) (own++l.take n) (l.getD n ([],[])) j
def Upto (L:List Sym) (own l:List Ru) (j n:Nat):Prop:=(∀ i,i<j→∀ m,m<l.length→ckB L own l i m=true)∧∀ m,m<n→m<l.length→ckB L own l j m=true
def wrongL (L:List Sym) (own l:List Ru) (j n:Nat):List (Int × Int):=
 if j=1 then [(71,(n:Int)),(if checkE L (l.getD n ([],[])).1=0 then checkE L (l.getD n ([],[])).2 else checkE L (l.getD n ([],[])).1, -1)]
 else if j=7 then [(77,(n:Int)),(78,(((own++l.take n).findIdx (fun a=>meetB L a.1 (l.getD n ([],[])).1):Nat):Int))]
 else [((70+j:Nat),(n:Int))]
def Ans (L:List Sym) (own l:List Ru) (ws:List (Int × Int)):Prop:=
 (ws=[]∧Upto L own l 8 0)∨∃ j n,j<8∧n<l.length∧Upto L own l j n∧ckB L own l j n=false∧ws=wrongL L own l j n
theorem Upto.nil (L:List Sym) (own l:List Ru):Upto L own l 0 0:=⟨fun i hi=>absurd hi (by omega),fun m hm=>absurd hm (by omega)⟩
theorem Upto.step {L:List Sym} {own l:List Ru} {j n:Nat} (h:Upto L own l j n) (hc:ckB L own l j n=true):Upto L own l j (n+1):=
 ⟨h.1,fun m hm hl=>by
  by_cases e:m=n
  ·subst e;exact hc
  ·exact h.2 m (by omega) hl⟩
theorem Upto.next {L:List Sym} {own l:List Ru} {j n:Nat} (h:Upto L own l j n) (hn:l.length≤n):Upto L own l (j+1) 0:=
 ⟨fun i hi m hm=>by
  by_cases e:i=j
  ·subst e;exact h.2 m (by omega) hm
  ·exact h.1 i (by omega) m hm,fun m hm=>absurd hm (by omega)⟩
theorem wrongL_ne (L:List Sym) (own l:List Ru) (j n:Nat):wrongL L own l j n≠[]:=by
 unfold wrongL
 split
 ·simp
 ·split <;> simp
theorem Ans.uniq {L:List Sym} {own l:List Ru} {a b:List (Int × Int)} (h:Ans L own l a) (k:Ans L own l b):a=b:=by
 have key:∀ {j n j' n' : Nat},n<l.length→n' < l.length→Upto L own l j n→ckB L own l j n=false→Upto L own l j' n' → ckB L own l j' n' = false→j=j' ∧ n=n' := by
  intro j n j' n' h1 h2 u1 c1 u2 c2
  have e:j=j' := by
   rcases Nat.lt_trichotomy j j' with q | q | q
   ·have:=u2.1 j q n h1;rw [c1] at this;cases this
   ·exact q
   ·have:=u1.1 j' q n' h2;rw [c2] at this;cases this
  subst e
  refine ⟨rfl,?_⟩
  rcases Nat.lt_trichotomy n n' with q | q | q
  ·have:=u2.2 n q h1;rw [c1] at this;cases this
  ·exact q
  ·have:=u1.2 n' q h2;rw [c2] at this;cases this
 rcases h with ⟨rfl,u⟩ | ⟨j,n,h1,h2,u,c,rfl⟩
 ·rcases k with ⟨rfl,_⟩ | ⟨j,n,h1,h2,u', c,rfl⟩
  ·rfl
  ·have:=u.1 j h1 n h2;rw [c] at this;cases this
 ·rcases k with ⟨rfl,u'⟩ | ⟨j', n', h1', h2', u', c', rfl⟩
  ·have:=u'.1 j h1 n h2;rw [c] at this;cases this
  ·obtain ⟨rfl,rfl⟩:=key h2 h2' u c u' c'; rfl
theorem Ans.nil {L:List Sym} {own l:List Ru} (h:Ans L own l []):∀ j,j<8→∀ n,n<l.length→ckB L own l j n=true:=by
 rcases h with ⟨_,u⟩ | ⟨j,n,_,_,_,_,e⟩
 ·exact fun j hj n hn=>u.1 j hj n hn
 ·exact absurd e.symm (wrongL_ne _ _ _ _ _)
theorem Ans.of_all {L:List Sym} {own l:List Ru} (h:∀ j,j<8→∀ n,n<l.length→ckB L own l j n=true):Ans L own l []:=.inl ⟨rfl,h,fun m hm=>absurd hm (by omega)⟩
theorem claB_swap {L:List Sym} {a b:List Int} (ha:checkE L a=0) (hb:checkE L b=0):claB L a b=claB L b a:=by
 have one:∀ {a b:List Int},checkE L a=0→checkE L b=0→(solF L (jl a b 99) a.length).isNone=true→(solF L (jl b a 99) b.length).isNone=true:=by
  intro a b ha hb h
  rcases com_u (ap:=99) (Nat.le_refl _) hb ha with e | ⟨u,hu⟩
  ·have e' : solF L (jl b a 99) b.length=none:=e
   rw [e'];rfl
  ·obtain ⟨v,⟨ld,k,h1,_⟩,_⟩:=com_swap ha hb hu
   rw [h1] at h;cases h
 have e1:claE L a b=0:=by simp [claE,ha,hb]
 have e2:claE L b a=0:=by simp [claE,ha,hb]
 unfold claB
 rw [e1,e2]
 simp only [decide_true,Bool.true_and]
 cases h1:(solF L (jl a b 99) a.length).isNone with
 | true=>exact (one ha hb h1).symm
 | false=>
  cases h2:(solF L (jl b a 99) b.length).isNone with
  | false=>rfl
  | true=>have:=one hb ha h2;rw [h1] at this;cases this
theorem meetB_eq {L:List Sym} {a x:List Int} (ha:checkE L a=0) (hx:checkE L x=0):meetB L a x = !claB L x a:=by
 have e1:claE L a x=0:=by simp [claE,ha,hx]
 rw [meetB,e1,claB_swap ha hx];simp
theorem arN_grow {L:List Sym} {x:Int} (h:x<(L.length:Int)) (M:List Sym):arN (L++M) x=arN L x:=by
 unfold arN
 split
 ·rfl
 ·rw [List.getElem?_append_left (by omega)]
theorem need_grow {L:List Sym} (M:List Sym):∀ (t:List Int) (k:Nat),(∀ x∈t,x<(L.length:Int))→need (L++M) k t=need L k t
 | [],k,_=>by cases k <;> rfl
 | x :: r,0,_=>rfl
 | x :: r,k+1,h=>by
  rw [need,need,arN_grow (h x (by simp))]
  exact need_grow M r _ (fun y hy=>h y (by simp [hy]))
theorem check_grow {L:List Sym} {t:List Int} (h:checkE L t=0) (M:List Sym):checkE (L++M) t=0:=by
 obtain ⟨h1,h2,h3⟩:=checkE_zero.1 h
 have h4:=badE_zero.1 h2
 refine checkE_zero.2 ⟨h1,badE_zero.2 (fun x hx=>⟨?_,(h4 x hx).2⟩),?_⟩
 ·have:=(h4 x hx).1;simp;omega
 ·show need _ _ _=_
  rw [need_grow M t 1 (fun x hx=>(h4 x hx).1)];exact h3
def Tr:Nat→Type
 | 0=>Empty
 | n+1=>Int × Int × List Int × List (Int × Tr n)
abbrev Rw:=Int × List Int × List Nat
def numR (x:Rw) (c:Nat):Int:=x.2.1.getD (x.2.2.getD c 0) (-1)
def conB (rows:List Rw) (c:Nat):Bool:=rows.all (fun x=>decide (0≤numR x c))
def partN (rows:List Rw):Nat→Option Nat
 | 0=>none
 | k+1=>match partN rows k with
  | some c=>some c
  | none=>if conB rows k then some k else none
def repl {α:Type} (l:List α) (c:Nat) (m:List α):List α:=l.take c++m++l.drop (c+1)
def kidP (L:List Sym) (paths:List (List Int)) (c s:Nat):List (List Int):=repl paths c ((List.range (arN L (s:Int))).map (fun (i:Nat)=>paths.getD c [] ++ [(i:Int)]))
def kidX (L:List Sym) (c:Nat) (x:Rw):Rw:=(x.1,x.2.1,repl x.2.2 c (argsN L x.2.1 (x.2.2.getD c 0)))
def havR (rows:List Rw) (c:Nat) (s:Int):List Rw:=rows.filter (fun x=>decide (numR x c=s))
def kidsN {α:Type} (has:Nat→Bool) (g:Nat→Except Int α):Nat→Except Int (List (Int × α))
 | 0=>.ok []
 | k+1=>match kidsN has g k with
  | .error e=>.error e
  | .ok l=>if has k then (match g k with | .error e=>.error e | .ok t=>.ok (l ++ [((k:Int),t)])) else .ok l
def growF (L:List Sym):(n:Nat)→List (List Int)→List Rw→Except Int (Tr n)
 | 0,_,_=>.error 0
 | n+1,paths,rows=>
  if rows.length=0 then .ok (3,0,[],[])
  else match partN rows paths.length with
   | some c=>(match kidsN (fun s=>decide (0<(havR rows c (s:Int)).length)) (fun s=>growF L n (kidP L paths c s) ((havR rows c (s:Int)).map (kidX L c))) L.length with
    | .error e=>.error e
    | .ok l=>.ok (2,0,paths.getD c [],l))
   | none=>if rows.length=1 then .ok (1,(rows.headD (0,[],[])).1,[],[]) else .error (rows.headD (0,[],[])).1
def sumN:List Nat→Nat
 | []=>0
 | a :: l=>a+sumN l
theorem sumN_append (a b:List Nat):sumN (a++b)=sumN a+sumN b:=by
 induction a with
 | nil=>simp [sumN]
 | cons x r ih=>simp [sumN,ih];omega
def wtL (L:List Sym) (t:List Int) (ps:List Nat):Nat:=sumN (ps.map (fun p=>endN L t p-p))
theorem wtL_append (L:List Sym) (t:List Int) (a b:List Nat):wtL L t (a++b)=wtL L t a+wtL L t b:=by simp [wtL,sumN_append]
theorem wtL_starts {L:List Sym} {t:List Int}:∀ (k p q:Nat),Forest L t k p q→wtL L t (starts L t k p)=q-p∧∀ x∈starts L t k p,x<t.length
 | 0,p,q,h=>by
  have:=h.zero
  subst this
  exact ⟨by simp [starts,wtL,sumN],by simp [starts]⟩
 | k+1,p,q,h=>by
  obtain ⟨h1,h2,h3⟩:=h.succ
  obtain ⟨a,b⟩:=wtL_starts k _ _ h3
  have hle:=h3.le
  refine ⟨?_,fun x hx=>?_⟩
  ·show (endN L t p-p)+wtL L t (starts L t k (endN L t p))=_
   rw [a];omega
  ·rcases List.mem_cons.1 (show x∈p :: starts L t k (endN L t p) from hx) with rfl | hx
   ·omega
   ·exact b x hx
theorem args_wt {L:List Sym} {t:List Int} (h:IsT L t) {p:Nat} (hp:p<t.length):wtL L t (argsN L t p)+1=endN L t p-p∧∀ x∈argsN L t p,x<t.length:=by
 obtain ⟨_,hk⟩:=(Forest.one h hp).kids
 rw [argsN_eq hp]
 obtain ⟨a,b⟩:=wtL_starts _ _ _ hk
 have:=hk.le
 exact ⟨by omega,b⟩
structure NdOk (L:List Sym) (n:Nat) (paths:List (List Int)) (rows:List Rw):Prop where
 pos:0<n
 le:rows.length≤100
 few:paths.length≤4000
 len:∀ p∈paths,0<p.length∧p.length+n≤4000
 ok:∀ x∈rows,checkE L x.2.1=0∧x.2.2.length=paths.length∧(∀ p∈x.2.2,p<x.2.1.length)∧wtL L x.2.1 x.2.2<n
theorem havR_mem {rows:List Rw} {c:Nat} {s:Int} {x:Rw} (h:x∈havR rows c s):x∈rows∧numR x c=s:=by
 simpa [havR] using h
theorem getD_lt {α:Type} {l:List α} {c:Nat} (h:c<l.length) (d:α):l.getD c d=l[c]:=by simp [List.getD,h]
theorem repl_length {α:Type} {l:List α} {c:Nat} (h:c<l.length) (m:List α):(repl l c m).length=l.length-1+m.length:=by
 simp [repl];omega
theorem wtL_repl {L:List Sym} {t:List Int} {ps:List Nat} {c:Nat} (h:c<ps.length) (m:List Nat):wtL L t (repl ps c m)+(endN L t ps[c]-ps[c])=wtL L t ps+wtL L t m:=by
 have e:ps=ps.take c ++ [ps[c]]++ps.drop (c+1):=by
  rw [List.append_assoc,List.singleton_append,List.getElem_cons_drop,List.take_append_drop]
 have e2:wtL L t ps=wtL L t (ps.take c ++ [ps[c]]++ps.drop (c+1)):=by rw [← e]
 rw [e2]
 have e3:wtL L t [ps[c]]=endN L t ps[c]-ps[c]:=by simp [wtL,sumN]
 simp only [repl,wtL_append,e3]
 omega
theorem partN_some {rows:List Rw}:∀ {k c:Nat},partN rows k=some c→c<k∧conB rows c=true
 | 0,c,h=>by cases h
 | k+1,c,h=>by
  unfold partN at h
  cases hk:partN rows k with
  | some c' =>
   rw [hk] at h
   cases h
   have:=partN_some hk
   exact ⟨by omega,this.2⟩
  | none=>
   rw [hk] at h
   simp only at h
   split at h
   ·cases h;exact ⟨by omega,by assumption⟩
   ·cases h
theorem numR_eq {x:Rw} {c:Nat} (h1:c<x.2.2.length) (h2:x.2.2[c]<x.2.1.length):numR x c=x.2.1[x.2.2[c]]:=by
 unfold numR
 rw [getD_lt h1,getD_lt h2]
theorem NdOk.kid {L:List Sym} {n:Nat} {paths:List (List Int)} {rows:List Rw} (h:NdOk L (n+1) paths rows) {c s:Nat} (hc:c<paths.length) (hs:s<L.length) (ha:arN L (s:Int)≤6) (hne:havR rows c (s:Int)≠[]):NdOk L n (kidP L paths c s) ((havR rows c (s:Int)).map (kidX L c)):=by
 have key:∀ x∈havR rows c (s:Int),checkE L x.2.1=0∧(kidX L c x).2.2.length=(kidP L paths c s).length∧(∀ p∈(kidX L c x).2.2,p<x.2.1.length)∧wtL L x.2.1 (kidX L c x).2.2<n:=by
  intro x hx
  obtain ⟨hx1,hx2⟩:=havR_mem hx
  obtain ⟨k1,k2,k3,k4⟩:=h.ok x hx1
  have hc' : c<x.2.2.length:=by omega
  have hp:=k3 _ (List.getElem_mem hc')
  have hT:=(checkE_zero.1 k1).2.2
  obtain ⟨a1,a2⟩:=args_wt hT hp
  rw [numR_eq hc' hp] at hx2
  have hal:(argsN L x.2.1 x.2.2[c]).length=arN L (s:Int):=by rw [argsN_eq hp,starts_length,hx2]
  refine ⟨k1,?_,?_,?_⟩
  ·simp only [kidX,kidP]
   rw [getD_lt hc', repl_length hc', repl_length hc,hal]
   simp;omega
  ·intro p hp'
   simp only [kidX] at hp'
   rw [getD_lt hc'] at hp'
   rcases List.mem_append.1 hp' with q | q
   ·rcases List.mem_append.1 q with q | q
    ·exact k3 p (List.mem_of_mem_take q)
    ·exact a2 p q
   ·exact k3 p (List.mem_of_mem_drop q)
  ·simp only [kidX]
   rw [getD_lt hc']
   have:=wtL_repl (L:=L) (t:=x.2.1) hc' (argsN L x.2.1 x.2.2[c])
   omega
 obtain ⟨x0,hx0⟩:=List.exists_mem_of_ne_nil _ hne
 refine ⟨?_,?_,?_,?_,?_⟩
 ·have:=(key x0 hx0).2.2.2;omega
 ·rw [List.length_map]
  exact Nat.le_trans (List.length_filter_le _ _) h.le
 ·obtain ⟨k1,k2,k3,k4⟩:=key x0 hx0
  have hT:=(checkE_zero.1 k1)
  have hb:∀ (ps:List Nat),(∀ p∈ps,p<x0.2.1.length)→ps.length≤wtL L x0.2.1 ps:=by
   intro ps
   induction ps with
   | nil=>simp
   | cons p r ih=>
    intro hp
    have:=ih (fun q hq=>hp q (List.mem_cons_of_mem _ hq))
    have e:=endN_le hT.2.2 (hp p (List.mem_cons_self ..))
    show r.length+1≤(endN L x0.2.1 p-p)+wtL L x0.2.1 r
    omega
  have hl:=hb _ k3
  have hn:n≤3999:=by
   have:=h.len _ (List.getElem_mem hc)
   omega
  omega
 ·intro p hp
  have hpc:=h.len _ (List.getElem_mem hc)
  simp only [kidP,repl] at hp
  rcases List.mem_append.1 hp with q | q
  ·rcases List.mem_append.1 q with q | q
   ·have:=h.len p (List.mem_of_mem_take q);omega
   ·obtain ⟨i,_,rfl⟩:=List.mem_map.1 q
    rw [getD_lt hc]
    simp;omega
  ·have:=h.len p (List.mem_of_mem_drop q);omega
 ·intro y hy
  obtain ⟨x,hx,rfl⟩:=List.mem_map.1 hy
  exact key x hx
abbrev I3:=Int × Int × Int
abbrev St9:=List I3 × List (List Int)
def setB:List I3→Nat→Int→List I3
 | [],_,_=>[]
 | x :: r,0,b=>(x.1,x.2.1,b) :: r
 | x :: r,c+1,b=>x :: setB r c b
theorem setB_length:∀ (I:List I3) (c:Nat) (b:Int),(setB I c b).length=I.length
 | [],_,_=>rfl
 | _ :: _,0,_=>rfl
 | _ :: r,c+1,b=>by simp [setB,setB_length r c b]
def layK {α:Type} (f:α→St9→St9):List (Int × α)→Nat→St9→St9
 | [],_,s=>s
 | x :: r,c,s=>layK f r (c+1) (f x.2 (setB s.1 c (s.1.length:Int),s.2))
theorem layK_snoc {α:Type} (f:α→St9→St9):∀ (l:List (Int × α)) (x:Int × α) (c:Nat) (s:St9),layK f (l ++ [x]) c s=f x.2 (setB (layK f l c s).1 (c+l.length) ((layK f l c s).1.length:Int),(layK f l c s).2)
 | [],x,c,s=>by simp [layK]
 | y :: r,x,c,s=>by
  rw [List.cons_append,layK,layK_snoc f r x (c+1),List.length_cons]
  simp only [layK]
  rw [show c+1+r.length=c+(r.length+1) by omega]
def headS (p:List Int) (ks:List Int) (s:St9):St9:=(s.1 ++ [(1,(s.2.length:Int),0)]++ks.map (fun k=>((2,k,0):I3)) ++ [(3,0,0)],s.2 ++ [p])
def layS:(n:Nat)→Tr n→St9→St9
 | 0,_,s=>s
 | n+1,(k,r,p,l),s=>
  if k=1 then (s.1 ++ [(4,r,0)],s.2)
  else if k=2 then layK (layS n) l (s.1.length+1) (headS p (l.map (fun x=>x.1)) s)
  else (s.1 ++ [(3,0,0)],s.2)
def insN:(n:Nat)→Tr n→Nat
 | 0,_=>0
 | n+1,(k,r,p,l)=>if k=2 then 3+l.length+sumN (l.map (fun x=>insN n x.2)) else 1
theorem layK_len {α:Type} {f:α→St9→St9} {g:α→Nat}:∀ (l:List (Int × α)) (c:Nat) (s:St9),(∀ x∈l,∀ s,(f x.2 s).1.length+(f x.2 s).2.length≤s.1.length+s.2.length+g x.2∧s.1.length≤(f x.2 s).1.length∧s.2.length≤(f x.2 s).2.length)→(layK f l c s).1.length+(layK f l c s).2.length≤s.1.length+s.2.length+sumN (l.map (fun x=>g x.2))∧s.1.length≤(layK f l c s).1.length∧s.2.length≤(layK f l c s).2.length
 | [],c,s,_=>by simp [layK,sumN]
 | x :: r,c,s,h=>by
  obtain ⟨a1,a2,a3⟩:=h x (List.mem_cons_self ..) (setB s.1 c (s.1.length:Int),s.2)
  obtain ⟨b1,b2,b3⟩:=layK_len (g:=g) r (c+1) (f x.2 (setB s.1 c (s.1.length:Int),s.2)) (fun y hy=>h y (List.mem_cons_of_mem _ hy))
  simp only [setB_length] at a1 a2 a3
  simp only [layK,List.map_cons,sumN]
  omega
theorem layS_eq {n:Nat} (k r:Int) (p:List Int) (l:List (Int × Tr n)) (s:St9):layS (n+1) (k,r,p,l) s=if k=1 then (s.1 ++ [(4,r,0)],s.2) else if k=2 then layK (layS n) l (s.1.length+1) (headS p (l.map (fun x=>x.1)) s) else (s.1 ++ [(3,0,0)],s.2):=rfl
theorem insN_eq {n:Nat} (k r:Int) (p:List Int) (l:List (Int × Tr n)):insN (n+1) (k,r,p,l)=if k=2 then 3+l.length+sumN (l.map (fun x=>insN n x.2)) else 1:=rfl
theorem layS_len:∀ (n:Nat) (t:Tr n) (s:St9),(layS n t s).1.length+(layS n t s).2.length≤s.1.length+s.2.length+insN n t∧s.1.length≤(layS n t s).1.length∧s.2.length≤(layS n t s).2.length
 | 0,_,s=>by simp [layS,insN]
 | n+1,(k,r,p,l),s=>by
  rw [layS_eq,insN_eq]
  by_cases h1:k=1
  ·rw [if_pos h1,if_neg (by omega)];simp;omega
  ·rw [if_neg h1]
   by_cases h2:k=2
   ·rw [if_pos h2,if_pos h2]
    obtain ⟨a,b,c⟩:=layK_len (f:=layS n) (g:=insN n) l (s.1.length+1) (headS p (l.map (fun x=>x.1)) s) (fun x _ s=>layS_len n x.2 s)
    have e1:(headS p (l.map (fun x=>x.1)) s).1.length=s.1.length+1+l.length+1:=by simp [headS];omega
    have e2:(headS p (l.map (fun x=>x.1)) s).2.length=s.2.length+1:=by simp [headS]
    rw [e1,e2] at a
    rw [e1] at b
    rw [e2] at c
    omega
   ·rw [if_neg h2,if_neg h2];simp;omega
theorem layS_leaf {n:Nat} {k r:Int} {p:List Int} {l:List (Int × Tr n)} (h:k=1) (s:St9):layS (n+1) (k,r,p,l) s=(s.1 ++ [(4,r,0)],s.2):=by
 rw [layS_eq,if_pos h]
theorem layS_branch {n:Nat} {k r:Int} {p:List Int} {l:List (Int × Tr n)} (h:k=2) (s:St9):layS (n+1) (k,r,p,l) s=layK (layS n) l (s.1.length+1) (headS p (l.map (fun x=>x.1)) s):=by
 rw [layS_eq,if_neg (by omega),if_pos h]
theorem layS_fail {n:Nat} {k r:Int} {p:List Int} {l:List (Int × Tr n)} (h1:¬ k=1) (h2:¬ k=2) (s:St9):layS (n+1) (k,r,p,l) s=(s.1 ++ [(3,0,0)],s.2):=by
 rw [layS_eq,if_neg h1,if_neg h2]
def flat3 (I:List I3):List Int:=I.flatMap (fun x=>[x.1,x.2.1,x.2.2])
theorem flat3_append (a b:List I3):flat3 (a++b)=flat3 a++flat3 b:=by simp [flat3]
theorem flat3_setB:∀ (I:List I3) (c:Nat) (b:Int),flat3 (setB I c b)=(flat3 I).set (c * 3+2) b
 | [],_,_=>by simp [setB,flat3]
 | x :: r,0,b=>rfl
 | x :: r,c+1,b=>by
  have e:∀ (x:I3) r,flat3 (x :: r)=x.1 :: x.2.1 :: x.2.2 :: flat3 r:=fun _ _=>rfl
  rw [setB,e,e,flat3_setB r c b,show (c+1) * 3+2=(c * 3+2)+1+1+1 by omega]
  rfl
end Go.Proofs.YtmjgnfkbnofjoaaGreatDoor
