import Derived.WalkKit
import Derived.Test.YtmjgnfkbnofjoaaGreatDoorRN05
import Derived.Deep.RegionHeld3
namespace Go.Proofs.YtmjgnfkbnofjoaaGreatDoor
open Go.Proofs.Tryz
set_option maxRecDepth 100000
set_option linter.unusedVariables false
set_option maxHeartbeats 4000000
variable {z:Int} {P:Int->Bool} {ld:Int->Int} {J a t x y:List Int} {L:List Sym} {ap b bs i j k lc ll n off rc sc xc yc:Nat} {sz:Nat->Int} {res:Option (Int->Int)} {ao cb lo ro so xo yo:Option Addr} {v:Value} {w w' w0:World}
section
open Go.RowKit
attribute [local go_sem ↓] Go.wp_at_zero Go.wp_at_succ
theorem JB.way_foot {B:JB} (h:B.Way k):B.Foot k:=by
 rcases h with e | e
 ·exact .inl e
 ·exact .inr (.inr (.inr (.inl e)))
structure Zup (L:List Sym) (B:JB) (J:List Int) (sz:Nat->Int) (res:Option (Int->Int)) (w0:World) (k:Nat) (wr:World) (v:Value) (ld:Int->Int) (rs:List (Nat × Nat × Nat)):Prop where
 u:UOk L J res k ld rs
 j:JAt L B wr J ld sz
 row:Zh5 w0.heap.size wr v rs
 kept:Zc B.Way w0 wr
theorem Zup.drewN {B:JB} {wr:World} {rs:List (Nat × Nat × Nat)} (h:Zup L B J sz res w0 k wr v ld rs) (n:Nat):Zup L B J sz res w0 k (wr.drewN n) v ld rs:=
 ⟨h.u,h.j.kept (S:=λ _=>False) ((Zc.refl _ _).drewN n) (λ _ _ f=>f),h.row.kept (S:=λ _=>False) ((Zc.refl _ _).drewN n) (λ _ _ f=>f),h.kept.drewN n⟩
def UEnd (L:List Sym) (B:JB) (J:List Int) (sz:Nat->Int) (res:Option (Int->Int)) (w:World) (e:Ending) (w' : World):Prop:=(∀ ld', res=some ld' -> e=.returned (.bool true)∧JAt L B w' J ld' sz)∧(res=none->e=.returned (.bool false))∧Zc B.Way w w'
theorem Zzv (w:World) (x y o:Nat):Zh5 w.heap.size (w.alloc (.cells #[.int .i64 (x:Int),.int .i64 (y:Int),.int .i64 (o:Int)] 361)) (.slice (some ⟨w.heap.size,0,none⟩) 1 1) [(x,y,o)]:=
 ⟨by simp [Z6],.inr ⟨w.heap.size,1,_,rfl,Nat.le_refl _,heap_alloc_new _ _,Nat.le_refl _,by decide,rfl,rfl⟩⟩
theorem JAt.join {B:JB} (h:JAt L B w J ld sz) {p q:Int} (hp:Z0 J p) (hq:Z0 J q) (lp:ld p=p) (lq:ld q=q) (hpq:p≠q):JAt L B (w.setCell (nxA B p) (.int .i64 q)) J (un p q ld) sz∧Zc B.Way w (w.setCell (nxA B p) (.int .i64 q)):=by
 obtain ⟨nx,ρ,h1,h2⟩:=h;obtain ⟨g1,g2⟩:=h1.put hp q;exact ⟨⟨_,_,g1,h2.join hp hq lp lq hpq⟩,g2.mono (λ i _ e=>by rw [e];exact B.way p)⟩
theorem Ztd (B:JB) {v:Nat} (hv:1<=v):nxA B (-(v:Int))=⟨B.jb,2+v,none⟩:=by unfold nxA;rw [if_pos (by omega)];congr 2;omega
theorem Zy9 (B:JB) (v:Nat):nxA B (v:Int)=⟨B.sb,v,none⟩:=by unfold nxA;rw [if_neg (by omega)];congr 1
theorem Zq1 {B:JB} (h:JAt L B w J ld sz) {a:Nat} (ha:a<J.length) (hb:b<J.length) (hJ:J.length<=4000) (hu:UOk L J res n ld [(a,Zj L J a,b)]) :
  Calls prog 236 #[.pointer (some ⟨B.jb,0,none⟩),.int .i64 (a:Int),.int .i64 (b:Int)] w (UEnd L B J sz res w):=by
 have hfoot:∀ k,B.Foot k->k<w.heap.size:=by
  obtain ⟨nx,ρ,hC,_⟩:=h;exact λ k hk=>hC.lt hk
 have U0:Zup L B J sz res w n (w.alloc (.cells #[.int .i64 (a:Int),.int .i64 (Zj L J a:Int),.int .i64 (b:Int)] 361)) (.slice (some ⟨w.heap.size,0,none⟩) 1 1) ld [(a,Zj L J a,b)]:=
  ⟨hu,h.kept (S:=λ _=>False) (Zc.alloc (Zc.refl _ w) _) (λ _ _ f=>f),Zzv w a _ b,Zc.alloc (Zc.refl _ w) _⟩
 obtain ⟨nx,ρ,hC,_⟩:=h;obtain ⟨c0,c1,c2,c3,c4⟩:=hC.head.cells;have ce:=(hC.ends.cell ha).1;clear hC;have i1:(0:Int)<=(a:Int):=by omega
 have i2:(a:Int)<(J.length:Int):=by omega
 go_enter func236,ntmps236
 go_wp2_with fail
 go_step3
 go_wp2_with fail
 go_step3
 go_wp2_with fail
 clear c0 c1 c2 c3 c4 ce i1 i2 hu
 go_loopg [7] n (λ k s7 wr=>∃ ld rs,Zup L B J sz res w k wr s7 ld rs)
 case atStart=>exact ⟨ld,_,U0⟩
 case round=>
  clear U0;obtain ⟨ld,rs,hU⟩:=hrel;cases rs with
  | nil=>
   obtain ⟨vo,vcap,rfl⟩:=Zf hU.row;have e1:=hU.u.nil;have fin:UEnd L B J sz res w (.returned (.bool true)) wr:=⟨λ ld' e=>⟨rfl,by rw [e1] at e;cases e;exact hU.j⟩,λ e=>(by rw [e1] at e;cases e),hU.kept⟩;clear hU e1
   go_wp2_with fail
   go_returns
   exact fin
  | cons r rs=>
   obtain ⟨x,y,o⟩:=r;obtain ⟨g,cap,rfl,hg1,hg2,hcap, -⟩:=hU.row.top;have hlen:rs.length<=4000:=by have:=hU.u.len;simp at this;omega
   have j1:(0:Int)<=(rs.length:Int):=by omega
   have j2:(rs.length:Int)<((rs.length+1:Nat):Int):=by omega
   go_wp2_with fail
   go_loopg [7] gk (λ k s7 wi=>∃ ld x o,s7=.slice (some ⟨g,0,none⟩) (rs.length+1) cap∧k<=gk∧Zup L B J sz res w k wi s7 ld ((x,y,o) :: rs))
   case atStart=>exact ⟨ld,x,o,rfl,Nat.le_refl _,hU⟩
   case round=>
    clear hU;obtain ⟨ld,x,o,rfl,hgk,hU⟩:=hrel;obtain ⟨g', cap', hv, -,hg3, -,q0,q1,q2,q3,q4⟩:=hU.row.top;simp only [Value.slice.injEq,Option.some.injEq,Addr.mk.injEq,and_true,true_and] at hv;obtain ⟨rfl,rfl⟩:=hv
    by_cases hxy:x<y
    ·have hxi:(x:Int)<(y:Int):=by omega
     obtain ⟨t1,t2,t3,t4,hpx,hpo,hlx,hlo,hr⟩:=hU.u.top hxy
     go_wp2_with fail
     go_quiet (fail);have hV:=hU.drewN nq;obtain ⟨wq,hwq⟩:∃ wq,wr.drewN nq=wq:=⟨_,rfl⟩;rw [hwq] at hV ⊢;clear hU hwq q0 q1 q2 q3 q4 hg3;obtain ⟨g', cap', hv, -,hg3, -,q0,q1,q2,q3,q4⟩:=hV.row.top;simp only [Value.slice.injEq,Option.some.injEq,Addr.mk.injEq,and_true,true_and] at hv;obtain ⟨rfl,rfl⟩:=hv;have hng:¬ B.Way g:=λ f=>by have:=hfoot g (JB.way_foot f);omega
     have CX:Hid (∀ ww z,Z0 J z->JAt L B ww J ld sz∧Zc B.Way wq ww->Calls prog 238 #[.pointer (some ⟨B.jb,0,none⟩),.int .i64 z] ww λ e w' => e=.returned (.int .i64 (ld z))∧JAt L B w' J ld sz∧Zc B.Way wq w'):=λ ww z hz hw=>(Zfz hw.1 hz).mono (λ e w' ⟨a1,a2,a3⟩=>⟨a1,a2,hw.2.trans a3 (λ _ _ f=>f)⟩);have px:Z0 J (x:Int):=Zm t1;have po:Z0 J (o:Int):=Zm t2;have CC:Hid (∀ ww,Zc B.Way wq ww->ww.cell? ⟨g,rs.length * 3,none⟩=some (.int .i64 (x:Int))∧ww.cell? ⟨g,rs.length * 3+2,none⟩=some (.int .i64 (o:Int))):=λ ww hk=>⟨(hk.cell (p:=⟨g,_,none⟩) hg3 hng).trans q0,(hk.cell (p:=⟨g,_,none⟩) hg3 hng).trans q2⟩;have W1:JAt L B wq.drew J ld sz∧Zc B.Way wq wq.drew:=⟨hV.j.kept (S:=λ _=>False) ((Zc.refl _ _).drew) (λ _ _ f=>f),(Zc.refl _ _).drew⟩
     go_upto_region 5 with fail
     go_cut [9,10] from 30 to 138 (λ s9 s10 wc=>s9=.int .i64 (ld x)∧s10=.int .i64 (ld o)∧JAt L B wc J ld sz∧Zc B.Way wq wc)
     case first=>
      clear hV;have CC0:=CC.out _ W1.2
      go_region_held3 (λ w' => w'.cell? ⟨g,rs.length * 3,none⟩=some (.int .i64 (x:Int))∧w'.cell? ⟨g,rs.length * 3+2,none⟩=some (.int .i64 (o:Int))) (first | exact CC0 | exact cc1) ((go_at_call 238;refine (CX.out _ _ (by first | exact px | exact po) (by first | exact hw1 | exact W1)).mono ?_;rintro e w1 ⟨rfl,hw1⟩;have cc1:=CC.out _ hw1.2))
      all_goals
       go_wp2_with fail
       go_meet;exact ⟨rfl,rfl,hw1⟩
     case rest=>
      obtain ⟨rfl,rfl,hJ1,hK1⟩:=hcut;clear CX CC W1 q0 q1 q2 q3 q4;have hR1:=hV.row.kept hK1 (λ k hk f=>by have:=hfoot k (JB.way_foot f);omega);have hK2:Zc B.Way w wc:=hV.kept.trans hK1 (λ _ _ f=>f);obtain ⟨g', cap', hv, -,hg4, -,q0,q1,q2,q3,q4⟩:=hR1.top;simp only [Value.slice.injEq,Option.some.injEq,Addr.mk.injEq,and_true,true_and] at hv;obtain ⟨rfl,rfl⟩:=hv;obtain ⟨k', hk', S1,S2,S3,S4,S5⟩:=hV.u.step hxy;have hR2:=hR1.on (Zj L J x) (Zj L J o);have hK3:Zc (λ k=>k=g) wc ((wc.setCell ⟨g,rs.length * 3,none⟩ (.int .i64 (Zj L J x:Int))).setCell ⟨g,rs.length * 3+2,none⟩ (.int .i64 (Zj L J o:Int))):=(Zc.setCell (S:=λ k=>k=g) (p:=⟨g,rs.length * 3,none⟩) (Zc.refl _ _) (λ _=>rfl) _).setCell (p:=⟨g,rs.length * 3+2,none⟩) (λ _=>rfl) _;have hJ2:=hJ1.kept hK3 (λ k hk e=>by have:=hfoot k hk;omega);have hK4:=hK2.trans hK3 (λ k hk e=>by omega);obtain ⟨nx,ρ,hC, -⟩:=hJ1;obtain ⟨c0,c1,c2,c3,c4⟩:=hC.head.cells;have ce1:=(hC.ends.cell t1).1;have ce2:=(hC.ends.cell t2).1;have i1:(0:Int)<=(x:Int):=by omega
      have i2:(x:Int)<(J.length:Int):=by omega
      have i3:(0:Int)<=(o:Int):=by omega
      have i4:(o:Int)<(J.length:Int):=by omega
      have HH:Hid (JAt L B ((wc.setCell ⟨g,rs.length * 3,none⟩ (.int .i64 (Zj L J x:Int))).setCell ⟨g,rs.length * 3+2,none⟩ (.int .i64 (Zj L J o:Int))) J ld sz∧Zh5 w.heap.size ((wc.setCell ⟨g,rs.length * 3,none⟩ (.int .i64 (Zj L J x:Int))).setCell ⟨g,rs.length * 3+2,none⟩ (.int .i64 (Zj L J o:Int))) (.slice (some ⟨g,0,none⟩) (rs.length+1) cap) ((Zj L J x,y,Zj L J o) :: rs)∧Zc B.Way w ((wc.setCell ⟨g,rs.length * 3,none⟩ (.int .i64 (Zj L J x:Int))).setCell ⟨g,rs.length * 3+2,none⟩ (.int .i64 (Zj L J o:Int)))):=⟨hJ2,hR2,hK4⟩;clear hC hJ2 hR2 hK4 hK3 hV hR1 hK1 hK2
      go_upto_region 6 with fail
      go_cut [] from 30 to 138 (λ w8=>JAt L B w8 J ld sz∧Zh5 w.heap.size w8 (.slice (some ⟨g,0,none⟩) (rs.length+1) cap) ((Zj L J x,y,Zj L J o) :: rs)∧Zc B.Way w w8)
      case first=>
       clear S1 S2 S3 S4 S5
       go_region
       all_goals
        go_wp2_with fail
        go_meet;obtain ⟨a1,a2,a3⟩:=HH.out;exact ⟨a1.kept (S:=λ _=>False) ((Zc.refl _ _).drew) (λ _ _ f=>f),a2.kept (S:=λ _=>False) ((Zc.refl _ _).drew) (λ _ _ f=>f),a3.drew⟩
      case rest=>
       obtain ⟨hJ8,hR8,hK8⟩:=hcut;clear HH c0 c1 c2 c3 c4 ce1 ce2 q0 q1 q2 q3 q4 hg4;obtain ⟨p,hp⟩:∃ p,ld (x:Int)=p:=⟨_,rfl⟩;obtain ⟨q,hq⟩:∃ q,ld (o:Int)=q:=⟨_,rfl⟩;rw [hp,hq] at S1 S2 S3 S4 S5 ⊢;rw [hp] at hpx hlx;rw [hq] at hpo hlo;clear hp hq
       by_cases h1:p=q
       ·have hN:=S1 h1
        clear S1 S2 S3 S4 S5
        go_wp2_with fail
        go_roundg k'
        case measure=>omega
        case rel=>exact ⟨ld,_,_,rfl,by omega,hN,hJ8,hR8,hK8⟩
       ·by_cases h2:p<0
        ·have hN:=S2 h1 h2
         obtain ⟨v,rfl⟩:∃ v:Nat,p = -(v:Int):=⟨(-p).toNat,by omega⟩;obtain ⟨hJ9,hK9⟩:=hJ8.join hpx hpo hlx hlo h1;rw [Ztd B (by omega)] at hJ9 hK9;have hR9:=hR8.kept hK9 (λ k hk f=>by have:=hfoot k (JB.way_foot f);omega);have hK10:=hK8.trans hK9 (λ _ _ f=>f);obtain ⟨nx,ρ,hC, -⟩:=hJ8;have i5:(0:Int)<=(v:Int):=by omega
         have i6:(v:Int)<199:=by have:=hpx.1;omega
         obtain ⟨e1,e2⟩:=hC.head.var (v:=v) (by omega) (by omega);clear S1 S2 S3 S4 S5 hC hR8 hK8
         go_wp2_with fail
         go_roundg k'
         case measure=>omega
         case rel=>exact ⟨_,_,_,rfl,by omega,hN,hJ9,hR9,hK10⟩
        ·by_cases h3:q<0
         ·have hN:=S3 h1 h2 h3
          obtain ⟨v,rfl⟩:∃ v:Nat,q = -(v:Int):=⟨(-q).toNat,by omega⟩;obtain ⟨hJ9,hK9⟩:=hJ8.join hpo hpx hlo hlx (λ e=>h1 e.symm);rw [Ztd B (by omega)] at hJ9 hK9;have hR9:=hR8.kept hK9 (λ k hk f=>by have:=hfoot k (JB.way_foot f);omega);have hK10:=hK8.trans hK9 (λ _ _ f=>f);obtain ⟨nx,ρ,hC, -⟩:=hJ8;have i5:(0:Int)<=(v:Int):=by omega
          have i6:(v:Int)<199:=by have:=hpo.1;omega
          obtain ⟨e1,e2⟩:=hC.head.var (v:=v) (by omega) (by omega);clear S1 S2 S3 S4 S5 hC hR8 hK8
          go_wp2_with fail
          go_roundg k'
          case measure=>omega
          case rel=>exact ⟨_,_,_,rfl,by omega,hN,hJ9,hR9,hK10⟩
         ·obtain ⟨p,rfl⟩:∃ v:Nat,p=(v:Int):=⟨p.toNat,by omega⟩
          obtain ⟨q,rfl⟩:∃ v:Nat,q=(v:Int):=⟨q.toNat,by omega⟩;have hpl:p<J.length:=by have:=hpx.2;omega
          have hql:q<J.length:=by have:=hpo.2;omega
          obtain ⟨hJ9,hK9⟩:=hJ8.join hpx hpo hlx hlo h1;rw [Zy9 B p] at hJ9 hK9;obtain ⟨nx,ρ,hC, -⟩:=hJ8;obtain ⟨c0,c1,c2,c3,c4⟩:=hC.head.cells;have cp:=(hC.list.cell hpl).1;have cq:=(hC.list.cell hql).1;have cs:=hC.same.cell hpl;have i5:(0:Int)<=(p:Int):=by omega
          have i6:(p:Int)<(J.length:Int):=by omega
          have i7:(0:Int)<=(q:Int):=by omega
          have i8:(q:Int)<(J.length:Int):=by omega
          obtain ⟨cs1,cs2⟩:=cs
          by_cases h4:at' J (p:Int)=at' J (q:Int)
          ·have hN:=S5 h1 h2 h3 h4
           have hR9:=hR8.kept hK9 (λ k hk f=>by have:=hfoot k (JB.way_foot f);omega);have hK10:=hK8.trans hK9 (λ _ _ f=>f);have h4' : (at' J (p:Int) == at' J (q:Int))=true:=by simpa using h4
           clear S1 S2 S3 S4 S5 hC hR8 hK8 hK9
           go_upto_region 14 with fail
           go_quiet (fail)
           have hX:Hid (JAt L B ((wc.drewN nq).setCell ⟨B.sb,p,none⟩ (.int .i64 (q:Int))) J (un (p:Int) (q:Int) ld) sz∧Zh5 w.heap.size ((wc.drewN nq).setCell ⟨B.sb,p,none⟩ (.int .i64 (q:Int))) (.slice (some ⟨g,0,none⟩) (rs.length+1) cap) ((Zj L J x,y,Zj L J o) :: rs)∧Zc B.Way w ((wc.drewN nq).setCell ⟨B.sb,p,none⟩ (.int .i64 (q:Int)))):=by
            have k0:Za (wc.setCell ⟨B.sb,p,none⟩ (.int .i64 (q:Int))) ((wc.drewN nq).setCell ⟨B.sb,p,none⟩ (.int .i64 (q:Int))):=(Zc.refl _ (wc.setCell ⟨B.sb,p,none⟩ (.int .i64 (q:Int)))).drewN nq;exact ⟨hJ9.kept k0 (λ _ _ f=>f),hR9.kept k0 (λ _ _ f=>f),hK10.trans k0 (λ _ _ f=>f.elim)⟩
           clear hJ9 hR9 hK10
           go_upto_region 8 with fail
           obtain ⟨w9,hw9⟩:∃ w9,(wc.drewN nq).setCell ⟨B.sb,p,none⟩ (.int .i64 (q:Int))=w9:=⟨_,rfl⟩;rw [hw9] at hX ⊢;clear hw9 c0 c1 c2 c3 c4 cp cq cs1 cs2 h4 h4';obtain ⟨i0,hi0,hz0,hz1,hz2⟩:=info_parts Zuk
           have PE:Hid (∀ gg cap' w10,w10.ownsRow w.heap.size 361 3 (.slice (some ⟨gg,0,none⟩) (rs.length+1+1) cap') (rs.length+1+1) (Z6 ((Zj L J x,y,Zj L J o) :: rs).reverse ++ [.int .i64 ((p:Int)+1),.int .i64 (Zj L J p:Int),.int .i64 ((q:Int)+1)])->(w9.alloc (.cells #[.int .i64 ((p:Int)+1),.int .i64 (Zj L J p:Int),.int .i64 ((q:Int)+1)] 361)).grownBy w10 (some g)->Zup L B J sz res w k' w10 (.slice (some ⟨gg,0,none⟩) (rs.length+1+1) cap') (un (p:Int) (q:Int) ld) ((p+1,Zj L J p,q+1) :: (Zj L J x,y,Zj L J o) :: rs)):=by
            intro gg cap' w10 hown hgrow;obtain ⟨a1,a2,a3⟩:=hX.out;have kg:Zc (λ k=>k=g) w9 w10:=Zc.grown (Zc.alloc (Zc.refl _ w9) _) hgrow (λ k e _=>by simpa using e.symm);refine ⟨by simpa using hN,a1.kept kg (λ k hk e=>by have:=hfoot k hk;omega),?_,a3.trans kg (λ k hk e=>by omega)⟩;unfold Zh5;rw [Vl]
            simpa using hown
           obtain ⟨a1,a2, -⟩:=hX.out;have hrow:w9.ownsRow w.heap.size 361 3 (.slice (some ⟨g,0,none⟩) (rs.length+1) cap) (rs.length+1) (Z6 ((Zj L J x,y,Zj L J o) :: rs).reverse):=a2;obtain ⟨nx,ρ,hC, -⟩:=a1;obtain ⟨c0,c1,c2,c3,c4⟩:=hC.head.cells;have ce:=(hC.ends.cell hpl).1;have hn1:rs.length+1+1<=maxLen:=by unfold maxLen;omega
           have hn2:(rs.length+1+1) * 24<=140737488355328:=by omega
           have hb9:w.heap.size<=(w9.alloc (.cells #[.int .i64 ((p:Int)+1),.int .i64 (Zj L J p:Int),.int .i64 ((q:Int)+1)] 361)).heap.size:=by
            have:=a2.top;obtain ⟨g', cap', hv,hb1,hlt1, -⟩:=this;simp;omega
           have i9:(p:Int)<4000:=by omega
           have i10:(q:Int)<4000:=by omega
           clear hX hC a2
           go_wp2_with ((at_builtin;refine wpList_append_lies _ rfl _ _ 362 rfl w.heap.size 361 i0 _ 3 24 underlying362 hi0 hz0 hz1 hz2 rfl (by omega) (.slice (some ⟨g,0,none⟩) (rs.length+1) cap) (rs.length+1) (Z6 ((Zj L J x,y,Zj L J o) :: rs).reverse) rfl (hrow.alloc _) ⟨w9.heap.size,0,none⟩ 1 1 [.int .i64 ((p:Int)+1),.int .i64 (Zj L J p:Int),.int .i64 ((q:Int)+1)] rfl rfl (World.news_of_block (cs:=#[.int .i64 ((p:Int)+1),.int .i64 (Zj L J p:Int),.int .i64 ((q:Int)+1)]) (t:=361) (fr:=(0,0)) (heap_alloc_new w9 _)) (by simp [Value.oneCell']) (by omega) hn1 hn2 hb9 (w9.heap.size+1) (by simp) ?_;intro gg cap' w10 hown hgrow hat hlt;have hP:=PE.out gg cap' w10 hown hgrow))
           go_roundg k'
           case measure=>omega
           case rel=>exact ⟨_,_,hP⟩
          ·have hN:=S4 h1 h2 h3 h4
           have fin:Hid (∀ n,UEnd L B J sz res w (.returned (.bool false)) (wc.drewN n)):=λ n=>⟨λ ld' e=>(by rw [hN] at e;cases e),λ _=>rfl,hK8.drewN n⟩;clear S1 S2 S3 S4 S5 hC hR8 hK8 hJ9 hK9 hN
           go_upto_region 14 with fail
           go_quiet (fail)
           go_wp2_with fail
           go_returns
           exact fin.out _
    ·have hxi:¬ (x:Int)<(y:Int):=by omega
     obtain ⟨k', hk', hU'⟩:=hU.u.pop hxy;have hP:Zup L B J sz res w k' wr (.slice (some ⟨g,0,none⟩) rs.length cap) ld rs:=⟨hU', hU.j,hU.row.less,hU.kept⟩;have j3:(rs.length:Int)<=(cap:Int):=by omega
     have hP' : Hid (∀ n,Zup L B J sz res w k' (wr.drewN n) (.slice (some ⟨g,0,none⟩) rs.length cap) ld rs):=λ n=>hP.drewN n;clear hU hU' hP
     go_wp2_with fail
     go_quiet (fail)
     go_wp2_with fail
     go_roundg k'
     case measure=>omega
     case rel=>exact ⟨ld,rs,hP'.out _⟩
def JB.Mem (B:JB) (k:Nat):Prop:=k=B.jb∨k=B.sb∨k=B.zb
theorem JB.way_mem {B:JB} (h:B.Way k):B.Mem k:=by
 rcases h with e | e
 ·exact .inl e
 ·exact .inr (.inl e)
theorem JAt.setSize {B:JB} (h:JAt L B w J ld sz) (p:Nat) (v:Int):JAt L B (w.setCell ⟨B.zb,p,none⟩ (.int .i64 v)) J ld (Ku sz p v)∧Zc B.Mem w (w.setCell ⟨B.zb,p,none⟩ (.int .i64 v)):=by
 obtain ⟨nx,ρ,h1,h2⟩:=h;have hk:Zc (λ k=>k=B.zb) w (w.setCell ⟨B.zb,p,none⟩ (.int .i64 v)):=Zc.setCell (S:=λ k=>k=B.zb) (p:=⟨B.zb,p,none⟩) (Zc.refl _ _) (λ _=>rfl) _;have ap:=h1.ap;exact ⟨⟨nx,ρ,⟨h1.head.kept hk ap.a4,h1.list.kept hk (λ e=>ap.a8 e.symm),h1.ends.kept hk (λ e=>ap.a9 e.symm),h1.same.kept hk ap.a7,h1.sizes.set p v,ap⟩,h2⟩,hk.mono (λ _ _ e=>.inr (.inr e))⟩
def Zhe (L:List Sym) (B:JB) (J:List Int) (ld:Int->Int) (w:World) (k:Int) (sz' : Nat->Int) (e:Ending) (w' : World):Prop:=e=.returned (.int .i64 k)∧JAt L B w' J ld sz' ∧ Zc B.Mem w w'
theorem Zt7 {B:JB} (hT:Trs L J) (hl:Zcl J ld) (hJ:J.length<=4000):∀ (n:Nat) (w:World) (sz:Nat->Int) (x k:Int) (sz' : Nat->Int),JAt L B w J ld sz->Z0 J x->Zbn sz->Vw L J ld n sz x=some (k,sz') ->
  Calls prog 237 #[.pointer (some ⟨B.jb,0,none⟩),.int .i64 x] w (Zhe L B J ld w k sz'):=by
 intro n
 induction n with
 | zero=>intro w sz x k sz' _ _ _ e;simp [Vw] at e
 | succ n ih=>
  intro w sz x k sz' h hx hs e;have cL:=Zfz h hx;have hpx:=hl.part x hx;have hsy:=hl.sym x hx;rw [Vw] at e;obtain ⟨p,hp⟩:∃ p,ld x=p:=⟨_,rfl⟩;rw [hp] at e cL hpx hsy
  by_cases h1:p<0
  ·rw [if_pos h1] at e
   simp only [Option.some.injEq,Prod.mk.injEq] at e;obtain ⟨rfl,rfl⟩:=e;clear ih h
   go_enter func237,ntmps237
   go_wp2_with ((go_at_call 238;refine cL.mono ?_;rintro e w1 ⟨rfl,hj1,hk1⟩))
   go_returns
   exact ⟨rfl,hj1,hk1.mono (λ _ _ f=>JB.way_mem f)⟩
  ·rw [if_neg h1] at e
   obtain ⟨p,rfl⟩:∃ v:Nat,p=(v:Int):=⟨p.toNat,by omega⟩;rw [Int.toNat_natCast] at e;have hpl:p<J.length:=by have:=hpx.2;omega
   have i1:(0:Int)<=(p:Int):=by omega
   have i2:(p:Int)<(J.length:Int):=by omega
   by_cases h2:sz p≠0
   ·rw [if_pos h2] at e
    simp only [Option.some.injEq,Prod.mk.injEq] at e;obtain ⟨rfl,rfl⟩:=e
    have CC:Hid (∀ w1,JAt L B w1 J ld sz->w1.cell? ⟨B.jb,202,none⟩=some (.slice (some ⟨B.zb,0,none⟩) J.length J.length)∧w1.cell? ⟨B.zb,p,none⟩=some (.int .i64 (sz p))):=by
     rintro w1 ⟨nx,ρ,hC, -⟩;exact ⟨hC.head.cells.2.2.2.1,(hC.sizes.cell hpl).1⟩
    obtain ⟨v,hv⟩:∃ v,sz p=v:=⟨_,rfl⟩;rw [hv] at CC h2 ⊢;clear ih h
    go_enter func237,ntmps237
    go_wp2_with ((go_at_call 238;refine cL.mono ?_;rintro e w1 ⟨rfl,hj1,hk1⟩;obtain ⟨g1,g2⟩:=CC.out w1 hj1))
    go_returns
    exact ⟨rfl,hj1,hk1.mono (λ _ _ f=>JB.way_mem f)⟩
   ·rw [if_neg h2] at e
    have h0:sz p=0:=by simpa using h2
    cases h3:Zaz (Vw L J ld n) (Zl L J p) 1 (Ku sz p (-1)) with
    | none=>simp [h3] at e
    | some v=>
     obtain ⟨s,sz1⟩:=v;simp only [h3] at e;have hF:=Yd hT hpl
     have CC:Hid (∀ w1,JAt L B w1 J ld sz->w1.cell? ⟨B.jb,202,none⟩=some (.slice (some ⟨B.zb,0,none⟩) J.length J.length)∧w1.cell? ⟨B.zb,p,none⟩=some (.int .i64 0)∧w1.frozen? ⟨B.zb,p,none⟩=false):=by
      rintro w1 ⟨nx,ρ,hC, -⟩;have:=hC.sizes.cell hpl;rw [h0] at this;exact ⟨hC.head.cells.2.2.2.1,this.1,this.2⟩
     have HE:Hid ((if s = -1 then some (-1,sz1) else some (s,Ku sz1 p s))=some (k,sz')):=e;have H3:Hid (Zaz (Vw L J ld n) (Zq L J (arN L (at' J p)) (p+1)) 1 (Ku sz p (-1))=some (s,sz1)):=h3;have hs2:Zbn (Ku sz p (-1)):=hs.upd _ (.inl rfl);have IH:Hid (∀ (w:World) (sz:Nat->Int) (x k:Int) (sz' : Nat->Int),JAt L B w J ld sz->Z0 J x->Zbn sz->Vw L J ld n sz x=some (k,sz')->Calls prog 237 #[.pointer (some ⟨B.jb,0,none⟩),.int .i64 x] w (Zhe L B J ld w k sz')):=ih;clear ih h e h3 h2;have i3:(p:Int)<4000:=by omega
     go_enter func237,ntmps237
     go_upto_region 7 with ((go_at_call 238;refine cL.mono ?_;rintro e w1 ⟨rfl,hj1,hk1⟩;obtain ⟨g1,g2,g3⟩:=CC.out w1 hj1))
     obtain ⟨hj2,hk2⟩:=hj1.setSize p (-1);obtain ⟨w2,hw2⟩:∃ w2,w1.setCell ⟨B.zb,p,none⟩ (.int .i64 (-1))=w2:=⟨_,rfl⟩;rw [hw2] at hj2 hk2 ⊢;have hK2:Zc B.Mem w w2:=(hk1.mono (λ _ _ f=>JB.way_mem f)).trans hk2 (λ _ _ f=>f);clear hw2 hk1 hk2 hj1 CC cL g1 g2 g3
     go_wp2_with fail
     go_loopg [6,7] (arN L (at' J p)) (λ c s6 s7 wr=>∃ (sum:Int) (t:Nat) (sq:Nat->Int),s6=.int .i64 sum∧s7=.int .i64 (t:Int)∧1<=sum∧sum<=2001∧Zs L J c t (Zj L J p)∧Zbn sq∧JAt L B wr J ld sq∧Zc B.Mem w wr∧Hid (Zaz (Vw L J ld n) (Zq L J c t) sum sq=some (s,sz1)))
     case atStart=>exact ⟨1,p+1,_,rfl,by go_num,by omega,by omega,hF,hs2,hj2,hK2,H3⟩
     case round=>
      clear hj2 hK2 H3 hs2 hF;obtain ⟨sum,t,sq,rfl,rfl,hs1,hs2,hF,hsq,hj,hK,HS⟩:=hrel;obtain ⟨nx,ρ,hC, -⟩:=id hj;obtain ⟨c0,c1,c2,c3,c4⟩:=hC.head.cells;have ce:=(hC.ends.cell hpl).1;cases gk with
      | zero=>
       have ht:=hF.zero;have i4:¬ (t:Int)<(Zj L J p:Int):=by omega
       have hss:sum=s∧sq=sz1:=by
        have:=HS.out
        simpa [Zq,Zaz] using this
       obtain ⟨rfl,rfl⟩:=hss;have hne:¬ sum = -1:=by omega
       have:=HE.out;rw [if_neg hne] at this;simp only [Option.some.injEq,Prod.mk.injEq] at this;obtain ⟨rfl,rfl⟩:=this;obtain ⟨z1,z2⟩:=hC.sizes.cell hpl;obtain ⟨y1,y2⟩:=hj.setSize p sum;have fin:Zhe L B J ld w sum (Ku sq p sum) (.returned (.int .i64 sum)) (wr.setCell ⟨B.zb,p,none⟩ (.int .i64 sum)):=⟨rfl,y1,hK.trans y2 (λ _ _ f=>f)⟩;clear hC hj HS HE hF y1 y2 hK ht
       go_wp2_with fail
       go_returns
       exact fin
      | succ c=>
       have hpos:=hF.pos;obtain ⟨f1,f2,f3⟩:=hF.succ;have hle:=hF.le;have htl:t<J.length:=by omega
       have i4:(t:Int)<(Zj L J p:Int):=by omega
       have i5:(0:Int)<=(t:Int):=by omega
       have i6:(t:Int)<(J.length:Int):=by omega
       have ct:=(hC.ends.cell htl).1;have hst:=HS.out;rw [Zq,Zaz] at hst;cases hq:Vw L J ld n sq (t:Int) with
       | none=>simp [hq] at hst
       | some v=>
        obtain ⟨k1,sq1⟩:=v;simp only [hq] at hst;have cS:=IH.out wr sq t k1 sq1 hj (Zm htl) hsq hq;obtain ⟨o1,o2⟩:=Za3 n _ _ _ _ hsq hq;have HST:Hid ((if k1 = -1 then some (-1,sq1) else Zaz (Vw L J ld n) (Zq L J c (Zj L J t)) (min (sum+k1) 2001) sq1)=some (s,sz1)):=hst
        have CE:Hid (∀ w1,JAt L B w1 J ld sq1->w1.cell? ⟨B.jb,1,none⟩=some (.slice (some ⟨B.eb,0,none⟩) J.length J.length)∧w1.cell? ⟨B.eb,t,none⟩=some (.int .i64 (Zj L J t:Int))):=by
         rintro w1 ⟨nx,ρ,hC, -⟩;exact ⟨hC.head.cells.2.1,(hC.ends.cell htl).1⟩
        clear hst hC hj HS hq hsq
        by_cases hk1:k1 = -1
        ·subst hk1
         have:=HST.out;rw [if_pos rfl] at this;simp only [Option.some.injEq,Prod.mk.injEq] at this;obtain ⟨rfl,rfl⟩:=this;have:=HE.out;rw [if_pos rfl] at this;simp only [Option.some.injEq,Prod.mk.injEq] at this;obtain ⟨rfl,rfl⟩:=this;clear HE HST IH
         go_wp2_with ((go_at_call 237;refine cS.mono ?_;rintro e w3 ⟨rfl,hj3,hk3⟩))
         go_returns
         exact ⟨rfl,hj3,hK.trans hk3 (λ _ _ f=>f)⟩
        ·have:=HST.out
         rw [if_neg hk1] at this;have HST2:Hid (Zaz (Vw L J ld n) (Zq L J c (Zj L J t)) (min (sum+k1) 2001) sq1=some (s,sz1)):=this;have i7:1<=k1:=by omega
         have i8:k1<=2001:=by omega
         clear HST this o2
         go_upto_region 14 with ((go_at_call 237;refine cS.mono ?_;rintro e w3 ⟨rfl,hj3,hk3⟩;obtain ⟨g1,g2⟩:=CE.out w3 hj3))
         have hK3:=hK.trans hk3 (λ _ _ f=>f);clear HE IH hk3 hK cS CE
         by_cases hm:sum+k1<=2001
         ·rw [show min (sum+k1) 2001=sum+k1 by omega] at HST2
          go_wp2_with fail
          go_roundg c
          case measure=>omega
          case rel=>exact ⟨_,_,_,by go_num,rfl,by omega,by omega,f3,o1,hj3,hK3,HST2⟩
         ·rw [show min (sum+k1) 2001=2001 by omega] at HST2
          have hm' : 2001<sum+k1:=by omega
          go_wp2_with fail
          go_roundg c
          case measure=>omega
          case rel=>exact ⟨_,_,_,by go_num,rfl,by omega,by omega,f3,o1,hj3,hK3,HST2⟩
theorem Zvw (hv:∀ x∈J, -198<=x):Led J (ld0 J) (ld0 J) (λ x=>if 0<=x then 1 else 0):=by
 have hl:=Zuc hv;refine ⟨hl.part,hl.idem,λ x _=>Iff.rfl,λ x hx hn=>?_⟩
 by_cases h:0<=x∧at' J x<0
 ·have e:ld0 J x=at' J x:=by unfold ld0;rw [if_pos h]
  simp only [e];rw [if_neg (by omega),if_pos h.1];omega
 ·exact absurd (by unfold ld0;rw [if_neg h]) hn
theorem JJ.jat {L:List Sym} {B:JB} {J:List Int} (hv:∀ x∈J, -198<=x) (h:JJ w0 B w J J.length (λ x=>x) (λ i=>(Zj L J i:Int)) (λ i=>ld0 J i)):JAt L B w J (ld0 J) (λ _=>0):=by
 refine ⟨ld0 J,_,⟨?_,?_,h.ends,h.same,h.sizes,h.ap⟩,Zvw hv⟩
 ·refine h.head.congr (λ v h1 h2=>?_)
  unfold ld0;rw [if_neg (by omega)]
 ·have hr:=h.row
  rcases hr.2 with ⟨e,_⟩ | ⟨g,cap,cur,hv', hb,hg,h1,h2,h3,h4⟩
  ·cases e
  ·simp only [Value.slice.injEq,Option.some.injEq,Addr.mk.injEq,and_true,true_and] at hv'
   obtain ⟨rfl,rfl⟩:=hv';refine ⟨cur,_,hg,by omega,λ i hi=>?_⟩;have:=hr.cellAt i (by omega);rw [Zb hg,Zbt hi] at this;show cur[i]? = some (.int .i64 (at' J (i:Int)));rw [this,Yl J i hi]
theorem Zxz {b:List Int} (ha:Zd L a=0) (hb:Zd L b=0) (hap:ap<=99):∀ x∈jl a b ap, -198<=x:=by
 intro x hx;unfold jl at hx
 rcases List.mem_append.1 hx with e | e
 ·have:=(Zr.1 (Ze.1 ha).2.1 x e).2;omega
 ·obtain ⟨y,hy,rfl⟩:=List.mem_map.1 e
  have:=(Zr.1 (Ze.1 hb).2.1 y hy).2;unfold shF;split <;> omega
def Zch (L:List Sym) (a b:List Int) (ap:Nat) (w:World) (e:Ending) (w' : World):Prop:=Za w w' ∧
 (Zd L a≠0->e=.returned (.tuple #[.pointer none,.int .i64 0,.int .i64 (Zd L a)])) ∧
 (Zd L a=0->Zd L b≠0->e=.returned (.tuple #[.pointer none,.int .i64 0,.int .i64 (Zd L b)])) ∧
 (Zd L a=0->Zd L b=0->Zc0 L (jl a b ap) a.length=none->e=.returned (.tuple #[.pointer none,.int .i64 0,.int .i64 60])) ∧
 (Zd L a=0->Zd L b=0->∀ ld k,Zc0 L (jl a b ap) a.length=some (ld,k)->∃ B sz', e=.returned (.tuple #[.pointer (some ⟨B.jb,0,none⟩),.int .i64 k,.int .i64 0])∧JAt L B w' (jl a b ap) ld sz' ∧ Zcl (jl a b ap) ld∧(∀ f,B.Foot f->w.heap.size<=f∧f<w'.heap.size)∧∃ u,Val L (jl a b ap) ld 0 u∧k=min (u.length:Int) 2001)
theorem Zrj (h:Sg w.heap.size w b L) (hx:Zh w xo x) (hy:Zh w yo y) (hxm:x.length<=maxLen) (hym:y.length<=maxLen) (hap:ap<=99) :
  Calls prog 230 #[.pointer (some ⟨b,0,none⟩),.slice xo x.length xc,.slice yo y.length yc,.int .i64 (ap:Int)] w (Zch L x y ap w):=by
 have c1:=Xn (cap:=xc) h hx hxm;have c2:Hid (∀ w1,Za w w1->Calls prog 104 #[.pointer (some ⟨b,0,none⟩),.slice yo y.length yc] w1 λ e w' => e=.returned (.int .i64 (Zd L y))∧Za w1 w'):=λ w1 hk=>Xn (cap:=yc) (h.same hk) (hy.same hk) hym
 by_cases hz:Zd L x=0
 ·by_cases hq:Zd L y=0
  ·obtain ⟨x1,x2,x3⟩:=Ze.1 hz
   obtain ⟨y1,y2,y3⟩:=Ze.1 hq;obtain ⟨J,hJ⟩:∃ J,jl x y ap=J:=⟨_,rfl⟩;have hJl:J.length=x.length+y.length:=by rw [<- hJ];simp [jl]
   have hv:=Zxz hz hq hap;have hT:=Zcq (apart:=(ap:Int)) (by omega) x3 y3;rw [hJ] at hv hT;have p1:=Z2 x3;have p2:=Z2 y3;obtain ⟨res,hU,hR1,hR2⟩:=(Zlw hT hv (m:=x.length) (by omega) (by omega)).uni
   have CJ:Hid (∀ w1,Za w w1->Calls prog 235 #[.pointer (some ⟨b,0,none⟩),.slice xo x.length xc,.slice yo y.length yc,.int .i64 (ap:Int)] w1 λ e w' => ∃ B,e=.returned (.pointer (some ⟨B.jb,0,none⟩))∧JAt L B w' J (ld0 J) (λ _=>0)∧(∀ f,B.Foot f->w.heap.size<=f)∧Za w w'):=by
    intro w1 hk
    have hg:Sg w1.heap.size w1 b L:=by
     have:=h.same hk;obtain ⟨⟨sv,mr,s1,s2⟩,s3⟩:=this;exact ⟨⟨sv,mr,s1,λ k hk' => Nat.lt_of_lt_of_le (s2 k hk') hk.size⟩,s3⟩
    refine (Zue hg (hx.same hk) (hy.same hk) x3 y3 x1 y1 (λ z hz=>(Zr.1 y2 z hz).2) hap).mono ?_;rintro e w' ⟨B,rfl,hj⟩;rw [hJ] at hj;exact ⟨B,rfl,hj.jat hv,λ f hf=>Nat.le_trans hk.size (hj.new f hf),hk.trans' hj.kept⟩
   have CU:Hid (∀ B w1,JAt L B w1 J (ld0 J) (λ _=>0)->Calls prog 236 #[.pointer (some ⟨B.jb,0,none⟩),.int .i64 0,.int .i64 (x.length:Int)] w1 (UEnd L B J (λ _=>0) res w1)):=by
    intro B w1 hj;exact Zq1 (a:=0) hj (by omega) (by omega) (by omega) hU
   rw [hz] at c1;rw [hq] at c2;cases res with
   | none=>
    have HX:Hid (∀ w', Za w w' -> Zch L x y ap w (.returned (.tuple #[.pointer none,.int .i64 0,.int .i64 60])) w'):=by
     intro w' hk;refine ⟨hk,λ f=>absurd hz f,λ _ f=>absurd hq f,λ _ _ _=>rfl,λ _ _ ld k f=>?_⟩;rw [hJ,hR1 rfl] at f;cases f
    clear hU hR1 hR2 hz hq hx hy h hJ
    go_enter func230,ntmps230
    go_upto_region 4 with ((go_at_call 104;refine c1.mono ?_;rintro e w1 ⟨rfl,hk1⟩))
    go_upto_region 7 with ((go_at_call 104;refine (c2.out _ hk1).mono ?_;rintro e w2 ⟨rfl,hk2⟩))
    have K2:=hk1.trans' hk2
    go_wp2_with (first | (go_at_call 235;refine (CJ.out _ K2).mono ?_;rintro e w3 ⟨B,rfl,hj3,hf3,hk3⟩) | (go_at_call 236;refine (CU.out _ _ hj3).mono ?_;rintro e w4 ⟨-,he4,hk4⟩;obtain rfl:=he4 rfl;clear he4))
    have K4:Za w w4:=hk3.trans hk4 (λ i hi f=>by have:=hf3 i (JB.way_foot f);omega);exact bodyPost_ret (v:=.tuple #[.pointer none,.int .i64 0,.int .i64 60]) (by simp [results,results230,go_sem]) rfl (HX.out _ K4)
   | some ld=>
    obtain ⟨hld,k,sz', hs,hk1,hk2⟩:=hR2 ld rfl;have CS:Hid (∀ B w1,JAt L B w1 J ld (λ _=>0)->Calls prog 237 #[.pointer (some ⟨B.jb,0,none⟩),.int .i64 0] w1 (Zhe L B J ld w1 k sz')):=λ B w1 hj=>Zt7 hT hld (by omega) _ w1 _ 0 k sz' hj (Zm (p:=0) (by omega)) (λ p=>.inr ⟨by simp,by simp⟩) hs
    have HX:Hid (∀ B w', JAt L B w' J ld sz' -> (∀ f,B.Foot f->w.heap.size<=f)->Za w w' -> (k = -1->Zch L x y ap w (.returned (.tuple #[.pointer none,.int .i64 0,.int .i64 60])) w')∧(k ≠ -1->Zch L x y ap w (.returned (.tuple #[.pointer (some ⟨B.jb,0,none⟩),.int .i64 k,.int .i64 0])) w')):=by
     intro B w' hj hf hk
     have hfl:∀ f,B.Foot f->f<w'.heap.size:=by
      obtain ⟨nx,ρ,hC, -⟩:=id hj;exact λ f hf=>hC.lt hf
     refine ⟨λ e=>?_,λ e=>?_⟩
     ·refine ⟨hk,λ f=>absurd hz f,λ _ f=>absurd hq f,λ _ _ _=>rfl,λ _ _ ld k f=>?_⟩
      rw [hJ,hk1 e] at f;cases f
     ·obtain ⟨e1,u,e2,e3⟩:=hk2 e
      refine ⟨hk,λ f=>absurd hz f,λ _ f=>absurd hq f,λ _ _ f=>?_,λ _ _ ld' k' f=>?_⟩
      ·rw [hJ,e1] at f;cases f
      ·rw [hJ] at f ⊢
       rw [e1] at f;simp only [Option.some.injEq,Prod.mk.injEq] at f;obtain ⟨rfl,rfl⟩:=f;exact ⟨B,sz', rfl,hj,hld,λ f hf' => ⟨hf f hf', hfl f hf'⟩,u,e2,e3⟩
    clear hU hR1 hR2 hz hq hx hy h hJ hk1 hk2 hs
    go_enter func230,ntmps230
    go_upto_region 4 with ((go_at_call 104;refine c1.mono ?_;rintro e w1 ⟨rfl,hk1⟩))
    go_upto_region 7 with ((go_at_call 104;refine (c2.out _ hk1).mono ?_;rintro e w2 ⟨rfl,hk2⟩))
    have K2:=hk1.trans' hk2
    go_upto_region 10 with (first | (go_at_call 235;refine (CJ.out _ K2).mono ?_;rintro e w3 ⟨B,rfl,hj3,hf3,hk3⟩) | (go_at_call 236;refine (CU.out _ _ hj3).mono ?_;rintro e w4 ⟨he4, -,hk4⟩;obtain ⟨rfl,hj4⟩:=he4 ld rfl;clear he4))
    have K4:Za w w4:=hk3.trans hk4 (λ i hi f=>by have:=hf3 i (JB.way_foot f);omega)
    by_cases hk:k = -1
    ·subst hk
     go_wp2_with ((go_at_call 237;refine (CS.out _ _ hj4).mono ?_;rintro e w5 ⟨rfl,hj5,hk5⟩))
     have K5:Za w w5:=K4.trans hk5 (λ i hi f=>by
      have:=hf3 i (by rcases f with e | e | e;exact .inl e;exact .inr (.inr (.inr (.inl e)));exact .inr (.inr (.inr (.inr e))));omega)
     exact bodyPost_ret (v:=.tuple #[.pointer none,.int .i64 0,.int .i64 60]) (by simp [results,results230,go_sem]) rfl ((HX.out B w5 hj5 hf3 K5).1 (by trivial))
    ·go_wp2_with ((go_at_call 237;refine (CS.out _ _ hj4).mono ?_;rintro e w5 ⟨rfl,hj5,hk5⟩))
     have K5:Za w w5:=K4.trans hk5 (λ i hi f=>by
      have:=hf3 i (by rcases f with e | e | e;exact .inl e;exact .inr (.inr (.inr (.inl e)));exact .inr (.inr (.inr (.inr e))));omega)
     exact bodyPost_ret (v:=.tuple #[.pointer (some ⟨B.jb,0,none⟩),.int .i64 k,.int .i64 0]) (by simp [results,results230,go_sem]) rfl ((HX.out B w5 hj5 hf3 K5).2 hk)
  ·rw [hz] at c1
   have HX:Hid (∀ w', Za w w' -> Zch L x y ap w (.returned (.tuple #[.pointer none,.int .i64 0,.int .i64 (Zd L y)])) w'):=λ w' hk=>⟨hk,λ f=>absurd hz f,λ _ _=>rfl,λ _ f=>absurd f hq,λ _ f=>absurd f hq⟩;have hq' : (Zd L y == 0)=false:=by simpa using hq
   clear hz hq
   go_enter func230,ntmps230
   go_upto_region 4 with ((go_at_call 104;refine c1.mono ?_;rintro e w1 ⟨rfl,hk1⟩))
   go_wp2_with ((go_at_call 104;refine (c2.out _ hk1).mono ?_;rintro e w2 ⟨rfl,hk2⟩))
   exact bodyPost_ret (v:=.tuple #[.pointer none,.int .i64 0,.int .i64 (Zd L y)]) (by simp [results,results230,go_sem]) rfl (HX.out _ (hk1.trans' hk2))
 ·have HX:Hid (∀ w', Za w w' -> Zch L x y ap w (.returned (.tuple #[.pointer none,.int .i64 0,.int .i64 (Zd L x)])) w'):=λ w' hk=>⟨hk,λ _=>rfl,λ f=>absurd f hz,λ f=>absurd f hz,λ f=>absurd f hz⟩
  have hz' : (Zd L x == 0)=false:=by simpa using hz
  clear hz
  go_enter func230,ntmps230
  go_wp2_with ((go_at_call 104;refine c1.mono ?_;rintro e w1 ⟨rfl,hk1⟩))
  exact bodyPost_ret (v:=.tuple #[.pointer none,.int .i64 0,.int .i64 (Zd L x)]) (by simp [results,results230,go_sem]) rfl (HX.out _ hk1)
structure ZWk (Z:Array Value):Prop where
 size:Z.size=202
 var:∀ v,1<=v->v<199->Z[2+v]? = some (.int .i64 0)
 last:Z[201]? = some (.int .i64 0)
 one:Z.all (·.oneCell')=true
theorem Zbs (h:Sg n w b L) {m:Nat} (hn:n<=m):Sg m w b L:=by
 obtain ⟨⟨sv,mr,s1,s2⟩,s3⟩:=h;exact ⟨⟨sv,mr,s1,λ k hk=>Nat.lt_of_lt_of_le (s2 k hk) hn⟩,s3⟩
def Zco (L:List Sym) (a b:List Int):Int:=if Zd L a≠0 then Zd L a else Zd L b
def Zbc (L:List Sym) (a b:List Int):Bool:=decide (Zco L a b=0) && (Zc0 L (jl a b 99) a.length).isNone
theorem bad_ne (L:List Sym) (t:List Int):Ks L t≠60:=by
 induction t with
 | nil=>simp [Ks]
 | cons x r ih=>
  simp only [Ks,ne_eq];split
  ·omega
  ·split
   ·omega
   ·exact ih
theorem Znh (L:List Sym) (t:List Int):Zd L t≠60:=by
 have:=bad_ne L t;unfold Zd;split
 ·omega
 ·split
  ·exact this
  ·split <;> omega
theorem Zs4 (h:Sg w.heap.size w b L) (hx:Zh w xo x) (hy:Zh w yo y) (hxm:x.length<=maxLen) (hym:y.length<=maxLen) :
  Calls prog 216 #[.pointer (some ⟨b,0,none⟩),.slice xo x.length xc,.slice yo y.length yc] w λ e w' => e=.returned (.tuple #[.bool (Zbc L x y),.int .i64 (Zco L x y)])∧Za w w' := by
 have c:=Zrj (xc:=xc) (yc:=yc) h hx hy hxm hym (ap:=99) (by omega);clear h hx hy
 by_cases hz:Zd L x=0
 ·by_cases hq:Zd L y=0
  ·have e0:Zco L x y=0:=by simp [Zco,hz,hq]
   cases hs:Zc0 L (jl x y 99) x.length with
   | none=>
    have e1:Zbc L x y=true:=by simp [Zbc,e0,hs]
    rw [e0,e1];have c2:Calls prog 230 #[.pointer (some ⟨b,0,none⟩),.slice xo x.length xc,.slice yo y.length yc,.int .i64 99] w λ e w' => e=.returned (.tuple #[.pointer none,.int .i64 0,.int .i64 60])∧Za w w' := c.mono (λ e w' g=>⟨g.2.2.2.1 hz hq hs,g.1⟩)
    clear c hz hq hs e0 e1
    go_enter func216,ntmps216
    go_wp2_with ((go_at_call 230;refine c2.mono ?_;rintro e w1 ⟨rfl,hk⟩))
    go_ret2
    exact ⟨rfl,hk⟩
   | some v=>
    obtain ⟨ld,k⟩:=v;have e1:Zbc L x y=false:=by simp [Zbc,e0,hs]
    rw [e0,e1]
    have c2:Calls prog 230 #[.pointer (some ⟨b,0,none⟩),.slice xo x.length xc,.slice yo y.length yc,.int .i64 99] w λ e w' => (∃ j,e=.returned (.tuple #[.pointer (some ⟨j,0,none⟩),.int .i64 k,.int .i64 0]))∧Za w w' := c.mono (λ e w' g=>by
     obtain ⟨B,sz', a1,_⟩:=g.2.2.2.2 hz hq ld k hs
     exact ⟨⟨_,a1⟩,g.1⟩)
    clear c hz hq hs e0 e1
    go_enter func216,ntmps216
    go_wp2_with ((go_at_call 230;refine c2.mono ?_;rintro e w1 ⟨⟨j,rfl⟩,hk⟩))
    go_ret2
    exact ⟨rfl,hk⟩
  ·have e0:Zco L x y=Zd L y:=by simp [Zco,hz]
   have e1:Zbc L x y=false:=by simp [Zbc,e0,hq]
   rw [e0,e1];have c2:Calls prog 230 #[.pointer (some ⟨b,0,none⟩),.slice xo x.length xc,.slice yo y.length yc,.int .i64 99] w λ e w' => e=.returned (.tuple #[.pointer none,.int .i64 0,.int .i64 (Zd L y)])∧Za w w' := c.mono (λ e w' g=>⟨g.2.2.1 hz hq,g.1⟩)
   have hn:(Zd L y == 60)=false:=by simpa using Znh L y
   clear c hz hq e0 e1
   go_enter func216,ntmps216
   go_wp2_with ((go_at_call 230;refine c2.mono ?_;rintro e w1 ⟨rfl,hk⟩))
   go_ret2
   exact ⟨rfl,hk⟩
 ·have e0:Zco L x y=Zd L x:=by simp [Zco,hz]
  have e1:Zbc L x y=false:=by simp [Zbc,e0,hz]
  rw [e0,e1];have c2:Calls prog 230 #[.pointer (some ⟨b,0,none⟩),.slice xo x.length xc,.slice yo y.length yc,.int .i64 99] w λ e w' => e=.returned (.tuple #[.pointer none,.int .i64 0,.int .i64 (Zd L x)])∧Za w w' := c.mono (λ e w' g=>⟨g.2.1 hz,g.1⟩)
  have hn:(Zd L x == 60)=false:=by simpa using Znh L x
  clear c hz e0 e1
  go_enter func216,ntmps216
  go_wp2_with ((go_at_call 230;refine c2.mono ?_;rintro e w1 ⟨rfl,hk⟩))
  go_ret2
  exact ⟨rfl,hk⟩
end
abbrev Ru:=List Int × List Int
def Xe (L:List Sym) (n:Int):Bool:=if n<0 then false else match L[n.toNat]? with | some x=>x.df | none=>false
theorem Zg1 (h:i<L.length):Xe L (i:Int)=L[i].df:=by
 rw [Xe,if_neg (by omega)];simp [h]
theorem Zd4 {n:Int} (h:n<0∨(L.length:Int)<=n):Xe L n=false:=by
 unfold Xe
 rcases h with h | h
 ·simp [h]
 ·rw [if_neg (by omega),List.getElem?_eq_none (by omega)]
def Zay (t:List Int):Nat:=t.countP (λ n=>decide (n<0))
theorem Zi5 (h:k<t.length):Zay (t.take (k+1))=Zay (t.take k)+if t[k]<0 then 1 else 0:=by
 unfold Zay;rw [List.take_add_one,List.getElem?_eq_getElem h,List.countP_append];simp [List.countP_cons]
theorem Zld (t:List Int):Zay t<=t.length:=List.countP_le_length
def Kq (l:List Int) (n:Int):Bool:=decide (n<0) && !decide (n∈l)
def Vb (L:List Sym) (a x:List Int):Bool:=!Zbc L a x && decide (Zco L a x=0)
def Kw (L:List Sym) (N:Nat) (A:List Ru) (x:Ru):Nat->Bool
 | 0=>decide (N<=100)
 | 1=>decide (Zd L x.1=0) && decide (Zd L x.2=0)
 | 2=>decide (x.1.length<=200) && decide (x.2.length<=200)
 | 3=>Xe L (x.1.headD (-1))
 | 4=>decide (Zay x.1=(Zx x.1).length)
 | 5=>x.1.tail.all (λ n=>!Xe L n)
 | 6=>x.2.all (λ n=>!Kq x.1 n)
 | _=>A.all (λ a=>!Vb L a.1 x.1)
def ckB (L:List Sym) (own l:List Ru) (j n:Nat):Bool:=Kw L (own.length+l.length) (own++l.take n) (l.getD n ([],[])) j
def Yv (L:List Sym) (own l:List Ru) (j n:Nat):Prop:=(∀ i,i<j->∀ m,m<l.length->ckB L own l i m=true)∧∀ m,m<n->m<l.length->ckB L own l j m=true
def Xm (L:List Sym) (own l:List Ru) (j n:Nat):List (Int × Int):=
 if j=1 then [(71,(n:Int)),(if Zd L (l.getD n ([],[])).1=0 then Zd L (l.getD n ([],[])).2 else Zd L (l.getD n ([],[])).1, -1)]
 else if j=7 then [(77,(n:Int)),(78,(((own++l.take n).findIdx (λ a=>Vb L a.1 (l.getD n ([],[])).1):Nat):Int))]
 else [((70+j:Nat),(n:Int))]
def Ans (L:List Sym) (own l:List Ru) (ws:List (Int × Int)):Prop:=
 (ws=[]∧Yv L own l 8 0)∨∃ j n,j<8∧n<l.length∧Yv L own l j n∧ckB L own l j n=false∧ws=Xm L own l j n
theorem Yv.nil (L:List Sym) (own l:List Ru):Yv L own l 0 0:=⟨λ i hi=>absurd hi (by omega),λ m hm=>absurd hm (by omega)⟩
theorem Yv.step {own l:List Ru} (h:Yv L own l j n) (hc:ckB L own l j n=true):Yv L own l j (n+1):=
 ⟨h.1,λ m hm hl=>by
  by_cases e:m=n
  ·subst e;exact hc
  ·exact h.2 m (by omega) hl⟩
theorem Yv.next {own l:List Ru} (h:Yv L own l j n) (hn:l.length<=n):Yv L own l (j+1) 0:=
 ⟨λ i hi m hm=>by
  by_cases e:i=j
  ·subst e;exact h.2 m (by omega) hm
  ·exact h.1 i (by omega) m hm,λ m hm=>absurd hm (by omega)⟩
theorem Zez (L:List Sym) (own l:List Ru) (j n:Nat):Xm L own l j n≠[]:=by
 unfold Xm;split
 ·simp
 ·split <;> simp
theorem Ans.uniq {own l:List Ru} {a b:List (Int × Int)} (h:Ans L own l a) (k:Ans L own l b):a=b:=by
 have key:∀ {j n j' n' : Nat},n<l.length->n' < l.length->Yv L own l j n->ckB L own l j n=false->Yv L own l j' n' -> ckB L own l j' n' = false->j=j' ∧ n=n' := by
  intro j n j' n' h1 h2 u1 c1 u2 c2
  have e:j=j' := by
   rcases Nat.lt_trichotomy j j' with q | q | q
   ·have:=u2.1 j q n h1;rw [c1] at this;cases this
   ·exact q
   ·have:=u1.1 j' q n' h2;rw [c2] at this;cases this
  subst e;refine ⟨rfl,?_⟩
  rcases Nat.lt_trichotomy n n' with q | q | q
  ·have:=u2.2 n q h1;rw [c1] at this;cases this
  ·exact q
  ·have:=u1.2 n' q h2;rw [c2] at this;cases this
 rcases h with ⟨rfl,u⟩ | ⟨j,n,h1,h2,u,c,rfl⟩
 ·rcases k with ⟨rfl,_⟩ | ⟨j,n,h1,h2,u', c,rfl⟩
  ·rfl
  ·have:=u.1 j h1 n h2;rw [c] at this;cases this
 ·rcases k with ⟨rfl,u'⟩ | ⟨j', n', h1', h2', u', c', rfl⟩
  ·have:=u'.1 j h1 n h2;rw [c] at this;cases this
  ·obtain ⟨rfl,rfl⟩:=key h2 h2' u c u' c'; rfl
theorem Ans.nil {own l:List Ru} (h:Ans L own l []):∀ j,j<8->∀ n,n<l.length->ckB L own l j n=true:=by
 rcases h with ⟨_,u⟩ | ⟨j,n,_,_,_,_,e⟩
 ·exact λ j hj n hn=>u.1 j hj n hn
 ·exact absurd e.symm (Zez _ _ _ _ _)
theorem Ans.of_all {own l:List Ru} (h:∀ j,j<8->∀ n,n<l.length->ckB L own l j n=true):Ans L own l []:=.inl ⟨rfl,h,λ m hm=>absurd hm (by omega)⟩
theorem Zt5 {b:List Int} (ha:Zd L a=0) (hb:Zd L b=0):Zbc L a b=Zbc L b a:=by
 have one:∀ {a b:List Int},Zd L a=0->Zd L b=0->(Zc0 L (jl a b 99) a.length).isNone=true->(Zc0 L (jl b a 99) b.length).isNone=true:=by
  intro a b ha hb h
  rcases com_u (ap:=99) (Nat.le_refl _) hb ha with e | ⟨u,hu⟩
  ·have e' : Zc0 L (jl b a 99) b.length=none:=e
   rw [e'];rfl
  ·obtain ⟨v,⟨ld,k,h1,_⟩,_⟩:=Zui ha hb hu
   rw [h1] at h;cases h
 have e1:Zco L a b=0:=by simp [Zco,ha,hb]
 have e2:Zco L b a=0:=by simp [Zco,ha,hb]
 unfold Zbc;rw [e1,e2];simp only [decide_true,Bool.true_and];cases h1:(Zc0 L (jl a b 99) a.length).isNone with
 | true=>exact (one ha hb h1).symm
 | false=>
  cases h2:(Zc0 L (jl b a 99) b.length).isNone with
  | false=>rfl
  | true=>have:=one hb ha h2;rw [h1] at this;cases this
theorem Zmj (ha:Zd L a=0) (hx:Zd L x=0):Vb L a x = !Zbc L x a:=by
 have e1:Zco L a x=0:=by simp [Zco,ha,hx]
 rw [Vb,e1,Zt5 ha hx];simp
theorem Zhw {x:Int} (h:x<(L.length:Int)) (M:List Sym):arN (L++M) x=arN L x:=by
 unfold arN;split
 ·rfl
 ·rw [List.getElem?_append_left (by omega)]
theorem Zif (M:List Sym):∀ (t:List Int) (k:Nat),(∀ x∈t,x<(L.length:Int))->Yk (L++M) k t=Yk L k t
 | [],k,_=>by cases k <;> rfl
 | x :: r,0,_=>rfl
 | x :: r,k+1,h=>by
  rw [Yk,Yk,Zhw (h x (by simp))];exact Zif M r _ (λ y hy=>h y (by simp [hy]))
theorem Zgj (h:Zd L t=0) (M:List Sym):Zd (L++M) t=0:=by
 obtain ⟨h1,h2,h3⟩:=Ze.1 h;have h4:=Zr.1 h2;refine Ze.2 ⟨h1,Zr.2 (λ x hx=>⟨?_,(h4 x hx).2⟩),?_⟩
 ·have:=(h4 x hx).1;simp;omega
 ·show Yk _ _ _=_
  rw [Zif M t 1 (λ x hx=>(h4 x hx).1)];exact h3
section
open Go.RowKit Go.Deep
structure Arg (w:World) (ao:Option Addr) (xs:List Int) (cap:Nat):Prop where
 at' : Zh w ao xs
 cap' : xs.length<=cap
 nil:ao=none->xs.length=0∧cap=0
 size:xs.length * 8<=140737488351232
section
variable {H : Type} {enc : TypeId × Value -> H} {w : World} {spare : Nat -> Bool} {held : Bool}
structure CaseIs (w:World) (v:Value) (lo:Option Addr) (ll lc:Nat) (ls:List Sym) (so:Option Addr) (tc:Nat) (t:List Int) (at' : Int) (uo:Option Addr) (uc:Nat) (u:List Int) (po:Option Addr) (pc:Nat) (path:List Int):Prop where
 eq:v=.agg #[.slice lo ll lc,.slice so t.length tc,.int .i64 at', .slice uo u.length uc,.slice po path.length pc]
 syms:Xw w lo ll ls
 sl:ll<=maxLen
 t' : Arg w so t tc
 u' : Arg w uo u uc
 p' : Arg w po path pc
end
end
section
open Go.RowKit
attribute [local go_sem ↓] Go.wp_at_zero Go.wp_at_succ
theorem Arg.same {xs:List Int} {cap:Nat} (h:Arg w ao xs cap) (hk:Za w w'):Arg w' ao xs cap:=⟨h.at'.same hk,h.cap', h.nil,h.size⟩
def RuAt (w:World) (b off:Nat) (x:Ru):Prop:=
 ∃ ao ac bo bc,w.cell? ⟨b,off,none⟩=some (.slice ao x.1.length ac)∧w.cell? ⟨b,off+1,none⟩=some (.slice bo x.2.length bc)∧Arg w ao x.1 ac∧Arg w bo x.2 bc
def Vh (w:World) (lo:Option Addr) (l:List Ru):Prop:=
 l=[]∨∃ b off,lo=some ⟨b,off,none⟩∧b<w.heap.size∧∀ i (h:i<l.length),RuAt w b (off+i * 2) l[i]
theorem RuAt.same {x:Ru} (h:RuAt w b off x) (hb:b<w.heap.size) (hk:Za w w'):RuAt w' b off x:=by
 obtain ⟨ao,ac,bo,bc,h1,h2,h3,h4⟩:=h;exact ⟨ao,ac,bo,bc,(hk.cell (p:=⟨b,off,none⟩) hb (λ f=>f)).trans h1,(hk.cell (p:=⟨b,off+1,none⟩) hb (λ f=>f)).trans h2,h3.same hk,h4.same hk⟩
theorem Vh.same {l:List Ru} (h:Vh w lo l) (hk:Za w w'):Vh w' lo l:=by
 refine h.imp id ?_;rintro ⟨b,off,rfl,hb,hc⟩;exact ⟨b,off,rfl,Nat.lt_of_lt_of_le hb hk.size,λ i hi=>(hc i hi).same hb hk⟩
theorem Vh.get {l:List Ru} (h:Vh w lo l) (hi:i<l.length):∃ b off,lo=some ⟨b,off,none⟩∧b<w.heap.size∧RuAt w b (off+i * 2) l[i]:=by
 rcases h with rfl | ⟨b,off,e,hb,hc⟩
 ·simp at hi
 ·exact ⟨b,off,e,hb,hc i hi⟩
structure StR (w:World) (b bs:Nat) (ro:Option Addr) (rc:Nat) (L:List Sym) (R:List Ru):Prop where
 blk:w.heap[b]? = some (.cells #[.pointer (some ⟨bs,0,none⟩),.slice ro R.length rc] 113 (0,0))
 sig:Sg w.heap.size w bs L
 rs:Vh w ro R
 nil:ro=none->rc=0
 le:R.length<=100
 ok:∀ x∈R,Zd L x.1=0
theorem StR.same {R:List Ru} (h:StR w b bs ro rc L R) (hk:Za w w'):StR w' b bs ro rc L R:=
 ⟨hk.at0 h.blk,Zbs (h.sig.same hk) hk.size,h.rs.same hk,h.nil,h.le,h.ok⟩
theorem StR.cells {R:List Ru} (h:StR w b bs ro rc L R):w.cell? ⟨b,0,none⟩=some (.pointer (some ⟨bs,0,none⟩))∧w.cell? ⟨b,1,none⟩=some (.slice ro R.length rc):=by
 have h0:=Zb h.blk 0;have h1:=Zb h.blk 1;simp only [List.getElem?_toArray,List.getElem?_cons_zero,List.getElem?_cons_succ] at h0 h1;exact ⟨h0,h1⟩
theorem Vc {p:Addr} (h:w.cell? p=some v) (o:Obj):(w.alloc o).cell? p=some v:=by
 rw [World.cell?_alloc_some _ _ _ (by rw [h];rfl),h]
theorem Zo (w:World) (o o' : Obj):((w.alloc o).alloc o').heap[w.heap.size+1]? = some o' := by
 have:=heap_alloc_new (w.alloc o) o'
 rwa [World.size_alloc] at this
theorem Zne {lb len:Nat} {bo:Option Addr} {al ac bl bc:Nat} (h0:w.cell? ⟨lb,off+n * 2,none⟩=some (.slice ao al ac)) (h1:w.cell? ⟨lb,off+n * 2+1,none⟩=some (.slice bo bl bc)) (hn:n<len) :
  Calls prog 209 #[.agg #[.pointer (some ⟨b,0,none⟩),.slice (some ⟨lb,off,none⟩) len lc,.int .i64 (n:Int)]] w λ e w' => e=.returned (.agg #[.slice ao al ac,.slice bo bl bc])∧Za w w' := by
 have i1:(0:Int)<=(n:Int):=by omega
 have i2:(n:Int)<(len:Int):=by omega
 have H0:=λ o o' => Vc (Vc h0 o) o';have H1:=λ o o' => Vc (Vc h1 o) o';clear h0 h1
 go_enter func209,ntmps209
 go_wp2;exact bodyPost_ret (v:=.agg #[.slice ao al ac,.slice bo bl bc]) (by simp [results,results209,go_sem]) rfl ⟨rfl,((Zc.refl _ w).alloc _).alloc _⟩
theorem Zd1 (w:World) (b:Nat) (lo:Option Addr) (ll lc:Nat) (why:Value) (hw:why=.nilIface∨∃ t v,why=.iface t v) (n:Nat) (c:Int) :
  Calls prog 210 #[.agg #[.pointer (some ⟨b,0,none⟩),.slice lo ll lc,.int .i64 (n:Int)],.int .i64 c,why] w λ e w' => ∃ k,e=.returned (.iface 114 (.pointer (some ⟨k,0,none⟩)))∧w'.heap[k]? = some (.cells #[.int .i64 c,.int .i64 (n:Int),why] 116 (0,0))∧Za w w' := by
 rcases hw with rfl | ⟨t,v,rfl⟩
 ·go_enter func210,ntmps210
  go_wp2;go_ret;exact ⟨_,rfl,Zo _ _ _,((Zc.refl _ w).alloc _).alloc _⟩
 ·go_enter func210,ntmps210
  go_wp2;go_ret;exact ⟨_,rfl,Zo _ _ _,((Zc.refl _ w).alloc _).alloc _⟩
theorem Zft (w:World) (b:Nat) (lo:Option Addr) (ll lc n:Nat) (c:Int) (h:Bool) :
  Calls prog 208 #[.agg #[.pointer (some ⟨b,0,none⟩),.slice lo ll lc,.int .i64 (n:Int)],.bool h,.int .i64 c] w λ e w' => ∃ v,e=.returned v∧Zn w' (if h=true then [(0, -1)] else [(c,(n:Int))]) v∧Za w w' := by
 cases h
 ·have cF:=Zd1
  go_enter func208,ntmps208
  go_wp2_with ((go_at_call 210;refine (cF _ _ _ _ _ _ (.inl rfl) _ _).mono ?_;rintro e w1 ⟨k,rfl,hk1,hk2⟩))
  go_ret;exact ⟨_,rfl,.inr ⟨by omega,k,_,rfl,hk1,rfl⟩,Za.trans' ((Zc.refl _ w).alloc _) hk2⟩
 ·go_enter func208,ntmps208
  go_wp2;go_ret;exact ⟨_,rfl,.inl ⟨rfl,rfl,rfl⟩,(Zc.refl _ w).alloc _⟩
theorem Zn2 (h:Sg n w b L) {x:Int} (hx:x<0∨(L.length:Int)<=x):Calls prog 128 #[.pointer (some ⟨b,0,none⟩),.int .i64 x] w λ e w' => e=.returned (.tuple #[.agg #[.string ⟨#[]⟩,.int .i64 0,.bool false],.int .i64 14])∧Za w w' := by
 obtain ⟨⟨sv,mr,h1,_⟩,ha⟩:=h;exact Zu3 h1 x hx
theorem Zdy (h:Sg n w b L) (hi:i<L.length):Calls prog 128 #[.pointer (some ⟨b,0,none⟩),.int .i64 (i:Int)] w λ e w' => e=.returned (.tuple #[.agg #[.string L[i].name,.int .i64 L[i].ar,.bool L[i].df],.int .i64 0])∧Za w w' := by
 obtain ⟨⟨sv,mr,h1,_⟩,ha⟩:=h;exact Zn4 h1 i hi
theorem Zbh {R:List Ru} (h:StR w b bs ro rc L R) (lo:Option Addr) (ll lc n:Nat) (x:Int) :
  Calls prog 211 #[.agg #[.pointer (some ⟨b,0,none⟩),.slice lo ll lc,.int .i64 (n:Int)],.int .i64 x] w λ e w' => e=.returned (.bool (Xe L x))∧Za w w' := by
 have K:∀ o,Za w (w.alloc o):=λ o=>(Zc.refl _ w).alloc o;have C:=λ o=>(h.same (K o)).cells.1
 by_cases hx:x<0∨(L.length:Int)<=x
 ·have H1:Hid (Xe L x=false):=Zd4 hx
  have c:=λ o=>Zn2 (h.same (K o)).sig hx;clear K h
  go_enter func211,ntmps211
  go_wp2_with ((go_at_call 128;refine (c _).mono ?_;rintro e w' ⟨rfl,hk⟩))
  go_ret;exact ⟨by rw [H1.out];rfl,Zc.alloc (Za.trans' ((Zc.refl _ w).alloc _) hk) _⟩
 ·obtain ⟨i,rfl⟩:∃ i:Nat,x=(i:Int):=⟨x.toNat,by omega⟩
  have hi:i<L.length:=by omega
  have H1:Hid (Xe L (i:Int)=L[i].df):=Zg1 hi;have c:=λ o=>Zdy (h.same (K o)).sig hi;clear K h
  go_enter func211,ntmps211
  go_wp2_with ((go_at_call 128;refine (c _).mono ?_;rintro e w' ⟨rfl,hk⟩))
  go_ret;exact ⟨by rw [H1.out];rfl,Zc.alloc (Za.trans' ((Zc.refl _ w).alloc _) hk) _⟩
theorem Vd (a d:Option Addr) (b c e f:Nat) (w:World):(Instr.field 90 (.agg #[.slice a b c,.slice d e f]) 0).run prog w=.ok (.slice a b c) w:=by kernel_rfl
theorem Xt (a d:Option Addr) (b c e f:Nat) (w:World):(Instr.field 90 (.agg #[.slice a b c,.slice d e f]) 1).run prog w=.ok (.slice d e f) w:=by kernel_rfl
def Vi (L:List Sym) (R l:List Ru) (j n:Nat):List (Int × Int):=if ckB L R l j n=true then [(0, -1)] else Xm L R l j n
structure Cnd (w:World) (b bs:Nat) (ro:Option Addr) (rc:Nat) (L:List Sym) (R:List Ru) (lo:Option Addr) (l:List Ru) (n:Nat):Prop where
 st:StR w b bs ro rc L R
 ls:Vh w lo l
 ll:l.length<=140737488355328
 hn:n<l.length
def Zqm (w:World) (k b:Nat) (lo:Option Addr) (ll lc n:Nat):Prop:=w.cell? ⟨k,0,none⟩=some (.pointer (some ⟨b,0,none⟩))∧w.cell? ⟨k,1,none⟩=some (.slice lo ll lc)∧w.cell? ⟨k,2,none⟩=some (.int .i64 (n:Int))
theorem Zq5 (w:World) (b:Nat) (lo:Option Addr) (ll lc n:Nat) (t:TypeId):Zqm (w.alloc (.cells #[.pointer (some ⟨b,0,none⟩),.slice lo ll lc,.int .i64 (n:Int)] t)) w.heap.size b lo ll lc n:=by
 have h:=heap_alloc_new w (.cells #[.pointer (some ⟨b,0,none⟩),.slice lo ll lc,.int .i64 (n:Int)] t);exact ⟨Zb h 0,Zb h 1,Zb h 2⟩
theorem Zqm.same (h:Zqm w k b lo ll lc n) (hb:k<w.heap.size) (hk:Za w w'):Zqm w' k b lo ll lc n:=
 ⟨(hk.cell (p:=⟨k,0,none⟩) hb (λ f=>f)).trans h.1,(hk.cell (p:=⟨k,1,none⟩) hb (λ f=>f)).trans h.2.1,(hk.cell (p:=⟨k,2,none⟩) hb (λ f=>f)).trans h.2.2⟩
theorem Zcv (h1 : -9223372036854775808<=z) (h2:z<9223372036854775808):IntKind.i64.wrap z=z:=by
 simp [IntKind.wrap,IntKind.bits,IntKind.signed];omega
theorem Zum {R:List Ru} {l:List Ru} (h:Cnd w b bs ro rc L R lo l n) :
  Calls prog 169 #[.agg #[.pointer (some ⟨b,0,none⟩),.slice lo l.length lc,.int .i64 (n:Int)]] w λ e w' => ∃ v,e=.returned v∧Zn w' (Vi L R l 0 n) v∧Za w w' := by
 have W1:Za w (w.alloc (.cells #[.pointer (some ⟨b,0,none⟩),.slice lo l.length lc,.int .i64 (n:Int)] 236)):=(Zc.refl _ w).alloc _;have B1:=Zq5 w b lo l.length lc n 236;have C1:=(h.st.same W1).cells;have hz:w.heap.size<(w.alloc (.cells #[.pointer (some ⟨b,0,none⟩),.slice lo l.length lc,.int .i64 (n:Int)] 236)).heap.size:=by simp
 have HS:Hid (∀ ww,Za (w.alloc (.cells #[.pointer (some ⟨b,0,none⟩),.slice lo l.length lc,.int .i64 (n:Int)] 236)) ww->(ww.cell? ⟨b,0,none⟩=some (.pointer (some ⟨bs,0,none⟩))∧ww.cell? ⟨b,1,none⟩=some (.slice ro R.length rc))∧ww.cell? ⟨w.heap.size,0,none⟩=some (.pointer (some ⟨b,0,none⟩))∧ww.cell? ⟨w.heap.size,1,none⟩=some (.slice lo l.length lc)∧ww.cell? ⟨w.heap.size,2,none⟩=some (.int .i64 (n:Int))):=λ ww hk=>⟨((h.st.same W1).same hk).cells,B1.same hz hk⟩;have hR:=h.st.le;have hl:=h.ll;have CC0:=HS.out _ (Zc.refl _ _)
 have E:Hid (∀ q:Bool,q=decide (R.length+l.length<=100)->(if q=true then [(0, -1)] else [(70,(n:Int))])=Vi L R l 0 n):=by
  intro q hq;subst hq;simp only [Vi,ckB,Kw,Xm];split <;> simp_all
 have Q:Hid (decide (IntKind.i64.wrap ((R.length:Int)+(l.length:Int))<=100)=decide (R.length+l.length<=100)):=by
  show _=_;rw [Zcv (by omega) (by omega)];congr 1;exact propext ⟨λ h=>by omega,λ h=>by omega⟩
 clear B1 C1 hz
 go_enter func169,ntmps169
 go_wp2
 go_region_held3 (λ w' => (w'.cell? ⟨b,0,none⟩=some (.pointer (some ⟨bs,0,none⟩))∧w'.cell? ⟨b,1,none⟩=some (.slice ro R.length rc))∧w'.cell? ⟨w.heap.size,0,none⟩=some (.pointer (some ⟨b,0,none⟩))∧w'.cell? ⟨w.heap.size,1,none⟩=some (.slice lo l.length lc)∧w'.cell? ⟨w.heap.size,2,none⟩=some (.int .i64 (n:Int))) (first | exact cc1 | exact CC0) ((go_at_call 208;refine (Zft _ _ _ _ _ _ _ _).mono ?_;rintro e w2 ⟨v,rfl,hv,hk2⟩;have cc1:=HS.out _ (Za.trans' (Zc.drew (Zc.refl _ _)) hk2)))
 go_wp2;go_ret;exact ⟨_,rfl,by rw [<- E.out _ Q.out];exact hv,Za.trans' (Zc.drew W1) hk2⟩
theorem Cnd.opened {R:List Ru} {l:List Ru} (h:Cnd w b bs ro rc L R lo l n) (lc:Nat) :
  ∃ lb off ao ac bo bc x,lo=some ⟨lb,off,none⟩∧x=l.getD n ([],[])∧Za w (w.alloc (.cells #[.pointer (some ⟨b,0,none⟩),.slice (some ⟨lb,off,none⟩) l.length lc,.int .i64 (n:Int)] 236))∧(((w.alloc (.cells #[.pointer (some ⟨b,0,none⟩),.slice (some ⟨lb,off,none⟩) l.length lc,.int .i64 (n:Int)] 236)).cell? ⟨b,0,none⟩=some (.pointer (some ⟨bs,0,none⟩))∧(w.alloc (.cells #[.pointer (some ⟨b,0,none⟩),.slice (some ⟨lb,off,none⟩) l.length lc,.int .i64 (n:Int)] 236)).cell? ⟨b,1,none⟩=some (.slice ro R.length rc))∧((w.alloc (.cells #[.pointer (some ⟨b,0,none⟩),.slice (some ⟨lb,off,none⟩) l.length lc,.int .i64 (n:Int)] 236)).cell? ⟨w.heap.size,0,none⟩=some (.pointer (some ⟨b,0,none⟩))∧(w.alloc (.cells #[.pointer (some ⟨b,0,none⟩),.slice (some ⟨lb,off,none⟩) l.length lc,.int .i64 (n:Int)] 236)).cell? ⟨w.heap.size,1,none⟩=some (.slice (some ⟨lb,off,none⟩) l.length lc)∧(w.alloc (.cells #[.pointer (some ⟨b,0,none⟩),.slice (some ⟨lb,off,none⟩) l.length lc,.int .i64 (n:Int)] 236)).cell? ⟨w.heap.size,2,none⟩=some (.int .i64 (n:Int)))∧(w.alloc (.cells #[.pointer (some ⟨b,0,none⟩),.slice (some ⟨lb,off,none⟩) l.length lc,.int .i64 (n:Int)] 236)).cell? ⟨lb,off+n * 2,none⟩=some (.slice ao x.1.length ac)∧(w.alloc (.cells #[.pointer (some ⟨b,0,none⟩),.slice (some ⟨lb,off,none⟩) l.length lc,.int .i64 (n:Int)] 236)).cell? ⟨lb,off+n * 2+1,none⟩=some (.slice bo x.2.length bc)) ∧
   Hid (∀ ww,Za (w.alloc (.cells #[.pointer (some ⟨b,0,none⟩),.slice (some ⟨lb,off,none⟩) l.length lc,.int .i64 (n:Int)] 236)) ww->(ww.cell? ⟨b,0,none⟩=some (.pointer (some ⟨bs,0,none⟩))∧ww.cell? ⟨b,1,none⟩=some (.slice ro R.length rc))∧(ww.cell? ⟨w.heap.size,0,none⟩=some (.pointer (some ⟨b,0,none⟩))∧ww.cell? ⟨w.heap.size,1,none⟩=some (.slice (some ⟨lb,off,none⟩) l.length lc)∧ww.cell? ⟨w.heap.size,2,none⟩=some (.int .i64 (n:Int)))∧ww.cell? ⟨lb,off+n * 2,none⟩=some (.slice ao x.1.length ac)∧ww.cell? ⟨lb,off+n * 2+1,none⟩=some (.slice bo x.2.length bc)) ∧
   Hid (∀ ww,Za (w.alloc (.cells #[.pointer (some ⟨b,0,none⟩),.slice (some ⟨lb,off,none⟩) l.length lc,.int .i64 (n:Int)] 236)) ww->Arg ww ao x.1 ac∧Arg ww bo x.2 bc∧StR ww b bs ro rc L R) ∧
   Hid (∀ ww,Za (w.alloc (.cells #[.pointer (some ⟨b,0,none⟩),.slice (some ⟨lb,off,none⟩) l.length lc,.int .i64 (n:Int)] 236)) ww->Calls prog 209 #[.agg #[.pointer (some ⟨b,0,none⟩),.slice (some ⟨lb,off,none⟩) l.length lc,.int .i64 (n:Int)]] ww λ e w' => e=.returned (.agg #[.slice ao x.1.length ac,.slice bo x.2.length bc])∧Za (w.alloc (.cells #[.pointer (some ⟨b,0,none⟩),.slice (some ⟨lb,off,none⟩) l.length lc,.int .i64 (n:Int)] 236)) w') ∧
   Hid (∀ ww q c,Za (w.alloc (.cells #[.pointer (some ⟨b,0,none⟩),.slice (some ⟨lb,off,none⟩) l.length lc,.int .i64 (n:Int)] 236)) ww->Calls prog 208 #[.agg #[.pointer (some ⟨b,0,none⟩),.slice (some ⟨lb,off,none⟩) l.length lc,.int .i64 (n:Int)],.bool q,.int .i64 c] ww λ e w' => ∃ v,e=.returned v∧Zn w' (if q=true then [(0, -1)] else [(c,(n:Int))]) v∧Za (w.alloc (.cells #[.pointer (some ⟨b,0,none⟩),.slice (some ⟨lb,off,none⟩) l.length lc,.int .i64 (n:Int)] 236)) w'):=by
 obtain ⟨lb,off,rfl,hlb,hr⟩:=h.ls.get h.hn;obtain ⟨x,hx⟩:∃ x,x=l[n]'h.hn:=⟨_,rfl⟩;rw [<- hx] at hr;obtain ⟨ao,ac,bo,bc,r0,r1,A1,A2⟩:=hr;have e:x=l.getD n ([],[]):=by rw [hx];simp [List.getD,h.hn]
 have hn:=h.hn;obtain ⟨wb,hwb⟩:∃ wb,wb=w.alloc (.cells #[.pointer (some ⟨b,0,none⟩),.slice (some ⟨lb,off,none⟩) l.length lc,.int .i64 (n:Int)] 236):=⟨_,rfl⟩;have W0:Za w wb:=hwb ▸ (Zc.refl _ w).alloc _;have B1:Zqm wb w.heap.size b (some ⟨lb,off,none⟩) l.length lc n:=hwb ▸ Zq5 w b _ l.length lc n _;have hz:w.heap.size<wb.heap.size:=by rw [hwb];simp
 have HS:∀ ww,Za wb ww->(ww.cell? ⟨b,0,none⟩=some (.pointer (some ⟨bs,0,none⟩))∧ww.cell? ⟨b,1,none⟩=some (.slice ro R.length rc))∧(ww.cell? ⟨w.heap.size,0,none⟩=some (.pointer (some ⟨b,0,none⟩))∧ww.cell? ⟨w.heap.size,1,none⟩=some (.slice (some ⟨lb,off,none⟩) l.length lc)∧ww.cell? ⟨w.heap.size,2,none⟩=some (.int .i64 (n:Int)))∧ww.cell? ⟨lb,off+n * 2,none⟩=some (.slice ao x.1.length ac)∧ww.cell? ⟨lb,off+n * 2+1,none⟩=some (.slice bo x.2.length bc):=λ ww hk=>⟨((h.st.same W0).same hk).cells,B1.same hz hk,((W0.trans' hk).cell (p:=⟨lb,off+n * 2,none⟩) hlb (λ f=>f)).trans r0,((W0.trans' hk).cell (p:=⟨lb,off+n * 2+1,none⟩) hlb (λ f=>f)).trans r1⟩;refine ⟨lb,off,ao,ac,bo,bc,x,rfl,e,?_⟩;rw [<- hwb];refine ⟨W0,HS wb (Zc.refl _ _),HS,λ ww hk=>⟨(A1.same W0).same hk,(A2.same W0).same hk,(h.st.same W0).same hk⟩,λ ww hk=>?_,λ ww q c hk=>?_⟩
 ·obtain ⟨_,_,g0,g1⟩:=HS ww hk
  exact (Zne g0 g1 hn).mono (λ e w' ⟨q1,q2⟩=>⟨q1,hk.trans' q2⟩)
 ·exact (Zft ww b _ _ _ n c q).mono (λ e w' ⟨v,q1,q2,q3⟩=>⟨v,q1,q2,hk.trans' q3⟩)
theorem Zwn {R:List Ru} {l:List Ru} (h:Cnd w b bs ro rc L R lo l n) (hu:Yv L R l 2 n) :
  Calls prog 171 #[.agg #[.pointer (some ⟨b,0,none⟩),.slice lo l.length lc,.int .i64 (n:Int)]] w λ e w' => ∃ v,e=.returned v∧Zn w' (Vi L R l 2 n) v∧Za w w' := by
 obtain ⟨lb,off,ao,ac,bo,bc,x,rfl,hx,W0,CC0,HS,HA,CR,CU⟩:=h.opened lc;have W1:Za (w.alloc (.cells #[.pointer (some ⟨b,0,none⟩),.slice (some ⟨lb,off,none⟩) l.length lc,.int .i64 (n:Int)] 236)) (w.alloc (.cells #[.pointer (some ⟨b,0,none⟩),.slice (some ⟨lb,off,none⟩) l.length lc,.int .i64 (n:Int)] 236)).drew:=Zc.drew (Zc.refl _ _);have f0:=Vd;have f1:=Xt
 have E:Hid (∀ q:Bool,(q=true ↔ x.1.length<=200∧x.2.length<=200)->(if q=true then [(0, -1)] else [(72,(n:Int))])=Vi L R l 2 n):=by
  intro q hq
  have e1:q=(decide (x.1.length<=200) && decide (x.2.length<=200)):=by
   rw [<- Bool.decide_and];cases q <;> simp_all
  subst e1;simp only [Vi,ckB,Kw,Xm,<- hx];rfl
 have s1:=((HA.out _ (Zc.refl _ _)).1).size;have s2:=((HA.out _ (Zc.refl _ _)).2.1).size;clear h hu hx
 go_enter func171,ntmps171
 go_wp2
 go_region_held3 (λ w' => (w'.cell? ⟨b,0,none⟩=some (.pointer (some ⟨bs,0,none⟩))∧w'.cell? ⟨b,1,none⟩=some (.slice ro R.length rc))∧(w'.cell? ⟨w.heap.size,0,none⟩=some (.pointer (some ⟨b,0,none⟩))∧w'.cell? ⟨w.heap.size,1,none⟩=some (.slice (some ⟨lb,off,none⟩) l.length lc)∧w'.cell? ⟨w.heap.size,2,none⟩=some (.int .i64 (n:Int)))∧w'.cell? ⟨lb,off+n * 2,none⟩=some (.slice ao x.1.length ac)∧w'.cell? ⟨lb,off+n * 2+1,none⟩=some (.slice bo x.2.length bc)) (first | exact cc1 | exact CC0) ((go_at_call 209;refine (CR.out _ (by first | exact hw1 | exact W1)).mono ?_;rintro e w1 ⟨rfl,hw1⟩;have cc1:=HS.out _ hw1))
 all_goals
  go_wp2_with ((go_at_call 208;refine (CU.out _ _ _ (by first | exact hw1 | exact W1)).mono ?_;rintro e w2 ⟨v,rfl,hv,hw2⟩;have cc1:=HS.out _ hw2))
 all_goals
  go_ret;exact ⟨_,rfl,by rw [<- E.out _ ?_];exact hv;simp;first | omega | (split <;> omega),W0.trans' hw2⟩
theorem Zws {R:List Ru} {l:List Ru} (h:Cnd w b bs ro rc L R lo l n) (hu:Yv L R l 3 n) :
  Calls prog 172 #[.agg #[.pointer (some ⟨b,0,none⟩),.slice lo l.length lc,.int .i64 (n:Int)]] w λ e w' => ∃ v,e=.returned v∧Zn w' (Vi L R l 3 n) v∧Za w w' := by
 obtain ⟨lb,off,ao,ac,bo,bc,x,rfl,hx,W0,CC0,HS,HA,CR,CU⟩:=h.opened lc;have W1:Za (w.alloc (.cells #[.pointer (some ⟨b,0,none⟩),.slice (some ⟨lb,off,none⟩) l.length lc,.int .i64 (n:Int)] 236)) (w.alloc (.cells #[.pointer (some ⟨b,0,none⟩),.slice (some ⟨lb,off,none⟩) l.length lc,.int .i64 (n:Int)] 236)).drew:=Zc.drew (Zc.refl _ _);have f0:=Vd;have f1:=Xt
 have hc:Zd L x.1=0:=by
  have:=hu.1 1 (by omega) n h.hn;simp only [ckB,Kw,<- hx,Bool.and_eq_true,decide_eq_true_eq] at this;exact this.1
 have hp:0<x.1.length:=Z2 (Ze.1 hc).2.2
 have E:Hid (∀ q:Bool,q=Xe L x.1[0]->(if q=true then [(0, -1)] else [(73,(n:Int))])=Vi L R l 3 n):=by
  intro q hq
  have e1:x.1.headD (-1)=x.1[0]:=by
   clear CC0 HS HA CR CU W0 W1 hc hx h hu;obtain ⟨x1,x2⟩:=x;cases x1 with
   | nil=>simp at hp
   | cons y r=>simp
  subst hq;simp only [Vi,ckB,Kw,Xm,<- hx,e1];rfl
 obtain ⟨ab,ao', rfl,hab⟩:∃ ab ao', ao=some ⟨ab,ao', none⟩∧Hid (∀ ww,Za (w.alloc (.cells #[.pointer (some ⟨b,0,none⟩),.slice (some ⟨lb,off,none⟩) l.length lc,.int .i64 (n:Int)] 236)) ww->ww.cell? ⟨ab,ao', none⟩=some (.int .i64 x.1[0])):=by
  obtain ⟨ab,ao', e,hlt,hc⟩:=((HA.out _ (Zc.refl _ _)).1).at'.get hp;exact ⟨ab,ao', e,λ ww hk=>(hk.cell (p:=⟨ab,ao', none⟩) hlt (λ f=>f)).trans hc⟩
 have CD:Hid (∀ ww z,Za (w.alloc (.cells #[.pointer (some ⟨b,0,none⟩),.slice (some ⟨lb,off,none⟩) l.length lc,.int .i64 (n:Int)] 236)) ww->Calls prog 211 #[.agg #[.pointer (some ⟨b,0,none⟩),.slice (some ⟨lb,off,none⟩) l.length lc,.int .i64 (n:Int)],.int .i64 z] ww λ e w' => e=.returned (.bool (Xe L z))∧Za (w.alloc (.cells #[.pointer (some ⟨b,0,none⟩),.slice (some ⟨lb,off,none⟩) l.length lc,.int .i64 (n:Int)] 236)) w'):=λ ww z hk=>(Zbh (HA.out ww hk).2.2 _ _ _ _ _).mono (λ e w' ⟨q1,q2⟩=>⟨q1,hk.trans' q2⟩);have i1:(0:Int)<(x.1.length:Int):=by omega
 have CC0:=And.intro (hab.out _ (Zc.refl _ _)) CC0;have HS' : Hid (∀ ww,Za (w.alloc (.cells #[.pointer (some ⟨b,0,none⟩),.slice (some ⟨lb,off,none⟩) l.length lc,.int .i64 (n:Int)] 236)) ww->ww.cell? ⟨ab,ao', none⟩=some (.int .i64 x.1[0])∧(ww.cell? ⟨b,0,none⟩=some (.pointer (some ⟨bs,0,none⟩))∧ww.cell? ⟨b,1,none⟩=some (.slice ro R.length rc))∧(ww.cell? ⟨w.heap.size,0,none⟩=some (.pointer (some ⟨b,0,none⟩))∧ww.cell? ⟨w.heap.size,1,none⟩=some (.slice (some ⟨lb,off,none⟩) l.length lc)∧ww.cell? ⟨w.heap.size,2,none⟩=some (.int .i64 (n:Int)))∧ww.cell? ⟨lb,off+n * 2,none⟩=some (.slice (some ⟨ab,ao', none⟩) x.1.length ac)∧ww.cell? ⟨lb,off+n * 2+1,none⟩=some (.slice bo x.2.length bc)):=λ ww hk=>⟨hab.out ww hk,HS.out ww hk⟩;clear h hu hx hab HS hc
 go_enter func172,ntmps172
 go_wp2
 go_region_held3 (λ w' => w'.cell? ⟨ab,ao', none⟩=some (.int .i64 x.1[0])∧(w'.cell? ⟨b,0,none⟩=some (.pointer (some ⟨bs,0,none⟩))∧w'.cell? ⟨b,1,none⟩=some (.slice ro R.length rc))∧(w'.cell? ⟨w.heap.size,0,none⟩=some (.pointer (some ⟨b,0,none⟩))∧w'.cell? ⟨w.heap.size,1,none⟩=some (.slice (some ⟨lb,off,none⟩) l.length lc)∧w'.cell? ⟨w.heap.size,2,none⟩=some (.int .i64 (n:Int)))∧w'.cell? ⟨lb,off+n * 2,none⟩=some (.slice (some ⟨ab,ao', none⟩) x.1.length ac)∧w'.cell? ⟨lb,off+n * 2+1,none⟩=some (.slice bo x.2.length bc)) (first | exact cc1 | exact CC0) (first | (go_at_call 209;refine (CR.out _ (by first | exact hw1 | exact W1)).mono ?_;rintro e w1 ⟨rfl,hw1⟩;have cc1:=HS'.out _ hw1) | (go_at_call 211;refine (CD.out _ _ (by first | exact hw1 | exact W1)).mono ?_;rintro e w1 ⟨rfl,hw1⟩;have cc1:=HS'.out _ hw1) | (go_at_call 208;refine (CU.out _ _ _ (by first | exact hw1 | exact W1)).mono ?_;rintro e w2 ⟨v,rfl,hv,hw2⟩;have cc1:=HS'.out _ hw2))
 all_goals
  go_wp2;go_ret;exact ⟨_,rfl,by rw [<- E.out _ rfl];exact hv,W0.trans' hw2⟩
theorem Zvl {R:List Ru} {l:List Ru} (h:Cnd w b bs ro rc L R lo l n) (hu:Yv L R l 1 n) :
  Calls prog 170 #[.agg #[.pointer (some ⟨b,0,none⟩),.slice lo l.length lc,.int .i64 (n:Int)]] w λ e w' => ∃ v,e=.returned v∧Zn w' (Vi L R l 1 n) v∧Za w w' := by
 obtain ⟨lb,off,ao,ac,bo,bc,x,rfl,hx,W0,CC0,HS,HA,CR,CU⟩:=h.opened lc;have W1:Za (w.alloc (.cells #[.pointer (some ⟨b,0,none⟩),.slice (some ⟨lb,off,none⟩) l.length lc,.int .i64 (n:Int)] 236)) (w.alloc (.cells #[.pointer (some ⟨b,0,none⟩),.slice (some ⟨lb,off,none⟩) l.length lc,.int .i64 (n:Int)] 236)).drew:=Zc.drew (Zc.refl _ _);have f0:=Vd;have f1:=Xt;have CF:Hid (∀ ww why c,(why=.nilIface∨∃ t v,why=.iface t v)->Za (w.alloc (.cells #[.pointer (some ⟨b,0,none⟩),.slice (some ⟨lb,off,none⟩) l.length lc,.int .i64 (n:Int)] 236)) ww->Calls prog 210 #[.agg #[.pointer (some ⟨b,0,none⟩),.slice (some ⟨lb,off,none⟩) l.length lc,.int .i64 (n:Int)],.int .i64 c,why] ww λ e w' => ∃ k,e=.returned (.iface 114 (.pointer (some ⟨k,0,none⟩)))∧w'.heap[k]? = some (.cells #[.int .i64 c,.int .i64 (n:Int),why] 116 (0,0))∧Za (w.alloc (.cells #[.pointer (some ⟨b,0,none⟩),.slice (some ⟨lb,off,none⟩) l.length lc,.int .i64 (n:Int)] 236)) w'):=λ ww why c hw hk=>(Zd1 ww b _ _ _ why hw n c).mono (λ e w' ⟨k,q1,q2,q3⟩=>⟨k,q1,q2,hk.trans' q3⟩);have CK:Hid (∀ ww so sc (t:List Int),Za (w.alloc (.cells #[.pointer (some ⟨b,0,none⟩),.slice (some ⟨lb,off,none⟩) l.length lc,.int .i64 (n:Int)] 236)) ww->Arg ww so t sc->Calls prog 104 #[.pointer (some ⟨bs,0,none⟩),.slice so t.length sc] ww λ e w' => e=.returned (.int .i64 (Zd L t))∧Za ww w' ∧ Za (w.alloc (.cells #[.pointer (some ⟨b,0,none⟩),.slice (some ⟨lb,off,none⟩) l.length lc,.int .i64 (n:Int)] 236)) w'):=λ ww so sc t hk ha=>(Xn (HA.out ww hk).2.2.sig ha.at' (by have:=ha.size;unfold maxLen;omega)).mono (λ e w' ⟨q1,q2⟩=>⟨q1,q2,hk.trans' q2⟩);have E0:Hid (Zd L x.1=0->Zd L x.2=0->Vi L R l 1 n=[(0, -1)]):=λ h1 h2=>by simp only [Vi,ckB,Kw,<- hx];simp [h1,h2]
 have E1:Hid (¬ Zd L x.1=0->Vi L R l 1 n=[(71,(n:Int)),(Zd L x.1, -1)]):=λ h1=>by simp only [Vi,ckB,Kw,Xm,<- hx];simp [h1]
 have E2:Hid (Zd L x.1=0->¬ Zd L x.2=0->Vi L R l 1 n=[(71,(n:Int)),(Zd L x.2, -1)]):=λ h1 h2=>by simp only [Vi,ckB,Kw,Xm,<- hx];simp [h1,h2]
 clear h hu hx
 go_enter func170,ntmps170
 go_wp2
 go_region_held3 (λ w' => (w'.cell? ⟨b,0,none⟩=some (.pointer (some ⟨bs,0,none⟩))∧w'.cell? ⟨b,1,none⟩=some (.slice ro R.length rc))∧(w'.cell? ⟨w.heap.size,0,none⟩=some (.pointer (some ⟨b,0,none⟩))∧w'.cell? ⟨w.heap.size,1,none⟩=some (.slice (some ⟨lb,off,none⟩) l.length lc)∧w'.cell? ⟨w.heap.size,2,none⟩=some (.int .i64 (n:Int)))∧w'.cell? ⟨lb,off+n * 2,none⟩=some (.slice ao x.1.length ac)∧w'.cell? ⟨lb,off+n * 2+1,none⟩=some (.slice bo x.2.length bc)) (first | exact cc1 | exact CC0 | exact HS.out _ (Zc.alloc hw1 _)) ((go_at_call 209;refine (CR.out _ (by first | exact hw1 | exact W1)).mono ?_;rintro e w1 ⟨rfl,hw1⟩;have cc1:=HS.out _ hw1))
 have wg:=heap_alloc_new w1 (.cells #[.slice ao x.1.length ac,.slice bo x.2.length bc] 74);have hg:Hid (∀ ww,Za (w1.alloc (.cells #[.slice ao x.1.length ac,.slice bo x.2.length bc] 74)) ww->(ww.cell? ⟨w1.heap.size,0,none⟩=some (.slice ao x.1.length ac)∧ww.cell? ⟨w1.heap.size,1,none⟩=some (.slice bo x.2.length bc))∧Za (w.alloc (.cells #[.pointer (some ⟨b,0,none⟩),.slice (some ⟨lb,off,none⟩) l.length lc,.int .i64 (n:Int)] 236)) ww):=λ ww hk=>⟨⟨Zb (hk.at0 wg) 0,Zb (hk.at0 wg) 1⟩,Za.trans' (Zc.alloc hw1 _) hk⟩;have K0:Za (w1.alloc (.cells #[.slice ao x.1.length ac,.slice bo x.2.length bc] 74)) (w1.alloc (.cells #[.slice ao x.1.length ac,.slice bo x.2.length bc] 74)):=Zc.refl _ _;go_wp2
 go_loopw [14] (λ i wr=>(i=.int .i64 0∨(i=.int .i64 1∧Hid (Zd L x.1=0))∨(i=.int .i64 2∧Hid (Zd L x.1=0)∧Hid (Zd L x.2=0)))∧Za (w1.alloc (.cells #[.slice ao x.1.length ac,.slice bo x.2.length bc] 74)) wr) (λ i _=>2-(intOf i).toNat)
 case atStart=>exact ⟨.inl rfl,K0⟩
 case round=>
  clear wg K0 CC0 W1;obtain ⟨hi,hk⟩:=hrel;obtain ⟨⟨g0,g1⟩,kw⟩:=hg.out _ hk;obtain ⟨c1,c2,c3⟩:=HS.out _ kw;obtain ⟨a1,a2,a3⟩:=HA.out _ kw
  rcases hi with rfl | ⟨rfl,z1⟩ | ⟨rfl,z1,z2⟩
  ·by_cases hz:Zd L x.1=0
   ·have Z:Hid (Zd L x.1=0):=hz
    have zz:(Zd L x.1 == 0)=true:=by simpa using hz
    go_wp2_with (first | (go_at_call 104;refine (CK.out _ _ _ _ kw a1).mono ?_;rintro e w2 ⟨rfl,ks2,kw2⟩;obtain ⟨d1,d2,d3⟩:=HS.out _ kw2) | (go_at_call 210;refine (CF.out _ _ _ (.inr ⟨_,_,rfl⟩) kw2).mono ?_;rintro e w3 ⟨k,rfl,hk3,kw3⟩))
    exact ⟨⟨.inr (.inl ⟨rfl,Z⟩),hk.trans' ks2⟩,by simp [intOf]⟩
   ·have zz:(Zd L x.1 == 0)=false:=by simpa using hz
    have Z:=E1.out hz;clear E0 E1 E2
    go_wp2_with (first | (go_at_call 104;refine (CK.out _ _ _ _ kw a1).mono ?_;rintro e w2 ⟨rfl,ks2,kw2⟩;obtain ⟨d1,d2,d3⟩:=HS.out _ kw2) | (go_at_call 210;refine (CF.out _ _ _ (.inr ⟨_,_,rfl⟩) kw2).mono ?_;rintro e w3 ⟨k,rfl,hk3,kw3⟩))
    go_ret;exact ⟨_,rfl,by rw [Z];exact .inr ⟨by omega,k,_,rfl,hk3,.inl ⟨rfl,rfl,rfl⟩⟩,W0.trans' kw3⟩
  ·by_cases hz:Zd L x.2=0
   ·have Z:Hid (Zd L x.2=0):=hz
    have zz:(Zd L x.2 == 0)=true:=by simpa using hz
    go_wp2_with (first | (go_at_call 104;refine (CK.out _ _ _ _ kw a2).mono ?_;rintro e w2 ⟨rfl,ks2,kw2⟩;obtain ⟨d1,d2,d3⟩:=HS.out _ kw2) | (go_at_call 210;refine (CF.out _ _ _ (.inr ⟨_,_,rfl⟩) kw2).mono ?_;rintro e w3 ⟨k,rfl,hk3,kw3⟩))
    exact ⟨⟨.inr (.inr ⟨rfl,z1,Z⟩),hk.trans' ks2⟩,by simp [intOf]⟩
   ·have zz:(Zd L x.2 == 0)=false:=by simpa using hz
    have Z:=E2.out z1.out hz;clear E0 E1 E2
    go_wp2_with (first | (go_at_call 104;refine (CK.out _ _ _ _ kw a2).mono ?_;rintro e w2 ⟨rfl,ks2,kw2⟩;obtain ⟨d1,d2,d3⟩:=HS.out _ kw2) | (go_at_call 210;refine (CF.out _ _ _ (.inr ⟨_,_,rfl⟩) kw2).mono ?_;rintro e w3 ⟨k,rfl,hk3,kw3⟩))
    go_ret;exact ⟨_,rfl,by rw [Z];exact .inr ⟨by omega,k,_,rfl,hk3,.inl ⟨rfl,rfl,rfl⟩⟩,W0.trans' kw3⟩
  ·go_wp2
   go_ret;exact ⟨_,rfl,by rw [E0.out z1.out z2.out];exact .inl ⟨rfl,rfl,rfl⟩,W0.trans' kw⟩
theorem Zpe {R:List Ru} {l:List Ru} (h:Cnd w b bs ro rc L R lo l n) (hu:Yv L R l 4 n) :
  Calls prog 173 #[.agg #[.pointer (some ⟨b,0,none⟩),.slice lo l.length lc,.int .i64 (n:Int)]] w λ e w' => ∃ v,e=.returned v∧Zn w' (Vi L R l 4 n) v∧Za w w' := by
 obtain ⟨lb,off,ao,ac,bo,bc,x,rfl,hx,W0,CC0,HS,HA,CR,CU⟩:=h.opened lc;have W1:Za (w.alloc (.cells #[.pointer (some ⟨b,0,none⟩),.slice (some ⟨lb,off,none⟩) l.length lc,.int .i64 (n:Int)] 236)) (w.alloc (.cells #[.pointer (some ⟨b,0,none⟩),.slice (some ⟨lb,off,none⟩) l.length lc,.int .i64 (n:Int)] 236)).drew:=Zc.drew (Zc.refl _ _);have f0:=Vd;have f1:=Xt
 have hc:Zd L x.1=0:=by
  have:=hu.1 1 (by omega) n h.hn;simp only [ckB,Kw,<- hx,Bool.and_eq_true,decide_eq_true_eq] at this;exact this.1
 have hm:x.1.length<=2000:=(Ze.1 hc).1
 have E:Hid (∀ q:Bool,(q=true ↔ Zay x.1=(Zx x.1).length)->(if q=true then [(0, -1)] else [(74,(n:Int))])=Vi L R l 4 n):=by
  intro q hq;have e1:q=decide (Zay x.1=(Zx x.1).length):=by cases q <;> simp_all
  subst e1;simp only [Vi,ckB,Kw,Xm,<- hx];rfl
 have hvl:(Zx x.1).length<=x.1.length:=by have:=Zf7 [] x.1;simpa [Zx] using this
 have hnl:=Zld x.1
 have CV:Hid (∀ ww,Za (w.alloc (.cells #[.pointer (some ⟨b,0,none⟩),.slice (some ⟨lb,off,none⟩) l.length lc,.int .i64 (n:Int)] 236)) ww->Calls prog 105 #[.slice ao x.1.length ac] ww λ e w' => ∃ vo vc,e=.returned (.slice vo (Zx x.1).length vc)∧Za (w.alloc (.cells #[.pointer (some ⟨b,0,none⟩),.slice (some ⟨lb,off,none⟩) l.length lc,.int .i64 (n:Int)] 236)) w'):=λ ww hk=>(Zjr (HA.out ww hk).1.at' (by omega)).mono (λ e w' ⟨v,q1,q2,q3⟩=>by
  obtain ⟨vo,vc,rfl⟩:=Zf q2
  exact ⟨vo,vc,q1,hk.trans' q3⟩)
 clear h hu hx hc W1;have W1:Za (w.alloc (.cells #[.pointer (some ⟨b,0,none⟩),.slice (some ⟨lb,off,none⟩) l.length lc,.int .i64 (n:Int)] 236)) (w.alloc (.cells #[.pointer (some ⟨b,0,none⟩),.slice (some ⟨lb,off,none⟩) l.length lc,.int .i64 (n:Int)] 236)):=Zc.refl _ _
 go_enter func173,ntmps173
 go_wp2_with ((go_at_call 209;refine (CR.out _ (by first | exact hw1 | exact W1)).mono ?_;rintro e w1 ⟨rfl,hw1⟩;have cc1:=HS.out _ hw1))
 obtain ⟨a1,a2,a3⟩:=HA.out _ hw1
 have HI:Hid (∀ k (hk:k<x.1.length),∃ tb off', ao=some ⟨tb,off', none⟩∧w1.cell? ⟨tb,off' + k,none⟩=some (.int .i64 x.1[k])):=λ k hk=>by
  obtain ⟨tb,off', e,_,hc⟩:=a1.at'.get hk;exact ⟨tb,off', e,hc⟩
 go_loop [3,11] (λ s i=>∃ k:Nat,k<=x.1.length∧i=.int .i64 (k:Int)∧s=.int .i64 ((Zay (x.1.take k):Nat):Int)) (λ _ i=>x.1.length-(intOf i).toNat)
 case atStart=>exact ⟨0,Nat.zero_le _,rfl,rfl⟩
 case round=>
  obtain ⟨k,hk,rfl,rfl⟩:=hrel;have b0:=Zld (x.1.take k);have b1:Zay (x.1.take k)<=2000:=by rw [List.length_take] at b0;omega
  clear b0
  by_cases hlt:k<x.1.length
  ·obtain ⟨tb,off', rfl,hcell⟩:=HI.out k hlt
   have i1:(0:Int)<=(k:Int):=by omega
   have i2:(k:Int)<(x.1.length:Int):=by omega
   have N:Hid (Zay (x.1.take (k+1))=Zay (x.1.take k)+if x.1[k]<0 then 1 else 0):=Zi5 hlt;generalize Zay (x.1.take k)=m at *
   by_cases hneg:x.1[k]<0
   ·go_wp2
    exact ⟨⟨k+1,by omega,by go_num,by rw [N.out,if_pos hneg];go_num⟩,by simp [intOf];omega⟩
   ·go_wp2
    exact ⟨⟨k+1,by omega,by go_num,by rw [N.out,if_neg hneg];rfl⟩,by simp [intOf];omega⟩
  ·obtain rfl:k=x.1.length:=by omega
   rw [List.take_length];clear b1;have cc1:=HS.out _ hw1
   go_wp2_with (first | (go_at_call 209;refine (CR.out _ (by first | exact hw1 | exact W1)).mono ?_;rintro e w1 ⟨rfl,hw1⟩;have cc1:=HS.out _ hw1) | (go_at_call 105;refine (CV.out _ hw1).mono ?_;rintro e w1 ⟨vo,vc,rfl,hw1⟩;have cc1:=HS.out _ hw1) | (go_at_call 208;refine (CU.out _ _ _ (by first | exact hw1 | exact W1)).mono ?_;rintro e w2 ⟨v,rfl,hv,hw2⟩;have cc1:=HS.out _ hw2))
   go_ret;exact ⟨_,rfl,by rw [<- E.out _ ?_];exact hv;simp;try omega,W0.trans' hw2⟩
def Ym (z:Int) (q:Bool):Prop:=decide (0<=z)=q
theorem Ym.eq {q:Bool} (h:Ym z q):decide (0<=z)=q:=h
theorem Zoj {n:Int} (hP:∀ ww z,Za w0 ww->Calls prog 211 #[.agg #[.pointer cb,.slice lo ll lc,.int .i64 n],.int .i64 z] ww λ e w' => e=.returned (.bool (P z))∧Za w0 w') (ht:Zh w0 so t) (hm:t.length<=2000) (hw:Za w0 w) :
  Calls prog 228 #[.slice so t.length sc,.func (.func 211) #[.agg #[.pointer cb,.slice lo ll lc,.int .i64 n]] #[]] w λ e w' => ∃ z:Int,e=.returned (.int .i64 z)∧Ym z (t.any P)∧Za w0 w' := by
 have CP:Hid (∀ ww z,Za w0 ww->Calls prog 211 #[.agg #[.pointer cb,.slice lo ll lc,.int .i64 n],.int .i64 z] ww λ e w' => e=.returned (.bool (P z))∧Za w0 w'):=hP;clear hP
 go_enter func228,ntmps228
 go_wp2
 go_loopw [8] (λ i wr=>∃ k:Nat,k<=t.length∧i=.int .i64 (k:Int)∧Hid ((t.take k).any P=false)∧Za w0 wr) (λ i _=>t.length-(intOf i).toNat)
 case atStart=>exact ⟨0,Nat.zero_le _,rfl,by show _=_;simp,hw⟩
 case round=>
  clear hw;obtain ⟨k,hk,rfl,ha,hw⟩:=hrel
  by_cases hlt:k<t.length
  ·obtain ⟨tb,off,rfl,_,hc⟩:=(ht.same hw).get hlt
   have i1:(0:Int)<=(k:Int):=by omega
   have i2:(k:Int)<(t.length:Int):=by omega
   have hz:∀ q,P t[k]=q->Hid (P t[k]=q):=λ q h=>h;cases hq:P t[k] with
   | true=>
    have H:Hid (Ym (k:Int) (t.any P)):=by
     have e1:t.any P=true:=List.any_eq_true.2 ⟨t[k],List.getElem_mem hlt,hq⟩;show decide _=_;rw [e1];simp
    have C:=CP.out _ t[k] hw;rw [hq] at C;clear CP hz hq ha
    go_wp2_with ((go_at_call 211;refine C.mono ?_;rintro e w2 ⟨rfl,hw2⟩))
    go_ret;exact ⟨_,rfl,H.out,hw2⟩
   | false=>
    have H:Hid ((t.take (k+1)).any P=false):=by
     have e1:=ha.out;show _=_;rw [List.take_add_one,List.getElem?_eq_getElem hlt,List.any_append,e1];simp [hq]
    have C:=CP.out _ t[k] hw;rw [hq] at C;clear hz hq ha
    go_wp2_with ((go_at_call 211;refine C.mono ?_;rintro e w2 ⟨rfl,hw2⟩))
    exact ⟨⟨k+1,by omega,by go_num,H,hw2⟩,by simp [intOf];omega⟩
  ·have H:Hid (Ym (-1) (t.any P)):=by
    have:=ha.out;rw [List.take_of_length_le (by omega)] at this;show decide _=_;rw [this];rfl
   go_wp2;go_ret;exact ⟨_,rfl,H.out,hw⟩
theorem Zg3 {n:Int} (hP:∀ ww z,Za w0 ww->Calls prog 211 #[.agg #[.pointer cb,.slice lo ll lc,.int .i64 n],.int .i64 z] ww λ e w' => e=.returned (.bool (P z))∧Za w0 w') (ht:Zh w0 so t) (hm:t.length<=2000) (hw:Za w0 w) :
  Calls prog 212 #[.slice so t.length sc,.func (.func 211) #[.agg #[.pointer cb,.slice lo ll lc,.int .i64 n]] #[]] w λ e w' => e=.returned (.bool (t.any P))∧Za w0 w' := by
 have C:=Zoj (sc:=sc) hP ht hm hw;clear hP ht hw
 go_enter func212,ntmps212
 go_wp2_with ((go_at_call 228;refine C.mono ?_;rintro e w2 ⟨z,rfl,hz,hw2⟩))
 go_ret;exact ⟨Z5 (Ym.eq hz),hw2⟩
theorem Zlz (hP:∀ ww z,Za w0 ww->Calls prog 213 #[.int .i64 z,.pointer cb] ww λ e w' => e=.returned (.bool (P z))∧Za w0 w') (ht:Zh w0 so t) (hm:t.length<=2000) (hw:Za w0 w) :
  Calls prog 228 #[.slice so t.length sc,.func (.func 213) #[] #[.pointer cb]] w λ e w' => ∃ z:Int,e=.returned (.int .i64 z)∧Ym z (t.any P)∧Za w0 w' := by
 have CP:Hid (∀ ww z,Za w0 ww->Calls prog 213 #[.int .i64 z,.pointer cb] ww λ e w' => e=.returned (.bool (P z))∧Za w0 w'):=hP;clear hP
 go_enter func228,ntmps228
 go_wp2
 go_loopw [8] (λ i wr=>∃ k:Nat,k<=t.length∧i=.int .i64 (k:Int)∧Hid ((t.take k).any P=false)∧Za w0 wr) (λ i _=>t.length-(intOf i).toNat)
 case atStart=>exact ⟨0,Nat.zero_le _,rfl,by show _=_;simp,hw⟩
 case round=>
  clear hw;obtain ⟨k,hk,rfl,ha,hw⟩:=hrel
  by_cases hlt:k<t.length
  ·obtain ⟨tb,off,rfl,_,hc⟩:=(ht.same hw).get hlt
   have i1:(0:Int)<=(k:Int):=by omega
   have i2:(k:Int)<(t.length:Int):=by omega
   have hz:∀ q,P t[k]=q->Hid (P t[k]=q):=λ q h=>h;cases hq:P t[k] with
   | true=>
    have H:Hid (Ym (k:Int) (t.any P)):=by
     have e1:t.any P=true:=List.any_eq_true.2 ⟨t[k],List.getElem_mem hlt,hq⟩;show decide _=_;rw [e1];simp
    have C:=CP.out _ t[k] hw;rw [hq] at C;clear CP hz hq ha
    go_wp2_with ((go_at_call 213;refine C.mono ?_;rintro e w2 ⟨rfl,hw2⟩))
    go_ret;exact ⟨_,rfl,H.out,hw2⟩
   | false=>
    have H:Hid ((t.take (k+1)).any P=false):=by
     have e1:=ha.out;show _=_;rw [List.take_add_one,List.getElem?_eq_getElem hlt,List.any_append,e1];simp [hq]
    have C:=CP.out _ t[k] hw;rw [hq] at C;clear hz hq ha
    go_wp2_with ((go_at_call 213;refine C.mono ?_;rintro e w2 ⟨rfl,hw2⟩))
    exact ⟨⟨k+1,by omega,by go_num,H,hw2⟩,by simp [intOf];omega⟩
  ·have H:Hid (Ym (-1) (t.any P)):=by
    have:=ha.out;rw [List.take_of_length_le (by omega)] at this;show decide _=_;rw [this];rfl
   go_wp2;go_ret;exact ⟨_,rfl,H.out,hw⟩
theorem Zfg (hP:∀ ww z,Za w0 ww->Calls prog 213 #[.int .i64 z,.pointer cb] ww λ e w' => e=.returned (.bool (P z))∧Za w0 w') (ht:Zh w0 so t) (hm:t.length<=2000) (hw:Za w0 w) :
  Calls prog 212 #[.slice so t.length sc,.func (.func 213) #[] #[.pointer cb]] w λ e w' => e=.returned (.bool (t.any P))∧Za w0 w' := by
 have C:=Zlz (sc:=sc) hP ht hm hw;clear hP ht hw
 go_enter func212,ntmps212
 go_wp2_with ((go_at_call 228;refine C.mono ?_;rintro e w2 ⟨z,rfl,hz,hw2⟩))
 go_ret;exact ⟨Z5 (Ym.eq hz),hw2⟩
theorem Zo3 (ht:Zh w so t) (hm:t.length<=2000) (y:Int) :
  Calls prog 179 #[.slice so t.length sc,.int .i64 y] w λ e w' => ∃ z:Int,e=.returned (.int .i64 z)∧Ym z (decide (y∈t))∧w' = w:=by
 go_enter func179,ntmps179
 go_wp2
 go_loop [8] (λ i=>∃ k:Nat,k<=t.length∧i=.int .i64 (k:Int)∧Hid (¬ y∈t.take k)) (λ i=>t.length-(intOf i).toNat)
 case atStart=>exact ⟨0,Nat.zero_le _,rfl,by show ¬ _;simp⟩
 case round=>
  obtain ⟨k,hk,rfl,ha⟩:=hrel
  by_cases hlt:k<t.length
  ·obtain ⟨tb,off,rfl,_,hc⟩:=ht.get hlt
   have i1:(0:Int)<=(k:Int):=by omega
   have i2:(k:Int)<(t.length:Int):=by omega
   by_cases hq:y=t[k]
   ·have H:Hid (Ym (k:Int) (decide (y∈t))):=by
     have e1:y∈t:=hq ▸ List.getElem_mem hlt;show decide _=_;simp [e1]
    have q1:(y == t[k])=true:=by simpa using hq
    clear hq ha;go_wp2;go_ret;exact ⟨_,rfl,H.out,rfl⟩
   ·have H:Hid (¬ y∈t.take (k+1)):=by
     have e1:=ha.out;intro hmem;rw [List.take_add_one,List.getElem?_eq_getElem hlt] at hmem
     rcases List.mem_append.1 hmem with q | q
     ·exact e1 q
     ·simp at q;exact hq q
    have q1:(y == t[k])=false:=by simpa using hq
    clear hq ha;go_wp2;exact ⟨⟨k+1,by omega,by go_num,H⟩,by simp [intOf];omega⟩
  ·have H:Hid (Ym (-1) (decide (y∈t))):=by
    have:=ha.out;rw [List.take_of_length_le (by omega)] at this;show decide _=_;simp [this]
   go_wp2;go_ret;exact ⟨_,rfl,H.out,rfl⟩
theorem Zhn (ht:Zh w so t) (hm:t.length<=2000) (y:Int) :
  Calls prog 214 #[.slice so t.length sc,.int .i64 y] w λ e w' => e=.returned (.bool (decide (y∈t)))∧w' = w:=by
 have C:=Zo3 (sc:=sc) ht hm y;clear ht
 go_enter func214,ntmps214
 go_wp2_with ((go_at_call 179;refine C.mono ?_;rintro e w2 ⟨z,rfl,hz,rfl⟩))
 go_ret;exact ⟨Z5 (Ym.eq hz),rfl⟩
end
end Go.Proofs.YtmjgnfkbnofjoaaGreatDoor
