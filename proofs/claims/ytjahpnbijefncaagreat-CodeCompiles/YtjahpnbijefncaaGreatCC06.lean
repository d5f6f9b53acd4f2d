import Derived.Test.YtjahpnbijefncaaGreatCC05
import Derived.Deep.RegionHeld3
import Derived.Stop.Asserts
namespace Go.Proofs.YtjahpnbijefncaaGreat
set_option maxRecDepth 100000
set_option linter.unusedVariables false
set_option maxHeartbeats 4000000
section
open Go.RowKit
attribute [local go_sem ↓] Go.wp_at_zero Go.wp_at_succ
theorem JB.way_foot {B:JB} {k:Nat} (h:B.Way k):B.Foot k:=by
 rcases h with e | e
 ·exact .inl e
 ·exact .inr (.inr (.inr (.inl e)))
structure Zsq (L:List Sym) (B:JB) (J:List Int) (sz:Nat->Int) (res:Option (Int->Int)) (w0:World) (k:Nat) (wr:World) (v:Value) (ld:Int->Int) (rs:List (Nat × Nat × Nat)):Prop where
 u:UOk L J res k ld rs
 j:JAt L B wr J ld sz
 row:Zhc w0.heap.size wr v rs
 kept:Zc B.Way w0 wr
theorem Zsq.drewN {L:List Sym} {B:JB} {J:List Int} {sz:Nat->Int} {res:Option (Int->Int)} {w0:World} {k:Nat} {wr:World} {v:Value} {ld:Int->Int} {rs:List (Nat × Nat × Nat)} (h:Zsq L B J sz res w0 k wr v ld rs) (n:Nat):Zsq L B J sz res w0 k (wr.drewN n) v ld rs:=
 ⟨h.u,h.j.kept (S:=λ _=>False) ((Zc.refl _ _).drewN n) (λ _ _ f=>f),h.row.kept (S:=λ _=>False) ((Zc.refl _ _).drewN n) (λ _ _ f=>f),h.kept.drewN n⟩
def UEnd (L:List Sym) (B:JB) (J:List Int) (sz:Nat->Int) (res:Option (Int->Int)) (w:World) (e:Ending) (w' : World):Prop:=(∀ ld', res=some ld' -> e=.returned (.bool true)∧JAt L B w' J ld' sz)∧(res=none->e=.returned (.bool false))∧Zc B.Way w w'
theorem Zvt (w:World) (x y o:Nat):Zhc w.heap.size (w.alloc (.cells #[.int .i64 (x:Int),.int .i64 (y:Int),.int .i64 (o:Int)] 297)) (.slice (some ⟨w.heap.size,0,none⟩) 1 1) [(x,y,o)]:=
 ⟨by simp [Z9],.inr ⟨w.heap.size,1,_,rfl,Nat.le_refl _,heap_alloc_new _ _,Nat.le_refl _,by decide,rfl,rfl⟩⟩
theorem JAt.join {L:List Sym} {w:World} {B:JB} {J:List Int} {ld:Int->Int} {sz:Nat->Int} (h:JAt L B w J ld sz) {p q:Int} (hp:Z2 J p) (hq:Z2 J q) (lp:ld p=p) (lq:ld q=q) (hpq:p≠q):JAt L B (w.setCell (nxA B p) (.int .i64 q)) J (un p q ld) sz∧Zc B.Way w (w.setCell (nxA B p) (.int .i64 q)):=by
 obtain ⟨nx,ρ,h1,h2⟩:=h;obtain ⟨g1,g2⟩:=h1.put hp q;exact ⟨⟨_,_,g1,h2.join hp hq lp lq hpq⟩,g2.mono (λ i _ e=>by rw [e];exact B.way p)⟩
theorem Zp7 (B:JB) {v:Nat} (hv:1<=v):nxA B (-(v:Int))=⟨B.jb,2+v,none⟩:=by unfold nxA;rw [if_pos (by omega)];congr 2;omega
theorem Zvb (B:JB) (v:Nat):nxA B (v:Int)=⟨B.sb,v,none⟩:=by unfold nxA;rw [if_neg (by omega)];congr 1
theorem Zo5 {L:List Sym} {w:World} {B:JB} {J:List Int} {ld:Int->Int} {sz:Nat->Int} {res:Option (Int->Int)} (h:JAt L B w J ld sz) {a b n:Nat} (ha:a<J.length) (hb:b<J.length) (hJ:J.length<=4000) (hu:UOk L J res n ld [(a,Zq L J a,b)]) :
  Calls Tryz.prog 187 #[.pointer (some ⟨B.jb,0,none⟩),.int .i64 (a:Int),.int .i64 (b:Int)] w (UEnd L B J sz res w):=by
 have hfoot:∀ k,B.Foot k->k<w.heap.size:=by
  obtain ⟨nx,ρ,hC,_⟩:=h;exact λ k hk=>hC.lt hk
 have U0:Zsq L B J sz res w n (w.alloc (.cells #[.int .i64 (a:Int),.int .i64 (Zq L J a:Int),.int .i64 (b:Int)] 297)) (.slice (some ⟨w.heap.size,0,none⟩) 1 1) ld [(a,Zq L J a,b)]:=
  ⟨hu,h.kept (S:=λ _=>False) (Zc.alloc (Zc.refl _ w) _) (λ _ _ f=>f),Zvt w a _ b,Zc.alloc (Zc.refl _ w) _⟩
 obtain ⟨nx,ρ,hC,_⟩:=h;obtain ⟨c0,c1,c2,c3,c4⟩:=hC.head.cells;have ce:=(hC.ends.cell ha).1;clear hC;have i1:(0:Int)<=(a:Int):=by omega
 have i2:(a:Int)<(J.length:Int):=by omega
 go_enter Tryz.func187,Tryz.ntmps187
 go_wp2_with fail
 go_step3
 go_wp2_with fail
 go_step3
 go_wp2_with fail
 clear c0 c1 c2 c3 c4 ce i1 i2 hu
 go_loopg [7] n (λ k s7 wr=>∃ ld rs,Zsq L B J sz res w k wr s7 ld rs)
 case atStart=>exact ⟨ld,_,U0⟩
 case round=>
  clear U0;obtain ⟨ld,rs,hU⟩:=hrel;cases rs with
  | nil=>
   obtain ⟨vo,vcap,rfl⟩:=Zf hU.row;have e1:=hU.u.nil;have fin:UEnd L B J sz res w (.returned (.bool true)) wr:=⟨λ ld' e=>⟨rfl,by rw [e1] at e;cases e;exact hU.j⟩,λ e=>(by rw [e1] at e;cases e),hU.kept⟩;clear hU e1
   go_wp2_with fail
   go_returns
   exact fin
  | cons r rs=>
   obtain ⟨x,y,o⟩:=r;obtain ⟨g,cap,rfl,hg1,hg2,hcap, -⟩:=hU.row.top;have hlen:rs.length<=4000:=by have:=hU.u.len;simp at this;omega
   have j1:(0:Int)<=(rs.length:Int):=by omega
   have j2:(rs.length:Int)<((rs.length+1:Nat):Int):=by omega
   go_wp2_with fail
   go_loopg [7] gk (λ k s7 wi=>∃ ld x o,s7=.slice (some ⟨g,0,none⟩) (rs.length+1) cap∧k<=gk∧Zsq L B J sz res w k wi s7 ld ((x,y,o) :: rs))
   case atStart=>exact ⟨ld,x,o,rfl,Nat.le_refl _,hU⟩
   case round=>
    clear hU;obtain ⟨ld,x,o,rfl,hgk,hU⟩:=hrel;obtain ⟨g', cap', hv, -,hg3, -,q0,q1,q2,q3,q4⟩:=hU.row.top;simp only [Value.slice.injEq,Option.some.injEq,Addr.mk.injEq,and_true,true_and] at hv;obtain ⟨rfl,rfl⟩:=hv
    by_cases hxy:x<y
    ·have hxi:(x:Int)<(y:Int):=by omega
     obtain ⟨t1,t2,t3,t4,hpx,hpo,hlx,hlo,hr⟩:=hU.u.top hxy
     go_wp2_with fail
     go_quiet (fail);have hV:=hU.drewN nq;obtain ⟨wq,hwq⟩:∃ wq,wr.drewN nq=wq:=⟨_,rfl⟩;rw [hwq] at hV ⊢;clear hU hwq q0 q1 q2 q3 q4 hg3;obtain ⟨g', cap', hv, -,hg3, -,q0,q1,q2,q3,q4⟩:=hV.row.top;simp only [Value.slice.injEq,Option.some.injEq,Addr.mk.injEq,and_true,true_and] at hv;obtain ⟨rfl,rfl⟩:=hv;have hng:¬ B.Way g:=λ f=>by have:=hfoot g (JB.way_foot f);omega
     have CX:Hid (∀ ww z,Z2 J z->JAt L B ww J ld sz∧Zc B.Way wq ww->Calls Tryz.prog 189 #[.pointer (some ⟨B.jb,0,none⟩),.int .i64 z] ww λ e w' => e=.returned (.int .i64 (ld z))∧JAt L B w' J ld sz∧Zc B.Way wq w'):=λ ww z hz hw=>(Zfd hw.1 hz).mono (λ e w' ⟨a1,a2,a3⟩=>⟨a1,a2,hw.2.trans a3 (λ _ _ f=>f)⟩);have px:Z2 J (x:Int):=Zn t1;have po:Z2 J (o:Int):=Zn t2;have CC:Hid (∀ ww,Zc B.Way wq ww->ww.cell? ⟨g,rs.length * 3,none⟩=some (.int .i64 (x:Int))∧ww.cell? ⟨g,rs.length * 3+2,none⟩=some (.int .i64 (o:Int))):=λ ww hk=>⟨(hk.cell (p:=⟨g,_,none⟩) hg3 hng).trans q0,(hk.cell (p:=⟨g,_,none⟩) hg3 hng).trans q2⟩;have W1:JAt L B wq.drew J ld sz∧Zc B.Way wq wq.drew:=⟨hV.j.kept (S:=λ _=>False) ((Zc.refl _ _).drew) (λ _ _ f=>f),(Zc.refl _ _).drew⟩
     go_upto_region 5 with fail
     go_cut [9,10] from 30 to 138 (λ s9 s10 wc=>s9=.int .i64 (ld x)∧s10=.int .i64 (ld o)∧JAt L B wc J ld sz∧Zc B.Way wq wc)
     case first=>
      clear hV;have CC0:=CC.out _ W1.2
      go_region_held3 (λ w' => w'.cell? ⟨g,rs.length * 3,none⟩=some (.int .i64 (x:Int))∧w'.cell? ⟨g,rs.length * 3+2,none⟩=some (.int .i64 (o:Int))) (first | exact CC0 | exact cc1) (first | (go_at_call 189;refine (CX.out _ _ (by first | exact px | exact po) (by first | exact hw1 | exact W1)).mono ?_;rintro e w1 ⟨rfl,hw1⟩;have cc1:=CC.out _ hw1.2))
      all_goals
       go_wp2_with fail
       go_meet;exact ⟨rfl,rfl,hw1⟩
     case rest=>
      obtain ⟨rfl,rfl,hJ1,hK1⟩:=hcut;clear CX CC W1 q0 q1 q2 q3 q4;have hR1:=hV.row.kept hK1 (λ k hk f=>by have:=hfoot k (JB.way_foot f);omega);have hK2:Zc B.Way w wc:=hV.kept.trans hK1 (λ _ _ f=>f);obtain ⟨g', cap', hv, -,hg4, -,q0,q1,q2,q3,q4⟩:=hR1.top;simp only [Value.slice.injEq,Option.some.injEq,Addr.mk.injEq,and_true,true_and] at hv;obtain ⟨rfl,rfl⟩:=hv;obtain ⟨k', hk', S1,S2,S3,S4,S5⟩:=hV.u.step hxy;have hR2:=hR1.on (Zq L J x) (Zq L J o);have hK3:Zc (λ k=>k=g) wc ((wc.setCell ⟨g,rs.length * 3,none⟩ (.int .i64 (Zq L J x:Int))).setCell ⟨g,rs.length * 3+2,none⟩ (.int .i64 (Zq L J o:Int))):=(Zc.setCell (S:=λ k=>k=g) (p:=⟨g,rs.length * 3,none⟩) (Zc.refl _ _) (λ _=>rfl) _).setCell (p:=⟨g,rs.length * 3+2,none⟩) (λ _=>rfl) _;have hJ2:=hJ1.kept hK3 (λ k hk e=>by have:=hfoot k hk;omega);have hK4:=hK2.trans hK3 (λ k hk e=>by omega);obtain ⟨nx,ρ,hC, -⟩:=hJ1;obtain ⟨c0,c1,c2,c3,c4⟩:=hC.head.cells;have ce1:=(hC.ends.cell t1).1;have ce2:=(hC.ends.cell t2).1;have i1:(0:Int)<=(x:Int):=by omega
      have i2:(x:Int)<(J.length:Int):=by omega
      have i3:(0:Int)<=(o:Int):=by omega
      have i4:(o:Int)<(J.length:Int):=by omega
      have HH:Hid (JAt L B ((wc.setCell ⟨g,rs.length * 3,none⟩ (.int .i64 (Zq L J x:Int))).setCell ⟨g,rs.length * 3+2,none⟩ (.int .i64 (Zq L J o:Int))) J ld sz∧Zhc w.heap.size ((wc.setCell ⟨g,rs.length * 3,none⟩ (.int .i64 (Zq L J x:Int))).setCell ⟨g,rs.length * 3+2,none⟩ (.int .i64 (Zq L J o:Int))) (.slice (some ⟨g,0,none⟩) (rs.length+1) cap) ((Zq L J x,y,Zq L J o) :: rs)∧Zc B.Way w ((wc.setCell ⟨g,rs.length * 3,none⟩ (.int .i64 (Zq L J x:Int))).setCell ⟨g,rs.length * 3+2,none⟩ (.int .i64 (Zq L J o:Int)))):=⟨hJ2,hR2,hK4⟩;clear hC hJ2 hR2 hK4 hK3 hV hR1 hK1 hK2
      go_upto_region 6 with fail
      go_cut [] from 30 to 138 (λ w8=>JAt L B w8 J ld sz∧Zhc w.heap.size w8 (.slice (some ⟨g,0,none⟩) (rs.length+1) cap) ((Zq L J x,y,Zq L J o) :: rs)∧Zc B.Way w w8)
      case first=>
       clear S1 S2 S3 S4 S5
       go_region
       all_goals
        go_wp2_with fail
        go_meet;obtain ⟨a1,a2,a3⟩:=HH.out;exact ⟨a1.kept (S:=λ _=>False) ((Zc.refl _ _).drew) (λ _ _ f=>f),a2.kept (S:=λ _=>False) ((Zc.refl _ _).drew) (λ _ _ f=>f),a3.drew⟩
      case rest=>
       obtain ⟨hJ8,hR8,hK8⟩:=hcut;clear HH c0 c1 c2 c3 c4 ce1 ce2 q0 q1 q2 q3 q4 hg4;obtain ⟨p,hp⟩:∃ p,ld (x:Int)=p:=⟨_,rfl⟩;obtain ⟨q,hq⟩:∃ q,ld (o:Int)=q:=⟨_,rfl⟩;rw [hp,hq] at S1 S2 S3 S4 S5 ⊢;rw [hp] at hpx hlx;rw [hq] at hpo hlo;clear hp hq
       by_cases h1:p=q
       ·have hN:=S1 h1
        clear S1 S2 S3 S4 S5
        go_wp2_with fail
        go_roundg k'
        case measure=>omega
        case rel=>exact ⟨ld,_,_,rfl,by omega,hN,hJ8,hR8,hK8⟩
       ·by_cases h2:p<0
        ·have hN:=S2 h1 h2
         obtain ⟨v,rfl⟩:∃ v:Nat,p = -(v:Int):=⟨(-p).toNat,by omega⟩;obtain ⟨hJ9,hK9⟩:=hJ8.join hpx hpo hlx hlo h1;rw [Zp7 B (by omega)] at hJ9 hK9;have hR9:=hR8.kept hK9 (λ k hk f=>by have:=hfoot k (JB.way_foot f);omega);have hK10:=hK8.trans hK9 (λ _ _ f=>f);obtain ⟨nx,ρ,hC, -⟩:=hJ8;have i5:(0:Int)<=(v:Int):=by omega
         have i6:(v:Int)<199:=by have:=hpx.1;omega
         obtain ⟨e1,e2⟩:=hC.head.var (v:=v) (by omega) (by omega);clear S1 S2 S3 S4 S5 hC hR8 hK8
         go_wp2_with fail
         go_roundg k'
         case measure=>omega
         case rel=>exact ⟨_,_,_,rfl,by omega,hN,hJ9,hR9,hK10⟩
        ·by_cases h3:q<0
         ·have hN:=S3 h1 h2 h3
          obtain ⟨v,rfl⟩:∃ v:Nat,q = -(v:Int):=⟨(-q).toNat,by omega⟩;obtain ⟨hJ9,hK9⟩:=hJ8.join hpo hpx hlo hlx (λ e=>h1 e.symm);rw [Zp7 B (by omega)] at hJ9 hK9;have hR9:=hR8.kept hK9 (λ k hk f=>by have:=hfoot k (JB.way_foot f);omega);have hK10:=hK8.trans hK9 (λ _ _ f=>f);obtain ⟨nx,ρ,hC, -⟩:=hJ8;have i5:(0:Int)<=(v:Int):=by omega
          have i6:(v:Int)<199:=by have:=hpo.1;omega
          obtain ⟨e1,e2⟩:=hC.head.var (v:=v) (by omega) (by omega);clear S1 S2 S3 S4 S5 hC hR8 hK8
          go_wp2_with fail
          go_roundg k'
          case measure=>omega
          case rel=>exact ⟨_,_,_,rfl,by omega,hN,hJ9,hR9,hK10⟩
         ·obtain ⟨p,rfl⟩:∃ v:Nat,p=(v:Int):=⟨p.toNat,by omega⟩
          obtain ⟨q,rfl⟩:∃ v:Nat,q=(v:Int):=⟨q.toNat,by omega⟩;have hpl:p<J.length:=by have:=hpx.2;omega
          have hql:q<J.length:=by have:=hpo.2;omega
          obtain ⟨hJ9,hK9⟩:=hJ8.join hpx hpo hlx hlo h1;rw [Zvb B p] at hJ9 hK9;obtain ⟨nx,ρ,hC, -⟩:=hJ8;obtain ⟨c0,c1,c2,c3,c4⟩:=hC.head.cells;have cp:=(hC.list.cell hpl).1;have cq:=(hC.list.cell hql).1;have cs:=hC.same.cell hpl;have i5:(0:Int)<=(p:Int):=by omega
          have i6:(p:Int)<(J.length:Int):=by omega
          have i7:(0:Int)<=(q:Int):=by omega
          have i8:(q:Int)<(J.length:Int):=by omega
          obtain ⟨cs1,cs2⟩:=cs
          by_cases h4:at' J (p:Int)=at' J (q:Int)
          ·have hN:=S5 h1 h2 h3 h4
           have hR9:=hR8.kept hK9 (λ k hk f=>by have:=hfoot k (JB.way_foot f);omega);have hK10:=hK8.trans hK9 (λ _ _ f=>f);have h4' : (at' J (p:Int) == at' J (q:Int))=true:=by simpa using h4
           clear S1 S2 S3 S4 S5 hC hR8 hK8 hK9
           go_upto_region 14 with fail
           go_quiet (fail)
           have hX:Hid (JAt L B ((wc.drewN nq).setCell ⟨B.sb,p,none⟩ (.int .i64 (q:Int))) J (un (p:Int) (q:Int) ld) sz∧Zhc w.heap.size ((wc.drewN nq).setCell ⟨B.sb,p,none⟩ (.int .i64 (q:Int))) (.slice (some ⟨g,0,none⟩) (rs.length+1) cap) ((Zq L J x,y,Zq L J o) :: rs)∧Zc B.Way w ((wc.drewN nq).setCell ⟨B.sb,p,none⟩ (.int .i64 (q:Int)))):=by
            have k0:Za (wc.setCell ⟨B.sb,p,none⟩ (.int .i64 (q:Int))) ((wc.drewN nq).setCell ⟨B.sb,p,none⟩ (.int .i64 (q:Int))):=(Zc.refl _ (wc.setCell ⟨B.sb,p,none⟩ (.int .i64 (q:Int)))).drewN nq;exact ⟨hJ9.kept k0 (λ _ _ f=>f),hR9.kept k0 (λ _ _ f=>f),hK10.trans k0 (λ _ _ f=>f.elim)⟩
           clear hJ9 hR9 hK10
           go_upto_region 8 with fail
           obtain ⟨w9,hw9⟩:∃ w9,(wc.drewN nq).setCell ⟨B.sb,p,none⟩ (.int .i64 (q:Int))=w9:=⟨_,rfl⟩;rw [hw9] at hX ⊢;clear hw9 c0 c1 c2 c3 c4 cp cq cs1 cs2 h4 h4';obtain ⟨i0,hi0,hz0,hz1,hz2⟩:=info_parts Zsh
           have PE:Hid (∀ gg cap' w10,w10.ownsRow w.heap.size 297 3 (.slice (some ⟨gg,0,none⟩) (rs.length+1+1) cap') (rs.length+1+1) (Z9 ((Zq L J x,y,Zq L J o) :: rs).reverse ++ [.int .i64 ((p:Int)+1),.int .i64 (Zq L J p:Int),.int .i64 ((q:Int)+1)])->(w9.alloc (.cells #[.int .i64 ((p:Int)+1),.int .i64 (Zq L J p:Int),.int .i64 ((q:Int)+1)] 297)).grownBy w10 (some g)->Zsq L B J sz res w k' w10 (.slice (some ⟨gg,0,none⟩) (rs.length+1+1) cap') (un (p:Int) (q:Int) ld) ((p+1,Zq L J p,q+1) :: (Zq L J x,y,Zq L J o) :: rs)):=by
            intro gg cap' w10 hown hgrow;obtain ⟨a1,a2,a3⟩:=hX.out;have kg:Zc (λ k=>k=g) w9 w10:=Zc.grown (Zc.alloc (Zc.refl _ w9) _) hgrow (λ k e _=>by simpa using e.symm);refine ⟨by simpa using hN,a1.kept kg (λ k hk e=>by have:=hfoot k hk;omega),?_,a3.trans kg (λ k hk e=>by omega)⟩;unfold Zhc;rw [Vg]
            simpa using hown
           obtain ⟨a1,a2, -⟩:=hX.out;have hrow:w9.ownsRow w.heap.size 297 3 (.slice (some ⟨g,0,none⟩) (rs.length+1) cap) (rs.length+1) (Z9 ((Zq L J x,y,Zq L J o) :: rs).reverse):=a2;obtain ⟨nx,ρ,hC, -⟩:=a1;obtain ⟨c0,c1,c2,c3,c4⟩:=hC.head.cells;have ce:=(hC.ends.cell hpl).1;have hn1:rs.length+1+1<=maxLen:=by unfold maxLen;omega
           have hn2:(rs.length+1+1) * 24<=140737488355328:=by omega
           have hb9:w.heap.size<=(w9.alloc (.cells #[.int .i64 ((p:Int)+1),.int .i64 (Zq L J p:Int),.int .i64 ((q:Int)+1)] 297)).heap.size:=by
            have:=a2.top;obtain ⟨g', cap', hv,hb1,hlt1, -⟩:=this;simp;omega
           have i9:(p:Int)<4000:=by omega
           have i10:(q:Int)<4000:=by omega
           clear hX hC a2
           go_wp2_with (first | (at_builtin;refine wpList_append_lies _ rfl _ _ 298 rfl w.heap.size 297 i0 _ 3 24 Tryz.underlying298 hi0 hz0 hz1 hz2 rfl (by omega) (.slice (some ⟨g,0,none⟩) (rs.length+1) cap) (rs.length+1) (Z9 ((Zq L J x,y,Zq L J o) :: rs).reverse) rfl (hrow.alloc _) ⟨w9.heap.size,0,none⟩ 1 1 [.int .i64 ((p:Int)+1),.int .i64 (Zq L J p:Int),.int .i64 ((q:Int)+1)] rfl rfl (World.news_of_block (cs:=#[.int .i64 ((p:Int)+1),.int .i64 (Zq L J p:Int),.int .i64 ((q:Int)+1)]) (t:=297) (fr:=(0,0)) (heap_alloc_new w9 _)) (by simp [Value.oneCell']) (by omega) hn1 hn2 hb9 (w9.heap.size+1) (by simp) ?_;intro gg cap' w10 hown hgrow hat hlt;have hP:=PE.out gg cap' w10 hown hgrow))
           go_roundg k'
           case measure=>omega
           case rel=>exact ⟨_,_,hP⟩
          ·have hN:=S4 h1 h2 h3 h4
           have fin:Hid (∀ n,UEnd L B J sz res w (.returned (.bool false)) (wc.drewN n)):=λ n=>⟨λ ld' e=>(by rw [hN] at e;cases e),λ _=>rfl,hK8.drewN n⟩;clear S1 S2 S3 S4 S5 hC hR8 hK8 hJ9 hK9 hN
           go_upto_region 14 with fail
           go_quiet (fail)
           go_wp2_with fail
           go_returns
           exact fin.out _
    ·have hxi:¬ (x:Int)<(y:Int):=by omega
     obtain ⟨k', hk', hU'⟩:=hU.u.pop hxy;have hP:Zsq L B J sz res w k' wr (.slice (some ⟨g,0,none⟩) rs.length cap) ld rs:=⟨hU', hU.j,hU.row.less,hU.kept⟩;have j3:(rs.length:Int)<=(cap:Int):=by omega
     have hP' : Hid (∀ n,Zsq L B J sz res w k' (wr.drewN n) (.slice (some ⟨g,0,none⟩) rs.length cap) ld rs):=λ n=>hP.drewN n;clear hU hU' hP
     go_wp2_with fail
     go_quiet (fail)
     go_wp2_with fail
     go_roundg k'
     case measure=>omega
     case rel=>exact ⟨ld,rs,hP'.out _⟩
def JB.Mem (B:JB) (k:Nat):Prop:=k=B.jb∨k=B.sb∨k=B.zb
theorem JB.way_mem {B:JB} {k:Nat} (h:B.Way k):B.Mem k:=by
 rcases h with e | e
 ·exact .inl e
 ·exact .inr (.inl e)
theorem JAt.setSize {L:List Sym} {w:World} {B:JB} {J:List Int} {ld:Int->Int} {sz:Nat->Int} (h:JAt L B w J ld sz) (p:Nat) (v:Int):JAt L B (w.setCell ⟨B.zb,p,none⟩ (.int .i64 v)) J ld (Kg sz p v)∧Zc B.Mem w (w.setCell ⟨B.zb,p,none⟩ (.int .i64 v)):=by
 obtain ⟨nx,ρ,h1,h2⟩:=h;have hk:Zc (λ k=>k=B.zb) w (w.setCell ⟨B.zb,p,none⟩ (.int .i64 v)):=Zc.setCell (S:=λ k=>k=B.zb) (p:=⟨B.zb,p,none⟩) (Zc.refl _ _) (λ _=>rfl) _;have ap:=h1.ap;exact ⟨⟨nx,ρ,⟨h1.head.kept hk ap.a4,h1.list.kept hk (λ e=>ap.a8 e.symm),h1.ends.kept hk (λ e=>ap.a9 e.symm),h1.same.kept hk ap.a7,h1.sizes.set p v,ap⟩,h2⟩,hk.mono (λ _ _ e=>.inr (.inr e))⟩
def Zg8 (L:List Sym) (B:JB) (J:List Int) (ld:Int->Int) (w:World) (k:Int) (sz' : Nat->Int) (e:Ending) (w' : World):Prop:=e=.returned (.int .i64 k)∧JAt L B w' J ld sz' ∧ Zc B.Mem w w'
theorem Zrr {L:List Sym} {B:JB} {J:List Int} {ld:Int->Int} (hT:Trs L J) (hl:Zcq J ld) (hJ:J.length<=4000):∀ (n:Nat) (w:World) (sz:Nat->Int) (x k:Int) (sz' : Nat->Int),JAt L B w J ld sz->Z2 J x->Zbd sz->Vy L J ld n sz x=some (k,sz') ->
  Calls Tryz.prog 188 #[.pointer (some ⟨B.jb,0,none⟩),.int .i64 x] w (Zg8 L B J ld w k sz'):=by
 intro n
 induction n with
 | zero=>intro w sz x k sz' _ _ _ e;simp [Vy] at e
 | succ n ih=>
  intro w sz x k sz' h hx hs e;have cL:=Zfd h hx;have hpx:=hl.part x hx;have hsy:=hl.sym x hx;rw [Vy] at e;obtain ⟨p,hp⟩:∃ p,ld x=p:=⟨_,rfl⟩;rw [hp] at e cL hpx hsy
  by_cases h1:p<0
  ·rw [if_pos h1] at e
   simp only [Option.some.injEq,Prod.mk.injEq] at e;obtain ⟨rfl,rfl⟩:=e;clear ih h
   go_enter Tryz.func188,Tryz.ntmps188
   go_wp2_with (first | (go_at_call 189;refine cL.mono ?_;rintro e w1 ⟨rfl,hj1,hk1⟩))
   go_returns
   exact ⟨rfl,hj1,hk1.mono (λ _ _ f=>JB.way_mem f)⟩
  ·rw [if_neg h1] at e
   obtain ⟨p,rfl⟩:∃ v:Nat,p=(v:Int):=⟨p.toNat,by omega⟩;rw [Int.toNat_natCast] at e;have hpl:p<J.length:=by have:=hpx.2;omega
   have i1:(0:Int)<=(p:Int):=by omega
   have i2:(p:Int)<(J.length:Int):=by omega
   by_cases h2:sz p≠0
   ·rw [if_pos h2] at e
    simp only [Option.some.injEq,Prod.mk.injEq] at e;obtain ⟨rfl,rfl⟩:=e
    have CC:Hid (∀ w1,JAt L B w1 J ld sz->w1.cell? ⟨B.jb,202,none⟩=some (.slice (some ⟨B.zb,0,none⟩) J.length J.length)∧w1.cell? ⟨B.zb,p,none⟩=some (.int .i64 (sz p))):=by
     rintro w1 ⟨nx,ρ,hC, -⟩;exact ⟨hC.head.cells.2.2.2.1,(hC.sizes.cell hpl).1⟩
    obtain ⟨v,hv⟩:∃ v,sz p=v:=⟨_,rfl⟩;rw [hv] at CC h2 ⊢;clear ih h
    go_enter Tryz.func188,Tryz.ntmps188
    go_wp2_with (first | (go_at_call 189;refine cL.mono ?_;rintro e w1 ⟨rfl,hj1,hk1⟩;obtain ⟨g1,g2⟩:=CC.out w1 hj1))
    go_returns
    exact ⟨rfl,hj1,hk1.mono (λ _ _ f=>JB.way_mem f)⟩
   ·rw [if_neg h2] at e
    have h0:sz p=0:=by simpa using h2
    cases h3:Zaz (Vy L J ld n) (Zm L J p) 1 (Kg sz p (-1)) with
    | none=>simp [h3] at e
    | some v=>
     obtain ⟨s,sz1⟩:=v;simp only [h3] at e;have hF:=Yh hT hpl
     have CC:Hid (∀ w1,JAt L B w1 J ld sz->w1.cell? ⟨B.jb,202,none⟩=some (.slice (some ⟨B.zb,0,none⟩) J.length J.length)∧w1.cell? ⟨B.zb,p,none⟩=some (.int .i64 0)∧w1.frozen? ⟨B.zb,p,none⟩=false):=by
      rintro w1 ⟨nx,ρ,hC, -⟩;have:=hC.sizes.cell hpl;rw [h0] at this;exact ⟨hC.head.cells.2.2.2.1,this.1,this.2⟩
     have HE:Hid ((if s = -1 then some (-1,sz1) else some (s,Kg sz1 p s))=some (k,sz')):=e;have H3:Hid (Zaz (Vy L J ld n) (Zr L J (arN L (at' J p)) (p+1)) 1 (Kg sz p (-1))=some (s,sz1)):=h3;have hs2:Zbd (Kg sz p (-1)):=hs.upd _ (.inl rfl);have IH:Hid (∀ (w:World) (sz:Nat->Int) (x k:Int) (sz' : Nat->Int),JAt L B w J ld sz->Z2 J x->Zbd sz->Vy L J ld n sz x=some (k,sz')->Calls Tryz.prog 188 #[.pointer (some ⟨B.jb,0,none⟩),.int .i64 x] w (Zg8 L B J ld w k sz')):=ih;clear ih h e h3 h2;have i3:(p:Int)<4000:=by omega
     go_enter Tryz.func188,Tryz.ntmps188
     go_upto_region 7 with (first | (go_at_call 189;refine cL.mono ?_;rintro e w1 ⟨rfl,hj1,hk1⟩;obtain ⟨g1,g2,g3⟩:=CC.out w1 hj1))
     obtain ⟨hj2,hk2⟩:=hj1.setSize p (-1);obtain ⟨w2,hw2⟩:∃ w2,w1.setCell ⟨B.zb,p,none⟩ (.int .i64 (-1))=w2:=⟨_,rfl⟩;rw [hw2] at hj2 hk2 ⊢;have hK2:Zc B.Mem w w2:=(hk1.mono (λ _ _ f=>JB.way_mem f)).trans hk2 (λ _ _ f=>f);clear hw2 hk1 hk2 hj1 CC cL g1 g2 g3
     go_wp2_with fail
     go_loopg [6,7] (arN L (at' J p)) (λ c s6 s7 wr=>∃ (sum:Int) (t:Nat) (sq:Nat->Int),s6=.int .i64 sum∧s7=.int .i64 (t:Int)∧1<=sum∧sum<=2001∧Zu L J c t (Zq L J p)∧Zbd sq∧JAt L B wr J ld sq∧Zc B.Mem w wr∧Hid (Zaz (Vy L J ld n) (Zr L J c t) sum sq=some (s,sz1)))
     case atStart=>exact ⟨1,p+1,_,rfl,by go_num,by omega,by omega,hF,hs2,hj2,hK2,H3⟩
     case round=>
      clear hj2 hK2 H3 hs2 hF;obtain ⟨sum,t,sq,rfl,rfl,hs1,hs2,hF,hsq,hj,hK,HS⟩:=hrel;obtain ⟨nx,ρ,hC, -⟩:=id hj;obtain ⟨c0,c1,c2,c3,c4⟩:=hC.head.cells;have ce:=(hC.ends.cell hpl).1;cases gk with
      | zero=>
       have ht:=hF.zero;have i4:¬ (t:Int)<(Zq L J p:Int):=by omega
       have hss:sum=s∧sq=sz1:=by
        have:=HS.out
        simpa [Zr,Zaz] using this
       obtain ⟨rfl,rfl⟩:=hss;have hne:¬ sum = -1:=by omega
       have:=HE.out;rw [if_neg hne] at this;simp only [Option.some.injEq,Prod.mk.injEq] at this;obtain ⟨rfl,rfl⟩:=this;obtain ⟨z1,z2⟩:=hC.sizes.cell hpl;obtain ⟨y1,y2⟩:=hj.setSize p sum;have fin:Zg8 L B J ld w sum (Kg sq p sum) (.returned (.int .i64 sum)) (wr.setCell ⟨B.zb,p,none⟩ (.int .i64 sum)):=⟨rfl,y1,hK.trans y2 (λ _ _ f=>f)⟩;clear hC hj HS HE hF y1 y2 hK ht
       go_wp2_with fail
       go_returns
       exact fin
      | succ c=>
       have hpos:=hF.pos;obtain ⟨f1,f2,f3⟩:=hF.succ;have hle:=hF.le;have htl:t<J.length:=by omega
       have i4:(t:Int)<(Zq L J p:Int):=by omega
       have i5:(0:Int)<=(t:Int):=by omega
       have i6:(t:Int)<(J.length:Int):=by omega
       have ct:=(hC.ends.cell htl).1;have hst:=HS.out;rw [Zr,Zaz] at hst;cases hq:Vy L J ld n sq (t:Int) with
       | none=>simp [hq] at hst
       | some v=>
        obtain ⟨k1,sq1⟩:=v;simp only [hq] at hst;have cS:=IH.out wr sq t k1 sq1 hj (Zn htl) hsq hq;obtain ⟨o1,o2⟩:=Za0 n _ _ _ _ hsq hq;have HST:Hid ((if k1 = -1 then some (-1,sq1) else Zaz (Vy L J ld n) (Zr L J c (Zq L J t)) (min (sum+k1) 2001) sq1)=some (s,sz1)):=hst
        have CE:Hid (∀ w1,JAt L B w1 J ld sq1->w1.cell? ⟨B.jb,1,none⟩=some (.slice (some ⟨B.eb,0,none⟩) J.length J.length)∧w1.cell? ⟨B.eb,t,none⟩=some (.int .i64 (Zq L J t:Int))):=by
         rintro w1 ⟨nx,ρ,hC, -⟩;exact ⟨hC.head.cells.2.1,(hC.ends.cell htl).1⟩
        clear hst hC hj HS hq hsq
        by_cases hk1:k1 = -1
        ·subst hk1
         have:=HST.out;rw [if_pos rfl] at this;simp only [Option.some.injEq,Prod.mk.injEq] at this;obtain ⟨rfl,rfl⟩:=this;have:=HE.out;rw [if_pos rfl] at this;simp only [Option.some.injEq,Prod.mk.injEq] at this;obtain ⟨rfl,rfl⟩:=this;clear HE HST IH
         go_wp2_with (first | (go_at_call 188;refine cS.mono ?_;rintro e w3 ⟨rfl,hj3,hk3⟩))
         go_returns
         exact ⟨rfl,hj3,hK.trans hk3 (λ _ _ f=>f)⟩
        ·have:=HST.out
         rw [if_neg hk1] at this;have HST2:Hid (Zaz (Vy L J ld n) (Zr L J c (Zq L J t)) (min (sum+k1) 2001) sq1=some (s,sz1)):=this;have i7:1<=k1:=by omega
         have i8:k1<=2001:=by omega
         clear HST this o2
         go_upto_region 14 with (first | (go_at_call 188;refine cS.mono ?_;rintro e w3 ⟨rfl,hj3,hk3⟩;obtain ⟨g1,g2⟩:=CE.out w3 hj3))
         have hK3:=hK.trans hk3 (λ _ _ f=>f);clear HE IH hk3 hK cS CE
         by_cases hm:sum+k1<=2001
         ·rw [show min (sum+k1) 2001=sum+k1 by omega] at HST2
          go_wp2_with fail
          go_roundg c
          case measure=>omega
          case rel=>exact ⟨_,_,_,by go_num,rfl,by omega,by omega,f3,o1,hj3,hK3,HST2⟩
         ·rw [show min (sum+k1) 2001=2001 by omega] at HST2
          have hm' : 2001<sum+k1:=by omega
          go_wp2_with fail
          go_roundg c
          case measure=>omega
          case rel=>exact ⟨_,_,_,by go_num,rfl,by omega,by omega,f3,o1,hj3,hK3,HST2⟩
theorem Zsz {J:List Int} (hv:∀ x∈J, -198<=x):Led J (ld0 J) (ld0 J) (λ x=>if 0<=x then 1 else 0):=by
 have hl:=Zpw hv;refine ⟨hl.part,hl.idem,λ x _=>Iff.rfl,λ x hx hn=>?_⟩
 by_cases h:0<=x∧at' J x<0
 ·have e:ld0 J x=at' J x:=by unfold ld0;rw [if_pos h]
  simp only [e];rw [if_neg (by omega),if_pos h.1];omega
 ·exact absurd (by unfold ld0;rw [if_neg h]) hn
theorem JJ.jat {L:List Sym} {w0 w:World} {B:JB} {J:List Int} (hv:∀ x∈J, -198<=x) (h:JJ w0 B w J J.length (λ x=>x) (λ i=>(Zq L J i:Int)) (λ i=>ld0 J i)):JAt L B w J (ld0 J) (λ _=>0):=by
 refine ⟨ld0 J,_,⟨?_,?_,h.ends,h.same,h.sizes,h.ap⟩,Zsz hv⟩
 ·refine h.head.congr (λ v h1 h2=>?_)
  unfold ld0;rw [if_neg (by omega)]
 ·have hr:=h.row
  rcases hr.2 with ⟨e,_⟩ | ⟨g,cap,cur,hv', hb,hg,h1,h2,h3,h4⟩
  ·cases e
  ·simp only [Value.slice.injEq,Option.some.injEq,Addr.mk.injEq,and_true,true_and] at hv'
   obtain ⟨rfl,rfl⟩:=hv';refine ⟨cur,_,hg,by omega,λ i hi=>?_⟩;have:=hr.cellAt i (by omega);rw [Zb hg,Kj hi] at this;show cur[i]? = some (.int .i64 (at' J (i:Int)));rw [this,Yl J i hi]
theorem Zwk {L:List Sym} {a b:List Int} (ha:Ze L a=0) (hb:Ze L b=0) {ap:Nat} (hap:ap<=99):∀ x∈jl a b ap, -198<=x:=by
 intro x hx;unfold jl at hx
 rcases List.mem_append.1 hx with e | e
 ·have:=(Z4.1 (Zg.1 ha).2.1 x e).2;omega
 ·obtain ⟨y,hy,rfl⟩:=List.mem_map.1 e
  have:=(Z4.1 (Zg.1 hb).2.1 y hy).2;unfold shF;split <;> omega
def Zby (L:List Sym) (a b:List Int) (ap:Nat) (w:World) (e:Ending) (w' : World):Prop:=Za w w' ∧
 (Ze L a≠0->e=.returned (.tuple #[.pointer none,.int .i64 0,.int .i64 (Ze L a)])) ∧
 (Ze L a=0->Ze L b≠0->e=.returned (.tuple #[.pointer none,.int .i64 0,.int .i64 (Ze L b)])) ∧
 (Ze L a=0->Ze L b=0->Zeu L (jl a b ap) a.length=none->e=.returned (.tuple #[.pointer none,.int .i64 0,.int .i64 60])) ∧
 (Ze L a=0->Ze L b=0->∀ ld k,Zeu L (jl a b ap) a.length=some (ld,k)->∃ B sz', e=.returned (.tuple #[.pointer (some ⟨B.jb,0,none⟩),.int .i64 k,.int .i64 0])∧JAt L B w' (jl a b ap) ld sz' ∧ Zcq (jl a b ap) ld∧(∀ f,B.Foot f->w.heap.size<=f∧f<w'.heap.size)∧∃ u,Val L (jl a b ap) ld 0 u∧k=min (u.length:Int) 2001)
theorem Zo9 {b:Nat} {w:World} {L:List Sym} (h:Sg w.heap.size w b L) {xo yo:Option Addr} {xc yc:Nat} {x y:List Int} (hx:Zh w xo x) (hy:Zh w yo y) (hxm:x.length<=maxLen) (hym:y.length<=maxLen) {ap:Nat} (hap:ap<=99) :
  Calls Tryz.prog 182 #[.pointer (some ⟨b,0,none⟩),.slice xo x.length xc,.slice yo y.length yc,.int .i64 (ap:Int)] w (Zby L x y ap w):=by
 have c1:=Jj (cap:=xc) h hx hxm;have c2:Hid (∀ w1,Za w w1->Calls Tryz.prog 59 #[.pointer (some ⟨b,0,none⟩),.slice yo y.length yc] w1 λ e w' => e=.returned (.int .i64 (Ze L y))∧Za w1 w'):=λ w1 hk=>Jj (cap:=yc) (h.same hk) (hy.same hk) hym
 by_cases hz:Ze L x=0
 ·by_cases hq:Ze L y=0
  ·obtain ⟨x1,x2,x3⟩:=Zg.1 hz
   obtain ⟨y1,y2,y3⟩:=Zg.1 hq;obtain ⟨J,hJ⟩:∃ J,jl x y ap=J:=⟨_,rfl⟩;have hJl:J.length=x.length+y.length:=by rw [<- hJ];simp [jl]
   have hv:=Zwk hz hq hap;have hT:=Zcn (apart:=(ap:Int)) (by omega) x3 y3;rw [hJ] at hv hT;have p1:=Z6 x3;have p2:=Z6 y3;obtain ⟨res,hU,hR1,hR2⟩:=(Zjp hT hv (m:=x.length) (by omega) (by omega)).uni
   have CJ:Hid (∀ w1,Za w w1->Calls Tryz.prog 186 #[.pointer (some ⟨b,0,none⟩),.slice xo x.length xc,.slice yo y.length yc,.int .i64 (ap:Int)] w1 λ e w' => ∃ B,e=.returned (.pointer (some ⟨B.jb,0,none⟩))∧JAt L B w' J (ld0 J) (λ _=>0)∧(∀ f,B.Foot f->w.heap.size<=f)∧Za w w'):=by
    intro w1 hk
    have hg:Sg w1.heap.size w1 b L:=by
     have:=h.same hk;obtain ⟨⟨sv,mr,s1,s2⟩,s3⟩:=this;exact ⟨⟨sv,mr,s1,λ k hk' => Nat.lt_of_lt_of_le (s2 k hk') hk.size⟩,s3⟩
    refine (Zp1 hg (hx.same hk) (hy.same hk) x3 y3 x1 y1 (λ z hz=>(Z4.1 y2 z hz).2) hap).mono ?_;rintro e w' ⟨B,rfl,hj⟩;rw [hJ] at hj;exact ⟨B,rfl,hj.jat hv,λ f hf=>Nat.le_trans hk.size (hj.new f hf),hk.trans' hj.kept⟩
   have CU:Hid (∀ B w1,JAt L B w1 J (ld0 J) (λ _=>0)->Calls Tryz.prog 187 #[.pointer (some ⟨B.jb,0,none⟩),.int .i64 0,.int .i64 (x.length:Int)] w1 (UEnd L B J (λ _=>0) res w1)):=by
    intro B w1 hj;exact Zo5 (a:=0) hj (by omega) (by omega) (by omega) hU
   rw [hz] at c1;rw [hq] at c2;cases res with
   | none=>
    have HX:Hid (∀ w', Za w w' -> Zby L x y ap w (.returned (.tuple #[.pointer none,.int .i64 0,.int .i64 60])) w'):=by
     intro w' hk;refine ⟨hk,λ f=>absurd hz f,λ _ f=>absurd hq f,λ _ _ _=>rfl,λ _ _ ld k f=>?_⟩;rw [hJ,hR1 rfl] at f;cases f
    clear hU hR1 hR2 hz hq hx hy h hJ
    go_enter Tryz.func182,Tryz.ntmps182
    go_upto_region 4 with (first | (go_at_call 59;refine c1.mono ?_;rintro e w1 ⟨rfl,hk1⟩))
    go_upto_region 7 with (first | (go_at_call 59;refine (c2.out _ hk1).mono ?_;rintro e w2 ⟨rfl,hk2⟩))
    have K2:=hk1.trans' hk2
    go_wp2_with (first | (go_at_call 186;refine (CJ.out _ K2).mono ?_;rintro e w3 ⟨B,rfl,hj3,hf3,hk3⟩) | (go_at_call 187;refine (CU.out _ _ hj3).mono ?_;rintro e w4 ⟨-,he4,hk4⟩;obtain rfl:=he4 rfl;clear he4))
    have K4:Za w w4:=hk3.trans hk4 (λ i hi f=>by have:=hf3 i (JB.way_foot f);omega);exact bodyPost_ret (v:=.tuple #[.pointer none,.int .i64 0,.int .i64 60]) (by simp [results,Tryz.results182,go_sem]) rfl (HX.out _ K4)
   | some ld=>
    obtain ⟨hld,k,sz', hs,hk1,hk2⟩:=hR2 ld rfl;have CS:Hid (∀ B w1,JAt L B w1 J ld (λ _=>0)->Calls Tryz.prog 188 #[.pointer (some ⟨B.jb,0,none⟩),.int .i64 0] w1 (Zg8 L B J ld w1 k sz')):=λ B w1 hj=>Zrr hT hld (by omega) _ w1 _ 0 k sz' hj (Zn (p:=0) (by omega)) (λ p=>.inr ⟨by simp,by simp⟩) hs
    have HX:Hid (∀ B w', JAt L B w' J ld sz' -> (∀ f,B.Foot f->w.heap.size<=f)->Za w w' -> (k = -1->Zby L x y ap w (.returned (.tuple #[.pointer none,.int .i64 0,.int .i64 60])) w')∧(k ≠ -1->Zby L x y ap w (.returned (.tuple #[.pointer (some ⟨B.jb,0,none⟩),.int .i64 k,.int .i64 0])) w')):=by
     intro B w' hj hf hk
     have hfl:∀ f,B.Foot f->f<w'.heap.size:=by
      obtain ⟨nx,ρ,hC, -⟩:=id hj;exact λ f hf=>hC.lt hf
     refine ⟨λ e=>?_,λ e=>?_⟩
     ·refine ⟨hk,λ f=>absurd hz f,λ _ f=>absurd hq f,λ _ _ _=>rfl,λ _ _ ld k f=>?_⟩
      rw [hJ,hk1 e] at f;cases f
     ·obtain ⟨e1,u,e2,e3⟩:=hk2 e
      refine ⟨hk,λ f=>absurd hz f,λ _ f=>absurd hq f,λ _ _ f=>?_,λ _ _ ld' k' f=>?_⟩
      ·rw [hJ,e1] at f;cases f
      ·rw [hJ] at f ⊢
       rw [e1] at f;simp only [Option.some.injEq,Prod.mk.injEq] at f;obtain ⟨rfl,rfl⟩:=f;exact ⟨B,sz', rfl,hj,hld,λ f hf' => ⟨hf f hf', hfl f hf'⟩,u,e2,e3⟩
    clear hU hR1 hR2 hz hq hx hy h hJ hk1 hk2 hs
    go_enter Tryz.func182,Tryz.ntmps182
    go_upto_region 4 with (first | (go_at_call 59;refine c1.mono ?_;rintro e w1 ⟨rfl,hk1⟩))
    go_upto_region 7 with (first | (go_at_call 59;refine (c2.out _ hk1).mono ?_;rintro e w2 ⟨rfl,hk2⟩))
    have K2:=hk1.trans' hk2
    go_upto_region 10 with (first | (go_at_call 186;refine (CJ.out _ K2).mono ?_;rintro e w3 ⟨B,rfl,hj3,hf3,hk3⟩) | (go_at_call 187;refine (CU.out _ _ hj3).mono ?_;rintro e w4 ⟨he4, -,hk4⟩;obtain ⟨rfl,hj4⟩:=he4 ld rfl;clear he4))
    have K4:Za w w4:=hk3.trans hk4 (λ i hi f=>by have:=hf3 i (JB.way_foot f);omega)
    by_cases hk:k = -1
    ·subst hk
     go_wp2_with (first | (go_at_call 188;refine (CS.out _ _ hj4).mono ?_;rintro e w5 ⟨rfl,hj5,hk5⟩))
     have K5:Za w w5:=K4.trans hk5 (λ i hi f=>by
      have:=hf3 i (by rcases f with e | e | e;exact .inl e;exact .inr (.inr (.inr (.inl e)));exact .inr (.inr (.inr (.inr e))));omega)
     exact bodyPost_ret (v:=.tuple #[.pointer none,.int .i64 0,.int .i64 60]) (by simp [results,Tryz.results182,go_sem]) rfl ((HX.out B w5 hj5 hf3 K5).1 (by trivial))
    ·go_wp2_with (first | (go_at_call 188;refine (CS.out _ _ hj4).mono ?_;rintro e w5 ⟨rfl,hj5,hk5⟩))
     have K5:Za w w5:=K4.trans hk5 (λ i hi f=>by
      have:=hf3 i (by rcases f with e | e | e;exact .inl e;exact .inr (.inr (.inr (.inl e)));exact .inr (.inr (.inr (.inr e))));omega)
     exact bodyPost_ret (v:=.tuple #[.pointer (some ⟨B.jb,0,none⟩),.int .i64 k,.int .i64 0]) (by simp [results,Tryz.results182,go_sem]) rfl ((HX.out B w5 hj5 hf3 K5).2 hk)
  ·rw [hz] at c1
   have HX:Hid (∀ w', Za w w' -> Zby L x y ap w (.returned (.tuple #[.pointer none,.int .i64 0,.int .i64 (Ze L y)])) w'):=λ w' hk=>⟨hk,λ f=>absurd hz f,λ _ _=>rfl,λ _ f=>absurd f hq,λ _ f=>absurd f hq⟩;have hq' : (Ze L y == 0)=false:=by simpa using hq
   clear hz hq
   go_enter Tryz.func182,Tryz.ntmps182
   go_upto_region 4 with (first | (go_at_call 59;refine c1.mono ?_;rintro e w1 ⟨rfl,hk1⟩))
   go_wp2_with (first | (go_at_call 59;refine (c2.out _ hk1).mono ?_;rintro e w2 ⟨rfl,hk2⟩))
   exact bodyPost_ret (v:=.tuple #[.pointer none,.int .i64 0,.int .i64 (Ze L y)]) (by simp [results,Tryz.results182,go_sem]) rfl (HX.out _ (hk1.trans' hk2))
 ·have HX:Hid (∀ w', Za w w' -> Zby L x y ap w (.returned (.tuple #[.pointer none,.int .i64 0,.int .i64 (Ze L x)])) w'):=λ w' hk=>⟨hk,λ _=>rfl,λ f=>absurd f hz,λ f=>absurd f hz,λ f=>absurd f hz⟩
  have hz' : (Ze L x == 0)=false:=by simpa using hz
  clear hz
  go_enter Tryz.func182,Tryz.ntmps182
  go_wp2_with (first | (go_at_call 59;refine c1.mono ?_;rintro e w1 ⟨rfl,hk1⟩))
  exact bodyPost_ret (v:=.tuple #[.pointer none,.int .i64 0,.int .i64 (Ze L x)]) (by simp [results,Tryz.results182,go_sem]) rfl (HX.out _ hk1)
structure ZWk (Z:Array Value):Prop where
 size:Z.size=202
 var:∀ v,1<=v->v<199->Z[2+v]? = some (.int .i64 0)
 last:Z[201]? = some (.int .i64 0)
 one:Z.all (·.oneCell')=true
theorem Zcy {n b:Nat} {w:World} {L:List Sym} (h:Sg n w b L) {m:Nat} (hn:n<=m):Sg m w b L:=by
 obtain ⟨⟨sv,mr,s1,s2⟩,s3⟩:=h;exact ⟨⟨sv,mr,s1,λ k hk=>Nat.lt_of_lt_of_le (s2 k hk) hn⟩,s3⟩
def Zev (L:List Sym) (a b:List Int):Int:=if Ze L a≠0 then Ze L a else Ze L b
def Zbg (L:List Sym) (a b:List Int):Bool:=decide (Zev L a b=0) && (Zeu L (jl a b 99) a.length).isNone
theorem bad_ne (L:List Sym) (t:List Int):Za3 L t≠60:=by
 induction t with
 | nil=>simp [Za3]
 | cons x r ih=>
  simp only [Za3,ne_eq];split
  ·omega
  ·split
   ·omega
   ·exact ih
theorem Zme (L:List Sym) (t:List Int):Ze L t≠60:=by
 have:=bad_ne L t;unfold Ze;split
 ·omega
 ·split
  ·exact this
  ·split <;> omega
theorem Zp4 {b:Nat} {w:World} {L:List Sym} (h:Sg w.heap.size w b L) {xo yo:Option Addr} {xc yc:Nat} {x y:List Int} (hx:Zh w xo x) (hy:Zh w yo y) (hxm:x.length<=maxLen) (hym:y.length<=maxLen) :
  Calls Tryz.prog 173 #[.pointer (some ⟨b,0,none⟩),.slice xo x.length xc,.slice yo y.length yc] w λ e w' => e=.returned (.tuple #[.bool (Zbg L x y),.int .i64 (Zev L x y)])∧Za w w' := by
 have c:=Zo9 (xc:=xc) (yc:=yc) h hx hy hxm hym (ap:=99) (by omega);clear h hx hy
 by_cases hz:Ze L x=0
 ·by_cases hq:Ze L y=0
  ·have e0:Zev L x y=0:=by simp [Zev,hz,hq]
   cases hs:Zeu L (jl x y 99) x.length with
   | none=>
    have e1:Zbg L x y=true:=by simp [Zbg,e0,hs]
    rw [e0,e1];have c2:Calls Tryz.prog 182 #[.pointer (some ⟨b,0,none⟩),.slice xo x.length xc,.slice yo y.length yc,.int .i64 99] w λ e w' => e=.returned (.tuple #[.pointer none,.int .i64 0,.int .i64 60])∧Za w w' := c.mono (λ e w' g=>⟨g.2.2.2.1 hz hq hs,g.1⟩)
    clear c hz hq hs e0 e1
    go_enter Tryz.func173,Tryz.ntmps173
    go_wp2_with (first | (go_at_call 182;refine c2.mono ?_;rintro e w1 ⟨rfl,hk⟩))
    go_ret2
    exact ⟨rfl,hk⟩
   | some v=>
    obtain ⟨ld,k⟩:=v;have e1:Zbg L x y=false:=by simp [Zbg,e0,hs]
    rw [e0,e1]
    have c2:Calls Tryz.prog 182 #[.pointer (some ⟨b,0,none⟩),.slice xo x.length xc,.slice yo y.length yc,.int .i64 99] w λ e w' => (∃ j,e=.returned (.tuple #[.pointer (some ⟨j,0,none⟩),.int .i64 k,.int .i64 0]))∧Za w w' := c.mono (λ e w' g=>by
     obtain ⟨B,sz', a1,_⟩:=g.2.2.2.2 hz hq ld k hs
     exact ⟨⟨_,a1⟩,g.1⟩)
    clear c hz hq hs e0 e1
    go_enter Tryz.func173,Tryz.ntmps173
    go_wp2_with (first | (go_at_call 182;refine c2.mono ?_;rintro e w1 ⟨⟨j,rfl⟩,hk⟩))
    go_ret2
    exact ⟨rfl,hk⟩
  ·have e0:Zev L x y=Ze L y:=by simp [Zev,hz]
   have e1:Zbg L x y=false:=by simp [Zbg,e0,hq]
   rw [e0,e1];have c2:Calls Tryz.prog 182 #[.pointer (some ⟨b,0,none⟩),.slice xo x.length xc,.slice yo y.length yc,.int .i64 99] w λ e w' => e=.returned (.tuple #[.pointer none,.int .i64 0,.int .i64 (Ze L y)])∧Za w w' := c.mono (λ e w' g=>⟨g.2.2.1 hz hq,g.1⟩)
   have hn:(Ze L y == 60)=false:=by simpa using Zme L y
   clear c hz hq e0 e1
   go_enter Tryz.func173,Tryz.ntmps173
   go_wp2_with (first | (go_at_call 182;refine c2.mono ?_;rintro e w1 ⟨rfl,hk⟩))
   go_ret2
   exact ⟨rfl,hk⟩
 ·have e0:Zev L x y=Ze L x:=by simp [Zev,hz]
  have e1:Zbg L x y=false:=by simp [Zbg,e0,hz]
  rw [e0,e1];have c2:Calls Tryz.prog 182 #[.pointer (some ⟨b,0,none⟩),.slice xo x.length xc,.slice yo y.length yc,.int .i64 99] w λ e w' => e=.returned (.tuple #[.pointer none,.int .i64 0,.int .i64 (Ze L x)])∧Za w w' := c.mono (λ e w' g=>⟨g.2.1 hz,g.1⟩)
  have hn:(Ze L x == 60)=false:=by simpa using Zme L x
  clear c hz e0 e1
  go_enter Tryz.func173,Tryz.ntmps173
  go_wp2_with (first | (go_at_call 182;refine c2.mono ?_;rintro e w1 ⟨rfl,hk⟩))
  go_ret2
  exact ⟨rfl,hk⟩
end
abbrev Ru:=List Int × List Int
def Y7 (L:List Sym) (n:Int):Bool:=if n<0 then false else match L[n.toNat]? with | some x=>x.df | none=>false
theorem Zbv {L:List Sym} {i:Nat} (h:i<L.length):Y7 L (i:Int)=L[i].df:=by
 rw [Y7,if_neg (by omega)];simp [h]
theorem Zf9 {L:List Sym} {n:Int} (h:n<0∨(L.length:Int)<=n):Y7 L n=false:=by
 unfold Y7
 rcases h with h | h
 ·simp [h]
 ·rw [if_neg (by omega),List.getElem?_eq_none (by omega)]
def Zer (t:List Int):Nat:=t.countP (λ n=>decide (n<0))
theorem Zhk {t:List Int} {k:Nat} (h:k<t.length):Zer (t.take (k+1))=Zer (t.take k)+if t[k]<0 then 1 else 0:=by
 unfold Zer;rw [List.take_add_one,List.getElem?_eq_getElem h,List.countP_append];simp [List.countP_cons]
theorem Zkm (t:List Int):Zer t<=t.length:=List.countP_le_length
def Jm (l:List Int) (n:Int):Bool:=decide (n<0) && !decide (n∈l)
def V3 (L:List Sym) (a x:List Int):Bool:=!Zbg L a x && decide (Zev L a x=0)
def Zbu (L:List Sym) (N:Nat) (A:List Ru) (x:Ru):Nat->Bool
 | 0=>decide (N<=100)
 | 1=>decide (Ze L x.1=0) && decide (Ze L x.2=0)
 | 2=>decide (x.1.length<=200) && decide (x.2.length<=200)
 | 3=>Y7 L (x.1.headD (-1))
 | 4=>decide (Zer x.1=(Z3 x.1).length)
 | 5=>x.1.tail.all (λ n=>!Y7 L n)
 | 6=>x.2.all (λ n=>!Jm x.1 n)
 | _=>A.all (λ a=>!V3 L a.1 x.1)
def ckB (L:List Sym) (own l:List Ru) (j n:Nat):Bool:=Zbu L (own.length+l.length) (own++l.take n) (l.getD n ([],[])) j
def Yv (L:List Sym) (own l:List Ru) (j n:Nat):Prop:=(∀ i,i<j->∀ m,m<l.length->ckB L own l i m=true)∧∀ m,m<n->m<l.length->ckB L own l j m=true
def Xm (L:List Sym) (own l:List Ru) (j n:Nat):List (Int × Int):=
 if j=1 then [(71,(n:Int)),(if Ze L (l.getD n ([],[])).1=0 then Ze L (l.getD n ([],[])).2 else Ze L (l.getD n ([],[])).1, -1)]
 else if j=7 then [(77,(n:Int)),(78,(((own++l.take n).findIdx (λ a=>V3 L a.1 (l.getD n ([],[])).1):Nat):Int))]
 else [((70+j:Nat),(n:Int))]
def Ans (L:List Sym) (own l:List Ru) (ws:List (Int × Int)):Prop:=
 (ws=[]∧Yv L own l 8 0)∨∃ j n,j<8∧n<l.length∧Yv L own l j n∧ckB L own l j n=false∧ws=Xm L own l j n
theorem Yv.nil (L:List Sym) (own l:List Ru):Yv L own l 0 0:=⟨λ i hi=>absurd hi (by omega),λ m hm=>absurd hm (by omega)⟩
theorem Yv.step {L:List Sym} {own l:List Ru} {j n:Nat} (h:Yv L own l j n) (hc:ckB L own l j n=true):Yv L own l j (n+1):=
 ⟨h.1,λ m hm hl=>by
  by_cases e:m=n
  ·subst e;exact hc
  ·exact h.2 m (by omega) hl⟩
theorem Yv.next {L:List Sym} {own l:List Ru} {j n:Nat} (h:Yv L own l j n) (hn:l.length<=n):Yv L own l (j+1) 0:=
 ⟨λ i hi m hm=>by
  by_cases e:i=j
  ·subst e;exact h.2 m (by omega) hm
  ·exact h.1 i (by omega) m hm,λ m hm=>absurd hm (by omega)⟩
theorem Zdj (L:List Sym) (own l:List Ru) (j n:Nat):Xm L own l j n≠[]:=by
 unfold Xm;split
 ·simp
 ·split <;> simp
theorem Ans.uniq {L:List Sym} {own l:List Ru} {a b:List (Int × Int)} (h:Ans L own l a) (k:Ans L own l b):a=b:=by
 have key:∀ {j n j' n' : Nat},n<l.length->n' < l.length->Yv L own l j n->ckB L own l j n=false->Yv L own l j' n' -> ckB L own l j' n' = false->j=j' ∧ n=n' := by
  intro j n j' n' h1 h2 u1 c1 u2 c2
  have e:j=j' := by
   rcases Nat.lt_trichotomy j j' with q | q | q
   ·have:=u2.1 j q n h1;rw [c1] at this;cases this
   ·exact q
   ·have:=u1.1 j' q n' h2;rw [c2] at this;cases this
  subst e;refine ⟨rfl,?_⟩
  rcases Nat.lt_trichotomy n n' with q | q | q
  ·have:=u2.2 n q h1;rw [c1] at this;cases this
  ·exact q
  ·have:=u1.2 n' q h2;rw [c2] at this;cases this
 rcases h with ⟨rfl,u⟩ | ⟨j,n,h1,h2,u,c,rfl⟩
 ·rcases k with ⟨rfl,_⟩ | ⟨j,n,h1,h2,u', c,rfl⟩
  ·rfl
  ·have:=u.1 j h1 n h2;rw [c] at this;cases this
 ·rcases k with ⟨rfl,u'⟩ | ⟨j', n', h1', h2', u', c', rfl⟩
  ·have:=u'.1 j h1 n h2;rw [c] at this;cases this
  ·obtain ⟨rfl,rfl⟩:=key h2 h2' u c u' c'; rfl
theorem Ans.nil {L:List Sym} {own l:List Ru} (h:Ans L own l []):∀ j,j<8->∀ n,n<l.length->ckB L own l j n=true:=by
 rcases h with ⟨_,u⟩ | ⟨j,n,_,_,_,_,e⟩
 ·exact λ j hj n hn=>u.1 j hj n hn
 ·exact absurd e.symm (Zdj _ _ _ _ _)
theorem Ans.of_all {L:List Sym} {own l:List Ru} (h:∀ j,j<8->∀ n,n<l.length->ckB L own l j n=true):Ans L own l []:=.inl ⟨rfl,h,λ m hm=>absurd hm (by omega)⟩
theorem Zqb {L:List Sym} {a b:List Int} (ha:Ze L a=0) (hb:Ze L b=0):Zbg L a b=Zbg L b a:=by
 have one:∀ {a b:List Int},Ze L a=0->Ze L b=0->(Zeu L (jl a b 99) a.length).isNone=true->(Zeu L (jl b a 99) b.length).isNone=true:=by
  intro a b ha hb h
  rcases com_u (ap:=99) (Nat.le_refl _) hb ha with e | ⟨u,hu⟩
  ·have e' : Zeu L (jl b a 99) b.length=none:=e
   rw [e'];rfl
  ·obtain ⟨v,⟨ld,k,h1,_⟩,_⟩:=Zt3 ha hb hu
   rw [h1] at h;cases h
 have e1:Zev L a b=0:=by simp [Zev,ha,hb]
 have e2:Zev L b a=0:=by simp [Zev,ha,hb]
 unfold Zbg;rw [e1,e2];simp only [decide_true,Bool.true_and];cases h1:(Zeu L (jl a b 99) a.length).isNone with
 | true=>exact (one ha hb h1).symm
 | false=>
  cases h2:(Zeu L (jl b a 99) b.length).isNone with
  | false=>rfl
  | true=>have:=one hb ha h2;rw [h1] at this;cases this
theorem Zsb {L:List Sym} {a x:List Int} (ha:Ze L a=0) (hx:Ze L x=0):V3 L a x = !Zbg L x a:=by
 have e1:Zev L a x=0:=by simp [Zev,ha,hx]
 rw [V3,e1,Zqb ha hx];simp
section
open Go.RowKit Go.Extern.Stop Go.Stop Go.Extern
theorem Za8 (v:Value) (w:World):(Extern.ReflectliteType.typeOf #[.iface 58 v]).run Tryz.prog w=.ok (.iface 263 (.agg #[.pointer (some ⟨0,58,none⟩)])) w:=by kernel_rfl
theorem Vn (w:World):(callFunc 216 #[.agg #[.pointer (some ⟨0,58,none⟩)]]).run Tryz.prog w=.ok (.value (.bool true)) w:=
  (@run_callFunc_extern Tryz.prog 216 _ (Extern.ReflectliteType.method λ t => do Extern.Rtype.noPackHeld "Comparable" t; pure (.bool (<- typeInfo t).comparable)) Tryz.func216 (by kernel_rfl) (by kernel_rfl) (by kernel_rfl) (by kernel_rfl) _ w).trans (by kernel_rfl)
theorem Vb (v : Value) (w : World) : (Go.method 436 263 v "Comparable").run Tryz.prog w = .ok (216, v) w := by kernel_rfl
theorem Zp5 (v:Value) (xT:TypeId) (w:World):(Instr.typeAssert (.iface 58 v) xT 265 true).run Tryz.prog w=.ok (.tuple #[.nilIface,.bool false]) w:=run_typeAssert_lacksB Tryz.underlying265 (by kernel_rfl) (by kernel_rfl) v xT w
theorem Zdm (v:Value) (xT:TypeId) (w:World):(Instr.typeAssert (.iface 58 v) xT 268 true).run Tryz.prog w=.ok (.tuple #[.nilIface,.bool false]) w:=run_typeAssert_lacksB Tryz.underlying268 (by kernel_rfl) (by kernel_rfl) v xT w
theorem Zcp (v:Value) (xT:TypeId) (w:World):(Instr.typeAssert (.iface 58 v) xT 269 true).run Tryz.prog w=.ok (.tuple #[.nilIface,.bool false]) w:=run_typeAssert_lacksB Tryz.underlying269 (by kernel_rfl) (by kernel_rfl) v xT w
theorem Zge (v:Value) (xT:TypeId) (w:World):(Instr.typeAssert (.iface 98 v) xT 265 true).run Tryz.prog w=.ok (.tuple #[.iface 98 v,.bool true]) w:=run_typeAssert_hasB Tryz.underlying265 (by kernel_rfl) v xT w
theorem Km (v:Value) (xT:TypeId) (w:World):(Instr.typeAssert (.iface 98 v) xT 268 true).run Tryz.prog w=.ok (.tuple #[.iface 98 v,.bool true]) w:=run_typeAssert_hasB Tryz.underlying268 (by kernel_rfl) v xT w
theorem Zqe (v : Value) (w : World) : (Go.method 436 98 v "Is").run Tryz.prog w = .ok (209, v) w := by kernel_rfl
theorem Zb2 (v : Value) (w : World) : (Go.method 436 98 v "Unwrap").run Tryz.prog w = .ok (210, v) w := by kernel_rfl
theorem Zqx (a b:Int) (w:World):(binOp .eql 37 (.iface 58 (.int .i64 a)) (.iface 58 (.int .i64 b))).run Tryz.prog w=.ok (.bool (a == b)) w:=by kernel_rfl
theorem Zri (v u:Value) (w:World):(binOp .eql 37 (.iface 98 v) (.iface 58 u)).run Tryz.prog w=.ok (.bool false) w:=by kernel_rfl
theorem is_asE (v:Value) (xT:TypeId) (w:World):(Instr.typeAssert (.iface 58 v) xT 58 true).run Tryz.prog w=.ok (.tuple #[v,.bool true]) w:=by kernel_rfl
theorem Zv1 (v:Value) (w:World):(binOp .eql 37 .nilIface (.iface 58 v)).run Tryz.prog w=.ok (.bool false) w:=by kernel_rfl
def Yg (w:World):List (Int × Int)->Value->Prop
 | [],v=>v=.nilIface
 | (c,p) :: r,v=>(p = -1∧r=[]∧v=.iface 58 (.int .i64 c))∨(p ≠ -1∧∃ b u,v=.iface 98 (.pointer (some ⟨b,0,none⟩))∧w.heap[b]? = some (.cells #[.int .i64 c,.int .i64 p,u] 100 (0,0))∧Yg w r u)
theorem Yg.same {w w' : World} (hk:Za w w'):∀ {ws:List (Int × Int)} {v:Value},Yg w ws v->Yg w' ws v
 | [],_,h=>h
 | (c,p) :: r,v,h=>by
  rcases h with h | ⟨h0,b,u,h1,h2,h3⟩
  ·exact .inl h
  ·exact .inr ⟨h0,b,u,h1,hk.at0 h2,Yg.same hk h3⟩
theorem Zgv {w:World} {b:Nat} {c p:Int} {u:Value} (h:w.heap[b]? = some (.cells #[.int .i64 c,.int .i64 p,u] 100 (0,0))) (d:Int) :
  Calls Tryz.prog 209 #[.pointer (some ⟨b,0,none⟩),.iface 58 (.int .i64 d)] w λ e w' => e=.returned (.bool (d == c))∧w' = w:=by
 have aE:=is_asE;have b0:=Zb h 0;simp only [List.getElem?_toArray,List.getElem?_cons_zero] at b0;clear h
 by_cases hd:d=c
 ·have e1:(d == c)=true:=by simpa using hd
  go_enter Tryz.func209,Tryz.ntmps209
  go_wp2;go_ret;exact ⟨by rw [e1];rfl,rfl⟩
 ·have e1:(d == c)=false:=by simpa using hd
  go_enter Tryz.func209,Tryz.ntmps209
  go_wp2;go_ret;exact ⟨by rw [e1];rfl,rfl⟩
theorem J9 {w:World} {b:Nat} {c p:Int} {u:Value} (h:w.heap[b]? = some (.cells #[.int .i64 c,.int .i64 p,u] 100 (0,0))) :
  Calls Tryz.prog 210 #[.pointer (some ⟨b,0,none⟩)] w λ e w' => e=.returned u∧w' = w:=by
 have b0:=Zb h 2;simp only [List.getElem?_toArray,List.getElem?_cons_zero,List.getElem?_cons_succ] at b0;clear h
 go_enter Tryz.func210,Tryz.ntmps210
 go_wp2;go_ret;exact ⟨rfl,rfl⟩
theorem is_one (a d:Int) (w:World):Calls Tryz.prog 115 #[.iface 58 (.int .i64 a),.iface 58 (.int .i64 d)] w λ e w' => e=.returned (.bool (a == d))∧w' = w:=by
 have h8:=@run_callFunc_extern Tryz.prog 148 _ Extern.ReflectliteType.typeOf Tryz.func148 (by kernel_rfl) (by kernel_rfl) (by kernel_rfl) (by kernel_rfl);have tT:=Za8;have cT:=Vn;have mR:=Vb;have nE:=Zp5;have uE:=Zdm;have vE:=Zcp
 by_cases hd:a=d
 ·subst hd
  have e1:(a == a)=true:=by simp
  have eq:=Zqx a a;rw [e1] at eq ⊢;clear e1
  go_enter Tryz.func115,Tryz.ntmps115
  go_wp2;refine wp_loop_rounds 1 ?_;rw [rounds_succ];go_wp2;go_ret;exact ⟨rfl,rfl⟩
 ·have e1:(a == d)=false:=by simpa using hd
  have eq:=Zqx a d;rw [e1] at eq ⊢;clear hd e1
  go_enter Tryz.func115,Tryz.ntmps115
  go_wp2;refine wp_loop_rounds 1 ?_;rw [rounds_succ];go_wp2;go_ret;exact ⟨rfl,rfl⟩
theorem Ztb {w:World} {b:Nat} {c p:Int} (h:w.heap[b]? = some (.cells #[.int .i64 c,.int .i64 p,.nilIface] 100 (0,0))) (d:Int) :
  Calls Tryz.prog 115 #[.iface 98 (.pointer (some ⟨b,0,none⟩)),.iface 58 (.int .i64 d)] w λ e w' => e=.returned (.bool (d == c))∧w' = w:=by
 have h8:=@run_callFunc_extern Tryz.prog 148 _ Extern.ReflectliteType.typeOf Tryz.func148 (by kernel_rfl) (by kernel_rfl) (by kernel_rfl) (by kernel_rfl);have tT:=Za8;have cT:=Vn;have mR:=Vb;have nE:=Zge;have uE:=Km;have m1:=Zqe;have m2:=Zb2;have eq:=Zri;have c1:=Zgv h d;have c2:=J9 h;clear h;generalize (d == c)=r at *;cases r
 ·go_enter Tryz.func115,Tryz.ntmps115
  go_wp2;refine wp_loop_rounds 1 ?_;rw [rounds_succ]
  go_wp2_with (first | (go_at_call 209;refine c1.mono ?_;rintro e w' ⟨rfl,rfl⟩) | (go_at_call 210;refine c2.mono ?_;rintro e w' ⟨rfl,rfl⟩))
  go_ret;exact ⟨rfl,rfl⟩
 ·go_enter Tryz.func115,Tryz.ntmps115
  go_wp2;refine wp_loop_rounds 1 ?_;rw [rounds_succ]
  go_wp2_with (first | (go_at_call 209;refine c1.mono ?_;rintro e w' ⟨rfl,rfl⟩) | (go_at_call 210;refine c2.mono ?_;rintro e w' ⟨rfl,rfl⟩))
  go_ret;exact ⟨rfl,rfl⟩
theorem Zh6 {w:World} {b:Nat} {c p:Int} {k:Int} (h:w.heap[b]? = some (.cells #[.int .i64 c,.int .i64 p,.iface 58 (.int .i64 k)] 100 (0,0))) (d:Int) :
  Calls Tryz.prog 115 #[.iface 98 (.pointer (some ⟨b,0,none⟩)),.iface 58 (.int .i64 d)] w λ e w' => e=.returned (.bool ((d == c) || k == d))∧w' = w:=by
 have h8:=@run_callFunc_extern Tryz.prog 148 _ Extern.ReflectliteType.typeOf Tryz.func148 (by kernel_rfl) (by kernel_rfl) (by kernel_rfl) (by kernel_rfl);have tT:=Za8;have cT:=Vn;have mR:=Vb;have nE:=Zge;have uE:=Km;have m1:=Zqe;have m2:=Zb2;have eq:=Zri;have c1:=Zgv h d;have c2:=J9 h;have eqk:=Zqx k d w;have nE' := Zp5;have uE' := Zdm;have vE' := Zcp;clear h;generalize (d == c)=r at *;cases r
 ·simp only [Bool.false_or]
  generalize (k == d)=q at *;cases q
  ·go_enter Tryz.func115,Tryz.ntmps115
   go_wp2;refine wp_loop_rounds 2 ?_;rw [rounds_succ]
   go_wp2_with (first | (go_at_call 209;refine c1.mono ?_;rintro e w' ⟨rfl,rfl⟩) | (go_at_call 210;refine c2.mono ?_;rintro e w' ⟨rfl,rfl⟩))
   rw [rounds_succ];go_wp2;go_ret;exact ⟨rfl,rfl⟩
  ·go_enter Tryz.func115,Tryz.ntmps115
   go_wp2;refine wp_loop_rounds 2 ?_;rw [rounds_succ]
   go_wp2_with (first | (go_at_call 209;refine c1.mono ?_;rintro e w' ⟨rfl,rfl⟩) | (go_at_call 210;refine c2.mono ?_;rintro e w' ⟨rfl,rfl⟩))
   rw [rounds_succ];go_wp2;go_ret;exact ⟨rfl,rfl⟩
 ·simp only [Bool.true_or]
  clear c2
  go_enter Tryz.func115,Tryz.ntmps115
  go_wp2;refine wp_loop_rounds 2 ?_;rw [rounds_succ]
  go_wp2_with (first | (go_at_call 209;refine c1.mono ?_;rintro e w' ⟨rfl,rfl⟩))
  go_ret;exact ⟨rfl,rfl⟩
theorem Zic {w:World} {b:Nat} {c p:Int} {b' : Nat} {c' p' : Int} (h:w.heap[b]? = some (.cells #[.int .i64 c,.int .i64 p,.iface 98 (.pointer (some ⟨b', 0,none⟩))] 100 (0,0))) (h' : w.heap[b']? = some (.cells #[.int .i64 c', .int .i64 p', .nilIface] 100 (0,0))) (d:Int) :
  Calls Tryz.prog 115 #[.iface 98 (.pointer (some ⟨b,0,none⟩)),.iface 58 (.int .i64 d)] w λ e w' => e=.returned (.bool ((d == c) || d == c'))∧w' = w:=by
 have h8:=@run_callFunc_extern Tryz.prog 148 _ Extern.ReflectliteType.typeOf Tryz.func148 (by kernel_rfl) (by kernel_rfl) (by kernel_rfl) (by kernel_rfl);have tT:=Za8;have cT:=Vn;have mR:=Vb;have nE:=Zge;have uE:=Km;have m1:=Zqe;have m2:=Zb2;have eq:=Zri;have c1:=Zgv h d;have c2:=J9 h;have c3:=Zgv h' d;have c4:=J9 h';clear h';clear h;generalize (d == c)=r at *;cases r
 ·simp only [Bool.false_or]
  generalize (d == c')=q at *;cases q
  ·go_enter Tryz.func115,Tryz.ntmps115
   go_wp2;refine wp_loop_rounds 2 ?_;rw [rounds_succ]
   go_wp2_with (first | (go_at_call 209;refine c1.mono ?_;rintro e w' ⟨rfl,rfl⟩) | (go_at_call 210;refine c2.mono ?_;rintro e w' ⟨rfl,rfl⟩))
   rw [rounds_succ]
   go_wp2_with (first | (go_at_call 209;refine c3.mono ?_;rintro e w' ⟨rfl,rfl⟩) | (go_at_call 210;refine c4.mono ?_;rintro e w' ⟨rfl,rfl⟩))
   go_ret;exact ⟨rfl,rfl⟩
  ·go_enter Tryz.func115,Tryz.ntmps115
   go_wp2;refine wp_loop_rounds 2 ?_;rw [rounds_succ]
   go_wp2_with (first | (go_at_call 209;refine c1.mono ?_;rintro e w' ⟨rfl,rfl⟩) | (go_at_call 210;refine c2.mono ?_;rintro e w' ⟨rfl,rfl⟩))
   rw [rounds_succ]
   go_wp2_with (first | (go_at_call 209;refine c3.mono ?_;rintro e w' ⟨rfl,rfl⟩) | (go_at_call 210;refine c4.mono ?_;rintro e w' ⟨rfl,rfl⟩))
   go_ret;exact ⟨rfl,rfl⟩
 ·simp only [Bool.true_or]
  clear c2
  go_enter Tryz.func115,Tryz.ntmps115
  go_wp2;refine wp_loop_rounds 2 ?_;rw [rounds_succ]
  go_wp2_with (first | (go_at_call 209;refine c1.mono ?_;rintro e w' ⟨rfl,rfl⟩))
  go_ret;exact ⟨rfl,rfl⟩
theorem Zu8 (d:Int) (w:World):Calls Tryz.prog 115 #[.nilIface,.iface 58 (.int .i64 d)] w λ e w' => e=.returned (.bool false)∧w' = w:=by
 have hn:=Zv1
 go_enter Tryz.func115,Tryz.ntmps115
 go_wp2;go_ret;exact ⟨rfl,rfl⟩
def Zag (ws:List (Int × Int)) (d:Int):Bool:=decide (d∈ws.map Prod.fst)
theorem Vk {w:World} {ws:List (Int × Int)} {v:Value} (h:Yg w ws v) (h2:ws.length<=2) (d:Int) :
  Calls Tryz.prog 115 #[v,.iface 58 (.int .i64 d)] w λ e w' => e=.returned (.bool (Zag ws d))∧w' = w:=by
 match ws,h2 with
 | [],_=>
  obtain rfl:v=.nilIface:=h;exact Zu8 d w
 | [(c,p)],_=>
  rcases h with ⟨rfl,_,rfl⟩ | ⟨_,b,u,rfl,h1,hu⟩
  ·refine (is_one c d w).mono ?_
   rintro e w' ⟨rfl,rfl⟩;refine ⟨Ye ?_,rfl⟩
   by_cases e:d=c
   ·simp [Zag,e]
   ·simp [Zag,e];omega
  ·obtain rfl:u=.nilIface:=hu
   refine (Ztb h1 d).mono ?_;rintro e w' ⟨rfl,rfl⟩;refine ⟨Ye ?_,rfl⟩
   by_cases e:d=c <;> simp [Zag,e]
 | [(c,p),(c', p')],_=>
  rcases h with ⟨_,e,_⟩ | ⟨_,b,u,rfl,h1,hu⟩
  ·cases e
  ·rcases hu with ⟨rfl,_,rfl⟩ | ⟨_,b', u', rfl,h1', hu'⟩
   ·refine (Zh6 h1 d).mono ?_
    rintro e w' ⟨rfl,rfl⟩;refine ⟨Ye ?_,rfl⟩
    by_cases e:d=c
    ·simp [Zag,e]
    ·by_cases e' : d=c'
     ·simp [Zag,e']
     ·have:(c' == d)=false:=by simp;omega
      simp [Zag,e,e', this]
   ·obtain rfl:u' = .nilIface:=hu'
    refine (Zic h1 h1' d).mono ?_;rintro e w' ⟨rfl,rfl⟩;refine ⟨Ye ?_,rfl⟩
    by_cases e:d=c
    ·simp [Zag,e]
    ·by_cases e' : d=c' <;> simp [Zag,e,e']
end
section
open Go.RowKit Go.Deep
structure Arg (w:World) (ao:Option Addr) (xs:List Int) (cap:Nat):Prop where
 at' : Zh w ao xs
 cap' : xs.length<=cap
 nil:ao=none->xs.length=0∧cap=0
 size:xs.length * 8<=140737488351232
section
variable {H : Type} {enc : TypeId × Value -> H} {w : World} {spare : Nat -> Bool} {held : Bool}
theorem Zph:Tryz.prog.bytesOf 3=8:=by kernel_rfl
theorem Zi9 {t fuel:Nat} {cs:List Value} {x:DataW H × List MemPlace} (ht:Tryz.prog.underlying t=some (.slice 3)) (h:DataW.trod enc Tryz.prog w 0 spare held fuel t cs=some x) (hw:∀ n∈x.1.weights Tryz.prog t,n<=reachBytes) :
  ∃ ao cap xs,cs=[.slice ao xs.length cap]∧Arg w ao xs cap:=by
 have h' := h
 rcases open_slice ht h with ⟨hcs,_⟩ | ⟨a,len,cap,m,n,D,Pl,hcs,_,hl,hm,hmm,rfl,hx⟩
 ·exact ⟨none,0,[],hcs,.inl rfl,Nat.le_refl _,λ _=>⟨rfl,rfl⟩,by simp⟩
 ·subst hcs
  have hsz:len * 8<=140737488351232:=by
   have:=hw ((((List.range len).map D).length+((List.range (m-len)).map λ j=>D (len+j)).length) * Tryz.prog.bytesOf 3) (by simp [DataW.weights,ht]);rw [Zph] at this;simp [reachBytes] at this;omega
  rcases Zfo ht Zi2 (by omega) h' with ⟨e,_,_⟩ | ⟨a', e,hl1,hl2,hall⟩
  ·cases e
  ·cases e
   have each:∀ i,i<len->∃ z:Int,w.cell? ⟨a.block,a.off+i,none⟩=some (.int .i64 z):=by
    intro i hi;obtain ⟨_,_,cs,n,y,hl,hcell,hy⟩:=hall i hi;obtain ⟨z,e1,_,_⟩:=DataW.trod_int Tryz.underlying3 hy;subst e1;exact ⟨z,by simpa using hcell 0 (by omega)⟩
   obtain ⟨f,hf⟩:=Classical.axiomOfChoice (λ i:Fin len=>each i i.2);refine ⟨some a,cap,List.ofFn f,by simp,?_,by simpa using hl,(λ e=>by cases e),by simpa using hsz⟩
   by_cases h0:len=0
   ·subst h0;exact .inl (by simp)
   ·obtain ⟨ea,hlt,_⟩:=hall 0 (by omega)
    refine .inr ⟨a.block,a.off,by rw [<- ea],hlt,λ i hi=>?_⟩;have hi' : i<len:=by simpa using hi
    simpa using hf ⟨i,hi'⟩
theorem Znf:Tryz.prog.cellsOf 64=1:=by kernel_rfl
structure CaseIs (w:World) (v:Value) (lo:Option Addr) (ll lc:Nat) (ls:List Sym) (so:Option Addr) (tc:Nat) (t:List Int) (at' : Int) (uo:Option Addr) (uc:Nat) (u:List Int) (po:Option Addr) (pc:Nat) (path:List Int):Prop where
 eq:v=.agg #[.slice lo ll lc,.slice so t.length tc,.int .i64 at', .slice uo u.length uc,.slice po path.length pc]
 syms:Vi w lo ll ls
 sl:ll<=maxLen
 t' : Arg w so t tc
 u' : Arg w uo u uc
 p' : Arg w po path pc
end
end
end Go.Proofs.YtjahpnbijefncaaGreat
