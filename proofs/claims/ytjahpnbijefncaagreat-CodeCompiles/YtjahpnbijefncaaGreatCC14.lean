import Derived.Test.YtjahpnbijefncaaGreatCC13
namespace Go.Proofs.YtjahpnbijefncaaGreat
set_option maxRecDepth 100000
set_option linter.unusedVariables false
set_option maxHeartbeats 16000000
section
open Go.RowKit
attribute [local go_sem ↓] Go.wp_at_zero Go.wp_at_succ
theorem m_arg (v : Value) (w : World) : (Go.method 436 121 v "Arg").run Tryz.prog w = .ok (211, v) w := by kernel_rfl
theorem m_head (v : Value) (w : World) : (Go.method 436 121 v "Head").run Tryz.prog w = .ok (212, v) w := by kernel_rfl
theorem Zq6 {p0 p1 p2 p3:Nat} (w:World) :
  CallsD Tryz.prog 180 #[.pointer (some ⟨p0,0,none⟩),.pointer (some ⟨p1,0,none⟩),.pointer (some ⟨p2,0,none⟩),.pointer (some ⟨p3,0,none⟩)] .returning w λ e u' w' => e=.returned (.tuple #[])∧u' = .returning∧w' = w:=by
 have hne:=Zoh;refine callsD_of_wpS Tryz.func180 rfl λ c₀ cs hu=>?_;apply wpS_seq;apply wpS_region;simp [wpOpsS,go_sem,recoverD,hu,Tryz.ntmps180,Exit.thenS];apply wpS_of_wp
 go_wp2_with fail
 simp [go_sem,bodyPostS,results,Tryz.results180];cases c₀;simp only at hu;subst hu;rfl
theorem Zti (w:World) (o0 o1 o2 o3 o4:Obj):Za w (((((w.alloc o0).alloc o1).alloc o2).alloc o3).alloc o4)∧(((((w.alloc o0).alloc o1).alloc o2).alloc o3).alloc o4).heap[w.heap.size]? = some o0∧(((((w.alloc o0).alloc o1).alloc o2).alloc o3).alloc o4).heap[w.heap.size+1]? = some o1∧(((((w.alloc o0).alloc o1).alloc o2).alloc o3).alloc o4).heap[w.heap.size+1+1]? = some o2∧(((((w.alloc o0).alloc o1).alloc o2).alloc o3).alloc o4).heap[w.heap.size+1+1+1]? = some o3∧(((((w.alloc o0).alloc o1).alloc o2).alloc o3).alloc o4).heap[w.heap.size+1+1+1+1]? = some o4:=by
 obtain ⟨A,hA⟩:∃ A,A=w.alloc o0:=⟨_,rfl⟩;obtain ⟨B,hB⟩:∃ B,B=A.alloc o1:=⟨_,rfl⟩;obtain ⟨C,hC⟩:∃ C,C=B.alloc o2:=⟨_,rfl⟩;obtain ⟨D,hD⟩:∃ D,D=C.alloc o3:=⟨_,rfl⟩;have a0:A.heap[w.heap.size]? = some o0:=by rw [hA];exact heap_alloc_new _ _
 have a1:B.heap[A.heap.size]? = some o1:=by rw [hB];exact heap_alloc_new _ _
 have a2:C.heap[B.heap.size]? = some o2:=by rw [hC];exact heap_alloc_new _ _
 have a3:D.heap[C.heap.size]? = some o3:=by rw [hD];exact heap_alloc_new _ _
 have a4:(D.alloc o4).heap[D.heap.size]? = some o4:=heap_alloc_new _ _;have kA:Za w A:=by rw [hA];exact (Zc.refl _ _).alloc _
 have kB:Za A B:=by rw [hB];exact (Zc.refl _ _).alloc _
 have kC:Za B C:=by rw [hC];exact (Zc.refl _ _).alloc _
 have kD:Za C D:=by rw [hD];exact (Zc.refl _ _).alloc _
 have kE:Za D (D.alloc o4):=(Zc.refl _ _).alloc _;have sA:A.heap.size=w.heap.size+1:=by rw [hA];simp
 have sB:B.heap.size=w.heap.size+1+1:=by rw [hB];simp [sA]
 have sC:C.heap.size=w.heap.size+1+1+1:=by rw [hC];simp [sB]
 have sD:D.heap.size=w.heap.size+1+1+1+1:=by rw [hD];simp [sC]
 rw [sA] at a1;rw [sB] at a2;rw [sC] at a3;rw [sD] at a4;rw [<- hA,<- hB,<- hC,<- hD];exact ⟨(((kA.trans' kB).trans' kC).trans' kD).trans' kE,kE.at0 (kD.at0 (kC.at0 (kB.at0 a0))),kE.at0 (kD.at0 (kC.at0 a1)),kE.at0 (kD.at0 a2),kE.at0 a3,a4⟩
structure Zdp (w:World) (n:Nat) (cs:Array Value) (x y:Int) (wr:World):Prop where
 same:Za w wr
 le:w.heap.size<=n
 bx:wr.heap[n]? = some (.cells cs 180 (0,0))
 b1:wr.heap[n+1]? = some (.cells #[.int .i64 x] 3 (0,0))
 b2:wr.heap[n+1+1]? = some (.cells #[.int .i64 y] 3 (0,0))
 b3:wr.heap[n+1+1+1]? = some (.cells #[.bool false] 4 (0,0))
 b4:wr.heap[n+1+1+1+1]? = some (.cells #[.int .i64 0] 58 (0,0))
theorem Zdp.up {w:World} {n:Nat} {cs:Array Value} {x y:Int} {wr w' : World} (h:Zdp w n cs x y wr) (hk:Za wr w'):Zdp w n cs x y w' :=
 ⟨h.same.trans' hk,h.le,hk.at0 h.bx,hk.at0 h.b1,hk.at0 h.b2,hk.at0 h.b3,hk.at0 h.b4⟩
theorem Zdp.setx {w:World} {n:Nat} {cs:Array Value} {x y:Int} {wr:World} (h:Zdp w n cs x y wr) (z:Int):Zdp w n cs z y (wr.setCell ⟨n+1,0,none⟩ (.int .i64 z)):=by
 have k:=Zt wr (n+1) 0 (.int .i64 z);have hle:=h.le;exact ⟨Zc.trans h.same k (λ i hi e=>by omega),h.le,k.at h.bx (λ e=>by omega),Zs h.b1 0 _,k.at h.b2 (λ e=>by omega),k.at h.b3 (λ e=>by omega),k.at h.b4 (λ e=>by omega)⟩
theorem Zdp.sety {w:World} {n:Nat} {cs:Array Value} {x y:Int} {wr:World} (h:Zdp w n cs x y wr) (z:Int):Zdp w n cs x z (wr.setCell ⟨n+1+1,0,none⟩ (.int .i64 z)):=by
 have k:=Zt wr (n+1+1) 0 (.int .i64 z);have hle:=h.le;exact ⟨Zc.trans h.same k (λ i hi e=>by omega),h.le,k.at h.bx (λ e=>by omega),k.at h.b1 (λ e=>by omega),Zs h.b2 0 _,k.at h.b3 (λ e=>by omega),k.at h.b4 (λ e=>by omega)⟩
theorem Zdp.setb {w:World} {n:Nat} {cs:Array Value} {x y:Int} {wr:World} (h:Zdp w n cs x y wr):Zdp w n cs x y (wr.setCell ⟨n+1+1+1,0,none⟩ (.bool false)):=by
 have k:=Zt wr (n+1+1+1) 0 (.bool false);have hle:=h.le;exact ⟨Zc.trans h.same k (λ i hi e=>by omega),h.le,k.at h.bx (λ e=>by omega),k.at h.b1 (λ e=>by omega),k.at h.b2 (λ e=>by omega),Zs h.b3 0 _,k.at h.b4 (λ e=>by omega)⟩
theorem Zdp.sete {w:World} {n:Nat} {cs:Array Value} {x y:Int} {wr:World} (h:Zdp w n cs x y wr):Zdp w n cs x y (wr.setCell ⟨n+1+1+1+1,0,none⟩ (.int .i64 0)):=by
 have k:=Zt wr (n+1+1+1+1) 0 (.int .i64 0);have hle:=h.le;exact ⟨Zc.trans h.same k (λ i hi e=>by omega),h.le,k.at h.bx (λ e=>by omega),k.at h.b1 (λ e=>by omega),k.at h.b2 (λ e=>by omega),k.at h.b3 (λ e=>by omega),Zs h.b4 0 _⟩
theorem Zdp.cells {w:World} {n:Nat} {cs:Array Value} {x y:Int} {wr:World} (h:Zdp w n cs x y wr):(wr.cell? ⟨n+1,0,none⟩=some (.int .i64 x)∧wr.cell? ⟨n+1+1,0,none⟩=some (.int .i64 y)∧wr.cell? ⟨n+1+1+1,0,none⟩=some (.bool false)∧wr.cell? ⟨n+1+1+1+1,0,none⟩=some (.int .i64 0))∧wr.frozen? ⟨n+1,0,none⟩=false∧wr.frozen? ⟨n+1+1,0,none⟩=false∧wr.frozen? ⟨n+1+1+1,0,none⟩=false∧wr.frozen? ⟨n+1+1+1+1,0,none⟩=false:=
 ⟨⟨Zb h.b1 0,Zb h.b2 0,Zb h.b3 0,Zb h.b4 0⟩,Zd h.b1 0,Zd h.b2 0,Zd h.b3 0,Zd h.b4 0⟩
def Zay (L:List Sym) (ok:Bool) (T:List Int) (node:Int) (p:List Int):Int:=p.foldl (λ x n=>Zn9 L ok T x n) node
theorem Zq3 {L:List Sym} {ok:Bool} {T:List Int} {node:Int} {p:List Int} {k:Nat} (h:k<p.length):Zay L ok T node (p.take (k+1))=Zn9 L ok T (Zay L ok T node (p.take k)) p[k]:=by
 have e:p.take (k+1)=p.take k ++ [p[k]]:=by rw [List.take_add_one,List.getElem?_eq_getElem h];rfl
 unfold Zay;rw [e,List.foldl_append];rfl
theorem Zs7 {base:Nat} {w:World} {L:List Sym} {ok:Bool} {T:List Int} {ho:Option Addr} {hn hc:Nat} {go:Option Addr} {gn gc:Nat} (hv:Zhj base w L ok T (.agg #[.slice ho hn hc,.slice go gn gc])) {po:Option Addr} {pc:Nat} {p:List Int} (hp:Zh w po p) (hm:p.length<=maxLen) (c0 c1 c2 c3:Option Addr) (l0 l1 l2 l3 d0 d1 d2 d3:Nat) (node:Int) :
  Calls Tryz.prog 158 #[.agg #[.slice c0 l0 d0,.slice c1 l1 d1,.slice c2 l2 d2,.slice c3 l3 d3,.iface 121 (.agg #[.slice ho hn hc,.slice go gn gc]),.int .i64 node],.slice po p.length pc] w λ e w' => e=.returned (.tuple #[.int .i64 (Zay L ok T node p),.int .i64 (Jx ok T (Zay L ok T node p)),.bool false,.int .i64 0])∧Za w w' := by
 have mA:=m_arg;have mH:=m_head;unfold maxLen at hm;obtain ⟨W1,hW1⟩:∃ W1,W1=((((w.alloc (.cells #[.slice c0 l0 d0,.slice c1 l1 d1,.slice c2 l2 d2,.slice c3 l3 d3,.iface 121 (.agg #[.slice ho hn hc,.slice go gn gc]),.int .i64 node] 180)).alloc (.cells #[.int .i64 0] 3)).alloc (.cells #[.int .i64 0] 3)).alloc (.cells #[.bool false] 4)).alloc (.cells #[.int .i64 0] 58):=⟨_,rfl⟩
 have A1:Zdp w w.heap.size #[.slice c0 l0 d0,.slice c1 l1 d1,.slice c2 l2 d2,.slice c3 l3 d3,.iface 121 (.agg #[.slice ho hn hc,.slice go gn gc]),.int .i64 node] 0 0 W1:=by
  obtain ⟨q0,q1,q2,q3,q4,q5⟩:=Zti w (.cells #[.slice c0 l0 d0,.slice c1 l1 d1,.slice c2 l2 d2,.slice c3 l3 d3,.iface 121 (.agg #[.slice ho hn hc,.slice go gn gc]),.int .i64 node] 180) (.cells #[.int .i64 0] 3) (.cells #[.int .i64 0] 3) (.cells #[.bool false] 4) (.cells #[.int .i64 0] 58);rw [<- hW1] at q0 q1 q2 q3 q4 q5;exact ⟨q0,Nat.le_refl _,q1,q2,q3,q4,q5⟩
 have HP:Hid (∀ ww k (hk:k<p.length),Za w ww->∃ pb off,po=some ⟨pb,off,none⟩∧ww.cell? ⟨pb,off+k,none⟩=some (.int .i64 p[k])):=λ ww k hk hs=>by
  obtain ⟨pb,off,e,_,hcc⟩:=(hp.same hs).get hk;exact ⟨pb,off,e,hcc⟩
 have CA:Hid (∀ ww x z,Za w ww->Calls Tryz.prog 211 #[.agg #[.slice ho hn hc,.slice go gn gc],.int .i64 x,.int .i64 z] ww λ e w' => e=.returned (.int .i64 (Zn9 L ok T x z))∧Za ww w'):=λ ww x z hk=>Zvg (hv.same hk) x z;have CH:Hid (∀ ww x,Za w ww->Calls Tryz.prog 212 #[.agg #[.slice ho hn hc,.slice go gn gc],.int .i64 x] ww λ e w' => e=.returned (.tuple #[.int .i64 (Jx ok T x),.bool false])∧Za ww w'):=λ ww x hk=>Zr4 (hv.same hk) x;have BX:Hid (∀ x y ww,Zdp w w.heap.size #[.slice c0 l0 d0,.slice c1 l1 d1,.slice c2 l2 d2,.slice c3 l3 d3,.iface 121 (.agg #[.slice ho hn hc,.slice go gn gc]),.int .i64 node] x y ww->ww.cell? ⟨w.heap.size,4,none⟩=some (.iface 121 (.agg #[.slice ho hn hc,.slice go gn gc]))∧ww.cell? ⟨w.heap.size,5,none⟩=some (.int .i64 node)):=λ x y ww h=>⟨Zb h.bx 4,Zb h.bx 5⟩;obtain ⟨x4,x5⟩:=BX.out _ _ _ A1;obtain ⟨⟨a1,a2,a3,a4⟩,f1,f2,f3,f4⟩:=A1.cells;have H2:Hid (Zdp w w.heap.size #[.slice c0 l0 d0,.slice c1 l1 d1,.slice c2 l2 d2,.slice c3 l3 d3,.iface 121 (.agg #[.slice ho hn hc,.slice go gn gc]),.int .i64 node] (Zay L ok T node (p.take 0)) 0 (W1.setCell ⟨w.heap.size+1,0,none⟩ (.int .i64 node))):=A1.setx node;clear hv hp A1
 go_enter_defers Tryz.func158,Tryz.ntmps158
 go_upto_region 1 with fail
 rw [<- hW1];clear hW1
 go_upto_region 4 with fail
 go_loopw [15] (λ s15 wr=>∃ k:Nat,k<=p.length∧s15=.int .i64 (k:Int)∧Zdp w w.heap.size #[.slice c0 l0 d0,.slice c1 l1 d1,.slice c2 l2 d2,.slice c3 l3 d3,.iface 121 (.agg #[.slice ho hn hc,.slice go gn gc]),.int .i64 node] (Zay L ok T node (p.take k)) 0 wr) (λ s15 _=>p.length-(intOf s15).toNat)
 case atStart=>exact ⟨0,Nat.zero_le _,rfl,H2.out⟩
 case round=>
  clear H2 x4 x5 a1 a2 a3 a4 f1 f2 f3 f4;obtain ⟨k,hk,rfl,hA⟩:=hrel;obtain ⟨x4,x5⟩:=BX.out _ _ _ hA;obtain ⟨⟨a1,a2,a3,a4⟩,f1,f2,f3,f4⟩:=hA.cells
  by_cases hlt:k<p.length
  ·obtain ⟨pb,off,rfl,hcl⟩:=HP.out wr k hlt hA.same
   have C:=CA.out wr (Zay L ok T node (p.take k)) p[k] hA.same
   have NX:Hid (∀ ww,Za wr ww->(ww.cell? ⟨w.heap.size+1,0,none⟩=some (.int .i64 (Zay L ok T node (p.take k)))∧ww.frozen? ⟨w.heap.size+1,0,none⟩=false)∧Zdp w w.heap.size #[.slice c0 l0 d0,.slice c1 l1 d1,.slice c2 l2 d2,.slice c3 l3 d3,.iface 121 (.agg #[.slice ho hn hc,.slice go gn gc]),.int .i64 node] (Zay L ok T node (p.take (k+1))) 0 (ww.setCell ⟨w.heap.size+1,0,none⟩ (.int .i64 (Zn9 L ok T (Zay L ok T node (p.take k)) p[k])))):=λ ww hs=>by
    rw [Zq3 hlt];exact ⟨⟨(hA.up hs).cells.1.1,(hA.up hs).cells.2.1⟩,(hA.up hs).setx _⟩
   have i1:(0:Int)<=(k:Int):=by omega
   have i2:(k:Int)<(p.length:Int):=by omega
   generalize Zn9 L ok T (Zay L ok T node (p.take k)) p[k]=z at *;generalize Zay L ok T node (p.take k)=y at *;generalize p[k]=q at *;clear hA CA CH HP BX
   go_wp2_with (first | (go_at_call 211;refine C.mono ?_;rintro e w2 ⟨rfl,k2⟩;obtain ⟨⟨m0,m1⟩,m2⟩:=NX.out w2 k2))
   go_roundw
   case rel=>first | exact ⟨k+1,by omega,by go_num,m2⟩ | ((repeat apply Exists.intro);exact ⟨⟨k+1,by omega,by go_num,m2⟩,rfl⟩)
   case measure=>simp [intOf];omega
  ·obtain rfl:k=p.length:=by omega
   rw [List.take_of_length_le (Nat.le_refl _)] at hA a1;have C:=CH.out wr (Zay L ok T node p) hA.same;have NX:Hid (∀ ww,Za wr ww->Zdp w w.heap.size #[.slice c0 l0 d0,.slice c1 l1 d1,.slice c2 l2 d2,.slice c3 l3 d3,.iface 121 (.agg #[.slice ho hn hc,.slice go gn gc]),.int .i64 node] (Zay L ok T node p) 0 ww):=λ ww hs=>hA.up hs;obtain ⟨y,hy⟩:∃ y,y=Zay L ok T node p:=⟨_,rfl⟩;obtain ⟨z,hz⟩:∃ z,z=Jx ok T (Zay L ok T node p):=⟨_,rfl⟩;have HYZ:Hid (y=Zay L ok T node p∧z=Jx ok T (Zay L ok T node p)):=⟨hy,hz⟩;rw [<- hz,<- hy] at C;rw [<- hy] at NX a1;clear hy hz;clear hA CA CH HP BX
   go_upto_region 9 with (first | (go_at_call 212;refine C.mono ?_;rintro e w2 ⟨rfl,k2⟩;have n0:=NX.out w2 k2;obtain ⟨⟨b1,b2,b3,b4⟩,g1,g2,g3,g4⟩:=n0.cells;obtain ⟨⟨e1,e2,e3,e4⟩,h1,h2,h3,h4⟩:=(n0.sety z).cells))
   have n3:=(n0.sety z).setb;obtain ⟨w3,hw3⟩:∃ w3,w3=(w2.setCell ⟨w.heap.size+1+1,0,none⟩ (.int .i64 z)).setCell ⟨w.heap.size+1+1+1,0,none⟩ (.bool false):=⟨_,rfl⟩;rw [<- hw3] at n3 ⊢;clear hw3 n0 b1 b2 b3 b4 g1 g2 g3 g4 e1 e2 e3 e4 h1 h2 h3 h4 x4 x5 a1 a2 a3 a4 f1 f2 f3 f4 NX k2 C;obtain ⟨⟨a1,a2,a3,a4⟩,f1,f2,f3,f4⟩:=n3.cells;obtain ⟨⟨b1,b2,b3,b4⟩,g1,g2,g3,g4⟩:=(n3.setx y).cells;obtain ⟨⟨c1', c2', c3', c4'⟩,i1,i2,i3,i4⟩:=((n3.setx y).sety z).cells;obtain ⟨⟨e1,e2,e3,e4⟩,h1,h2,h3,h4⟩:=(((n3.setx y).sety z).setb).cells;have nf:=(((n3.setx y).sety z).setb).sete;have NF:Hid _:=nf;clear nf n3
   go_region
   all_goals
    go_wp2_with fail
    refine leaves_cons (f:=180) (args:=#[.pointer (some ⟨w.heap.size+1,0,none⟩),.pointer (some ⟨w.heap.size+1+1,0,none⟩),.pointer (some ⟨w.heap.size+1+1+1,0,none⟩),.pointer (some ⟨w.heap.size+1+1+1+1,0,none⟩)]) (by simp) (by simp [go_sem]) ?_;refine (Zq6 _).mono ?_;rintro e u' w'' ⟨rfl,rfl,rfl⟩;have nn:=NF.out.up (Zc.drew (Zc.refl _ _));obtain ⟨⟨r1,r2,r3,r4⟩,_⟩:=nn.cells;simp [Leaves,settle,results,Tryz.results158,go_sem,r1,r2,r3,r4];exact ⟨HYZ.out,nn.same⟩
end
abbrev I3:=Int × Int × Int
abbrev St9:=List I3 × List (List Int)
def setB:List I3->Nat->Int->List I3
 | [],_,_=>[]
 | x :: r,0,b=>(x.1,x.2.1,b) :: r
 | x :: r,c+1,b=>x :: setB r c b
theorem Vu:∀ (I:List I3) (c:Nat) (b:Int),(setB I c b).length=I.length
 | [],_,_=>rfl
 | _ :: _,0,_=>rfl
 | _ :: r,c+1,b=>by simp [setB,Vu r c b]
def Ke {α:Type} (f:α->St9->St9):List (Int × α)->Nat->St9->St9
 | [],_,s=>s
 | x :: r,c,s=>Ke f r (c+1) (f x.2 (setB s.1 c (s.1.length:Int),s.2))
theorem Zh0 {α:Type} (f:α->St9->St9):∀ (l:List (Int × α)) (x:Int × α) (c:Nat) (s:St9),Ke f (l ++ [x]) c s=f x.2 (setB (Ke f l c s).1 (c+l.length) ((Ke f l c s).1.length:Int),(Ke f l c s).2)
 | [],x,c,s=>by simp [Ke]
 | y :: r,x,c,s=>by
  rw [List.cons_append,Ke,Zh0 f r x (c+1),List.length_cons];simp only [Ke];rw [show c+1+r.length=c+(r.length+1) by omega]
def Xc (p:List Int) (ks:List Int) (s:St9):St9:=(s.1 ++ [(1,(s.2.length:Int),0)]++ks.map (λ k=>((2,k,0):I3)) ++ [(3,0,0)],s.2 ++ [p])
def Jc:(n:Nat)->Tr n->St9->St9
 | 0,_,s=>s
 | n+1,(k,r,p,l),s=>
  if k=1 then (s.1 ++ [(4,r,0)],s.2)
  else if k=2 then Ke (Jc n) l (s.1.length+1) (Xc p (l.map (λ x=>x.1)) s)
  else (s.1 ++ [(3,0,0)],s.2)
def Za6:(n:Nat)->Tr n->Nat
 | 0,_=>0
 | n+1,(k,r,p,l)=>if k=2 then 3+l.length+Zbs (l.map (λ x=>Za6 n x.2)) else 1
theorem Zgx {α:Type} {f:α->St9->St9} {g:α->Nat}:∀ (l:List (Int × α)) (c:Nat) (s:St9),(∀ x∈l,∀ s,(f x.2 s).1.length+(f x.2 s).2.length<=s.1.length+s.2.length+g x.2∧s.1.length<=(f x.2 s).1.length∧s.2.length<=(f x.2 s).2.length)->(Ke f l c s).1.length+(Ke f l c s).2.length<=s.1.length+s.2.length+Zbs (l.map (λ x=>g x.2))∧s.1.length<=(Ke f l c s).1.length∧s.2.length<=(Ke f l c s).2.length
 | [],c,s,_=>by simp [Ke,Zbs]
 | x :: r,c,s,h=>by
  obtain ⟨a1,a2,a3⟩:=h x (List.mem_cons_self ..) (setB s.1 c (s.1.length:Int),s.2);obtain ⟨b1,b2,b3⟩:=Zgx (g:=g) r (c+1) (f x.2 (setB s.1 c (s.1.length:Int),s.2)) (λ y hy=>h y (List.mem_cons_of_mem _ hy));simp only [Vu] at a1 a2 a3;simp only [Ke,List.map_cons,Zbs];omega
theorem Zg5 {n:Nat} (k r:Int) (p:List Int) (l:List (Int × Tr n)) (s:St9):Jc (n+1) (k,r,p,l) s=if k=1 then (s.1 ++ [(4,r,0)],s.2) else if k=2 then Ke (Jc n) l (s.1.length+1) (Xc p (l.map (λ x=>x.1)) s) else (s.1 ++ [(3,0,0)],s.2):=rfl
theorem Zgw {n:Nat} (k r:Int) (p:List Int) (l:List (Int × Tr n)):Za6 (n+1) (k,r,p,l)=if k=2 then 3+l.length+Zbs (l.map (λ x=>Za6 n x.2)) else 1:=rfl
theorem Zgi:∀ (n:Nat) (t:Tr n) (s:St9),(Jc n t s).1.length+(Jc n t s).2.length<=s.1.length+s.2.length+Za6 n t∧s.1.length<=(Jc n t s).1.length∧s.2.length<=(Jc n t s).2.length
 | 0,_,s=>by simp [Jc,Za6]
 | n+1,(k,r,p,l),s=>by
  rw [Zg5,Zgw]
  by_cases h1:k=1
  ·rw [if_pos h1,if_neg (by omega)];simp;omega
  ·rw [if_neg h1]
   by_cases h2:k=2
   ·rw [if_pos h2,if_pos h2]
    obtain ⟨a,b,c⟩:=Zgx (f:=Jc n) (g:=Za6 n) l (s.1.length+1) (Xc p (l.map (λ x=>x.1)) s) (λ x _ s=>Zgi n x.2 s);have e1:(Xc p (l.map (λ x=>x.1)) s).1.length=s.1.length+1+l.length+1:=by simp [Xc];omega
    have e2:(Xc p (l.map (λ x=>x.1)) s).2.length=s.2.length+1:=by simp [Xc]
    rw [e1,e2] at a;rw [e1] at b;rw [e2] at c;omega
   ·rw [if_neg h2,if_neg h2];simp;omega
theorem Zij {n:Nat} {k r:Int} {p:List Int} {l:List (Int × Tr n)} (h:k=1) (s:St9):Jc (n+1) (k,r,p,l) s=(s.1 ++ [(4,r,0)],s.2):=by
 rw [Zg5,if_pos h]
theorem Zdw {n:Nat} {k r:Int} {p:List Int} {l:List (Int × Tr n)} (h:k=2) (s:St9):Jc (n+1) (k,r,p,l) s=Ke (Jc n) l (s.1.length+1) (Xc p (l.map (λ x=>x.1)) s):=by
 rw [Zg5,if_neg (by omega),if_pos h]
theorem Zhf {n:Nat} {k r:Int} {p:List Int} {l:List (Int × Tr n)} (h1:¬ k=1) (h2:¬ k=2) (s:St9):Jc (n+1) (k,r,p,l) s=(s.1 ++ [(3,0,0)],s.2):=by
 rw [Zg5,if_neg h1,if_neg h2]
def Zap (I:List I3):List Int:=I.flatMap (λ x=>[x.1,x.2.1,x.2.2])
theorem Zi0 (a b:List I3):Zap (a++b)=Zap a++Zap b:=by simp [Zap]
theorem Zma:∀ (I:List I3) (i:Nat) (h:i<I.length),(Zap I)[i * 3]? = some I[i].1∧(Zap I)[i * 3+1]? = some I[i].2.1∧(Zap I)[i * 3+2]? = some I[i].2.2
 | x :: r,0,h=>⟨rfl,rfl,rfl⟩
 | x :: r,i+1,h=>by
  have e:Zap (x :: r)=x.1 :: x.2.1 :: x.2.2 :: Zap r:=rfl;have:=Zma r i (by simpa using h);rw [e,show (i+1) * 3=i * 3+1+1+1 by omega,show i * 3+1+1+1+1=(i * 3+1)+1+1+1 by omega,show i * 3+1+1+1+2=(i * 3+2)+1+1+1 by omega]
  simpa using this
theorem Zfx:∀ (I:List I3) (c:Nat) (b:Int),Zap (setB I c b)=(Zap I).set (c * 3+2) b
 | [],_,_=>by simp [setB,Zap]
 | x :: r,0,b=>rfl
 | x :: r,c+1,b=>by
  have e:∀ (x:I3) r,Zap (x :: r)=x.1 :: x.2.1 :: x.2.2 :: Zap r:=λ _ _=>rfl;rw [setB,e,e,Zfx r c b,show (c+1) * 3+2=(c * 3+2)+1+1+1 by omega];rfl
section
open Go.RowKit
attribute [local go_sem ↓] Go.wp_at_zero Go.wp_at_succ
def Ze2:List I3->Nat->Int->Nat × Bool
 | [],i,_=>(i,false)
 | x :: r,i,s=>if x.1=2 then (if x.2.1=s then (i,true) else Ze2 r (i+1) s) else (i,false)
def Xs (I:List I3) (s:Int) (a:Nat):Nat × Bool:=Ze2 (I.drop a) a s
theorem Zb5 {I:List I3} {s:Int} {a:Nat} (h:a<I.length):Xs I s a=if I[a].1=2 then (if I[a].2.1=s then (a,true) else Xs I s (a+1)) else (a,false):=by
 unfold Xs;rw [List.drop_eq_getElem_cons h,Ze2]
theorem Zqh {I:List I3} {s:Int} {a:Nat} (h:I.length<=a):Xs I s a=(a,false):=by
 unfold Xs;rw [List.drop_eq_nil_of_le h,Ze2]
theorem Zmg:∀ (l:List I3) (i:Nat) (s:Int),i<=(Ze2 l i s).1∧(Ze2 l i s).1<=i+l.length∧((Ze2 l i s).2=true->(Ze2 l i s).1<i+l.length)
 | [],i,s=>by simp [Ze2]
 | x :: r,i,s=>by
  unfold Ze2;split
  ·split
   ·simp
   ·obtain ⟨a,b,c⟩:=Zmg r (i+1) s
    refine ⟨by omega,by simp only [List.length_cons];omega,λ h=>?_⟩;have:=c h;simp only [List.length_cons];omega
  ·simp
theorem Zky {I:List I3} {s:Int} {a:Nat} (h:a<=I.length):a<=(Xs I s a).1∧(Xs I s a).1<=I.length∧((Xs I s a).2=true->(Xs I s a).1<I.length):=by
 obtain ⟨x,y,z⟩:=Zmg (I.drop a) a s;rw [List.length_drop] at y z;refine ⟨x,by unfold Xs;omega,λ q=>?_⟩;have:=z q;unfold Xs;omega
def Zne (E:List Int) (n:Int):Bool:=Jh n E.length && decide (0<=E.getD n.toNat (-1))
abbrev R5:=Int × Int × List Int × Int × Int
def Zrv:R5:=(0,0,[],0,92)
def Jo (L:List Sym) (ok:Bool) (T:List Int) (I:List I3) (E:List Int) (node:Int) (a:Nat) (p:List Int):R5 ⊕ Int:=
 if (Xs I (Jx ok T (Zay L ok T node p)) (a+1)).2=true then
  (if (I.getD (Xs I (Jx ok T (Zay L ok T node p)) (a+1)).1 (0,0,0)).2.2<=((Xs I (Jx ok T (Zay L ok T node p)) (a+1)).1:Int) then .inl Zrv else .inr (I.getD (Xs I (Jx ok T (Zay L ok T node p)) (a+1)).1 (0,0,0)).2.2)
 else if Zne E (Jx ok T (Zay L ok T node p))=true then .inl (3,0,p,Zay L ok T node p,0) else .inr ((Xs I (Jx ok T (Zay L ok T node p)) (a+1)).1:Int)
def Ze0 (L:List Sym) (ok:Bool) (T:List Int) (I:List I3) (P:List (List Int)) (E:List Int) (node:Int):Nat->Nat->R5
 | 0,_=>Zrv
 | f+1,a=>match I[a]? with
  | none=>Zrv
  | some x=>if x.1=4 then (1,x.2.1,[],0,0) else if x.1=3 then (2,0,[],0,0)
   else if x.1=1∧Jh x.2.1 P.length=true then (match Jo L ok T I E node a (P.getD x.2.1.toNat []) with
    | .inl r=>r
    | .inr z=>Ze0 L ok T I P E node f z.toNat)
   else Zrv
theorem Zk8 {L:List Sym} {ok:Bool} {T:List Int} {I:List I3} {E:List Int} {node:Int} {a:Nat} {p:List Int} (h:a<I.length) {z:Int} (hz:Jo L ok T I E node a p=.inr z):(a:Int)<z:=by
 unfold Jo at hz;obtain ⟨x,_,_⟩:=Zky (I:=I) (s:=Jx ok T (Zay L ok T node p)) (a:=a+1) (by omega);split at hz
 ·split at hz
  ·cases hz
  ·cases hz;omega
 ·split at hz
  ·cases hz
  ·cases hz;omega
theorem Zh3 {L:List Sym} {ok:Bool} {T:List Int} {I:List I3} {P:List (List Int)} {E:List Int} {node:Int}:∀ (f g a:Nat),I.length<a+f->f<=g->Ze0 L ok T I P E node f a=Ze0 L ok T I P E node g a
 | 0,g,a,h,hg=>by
  cases g with
  | zero=>rfl
  | succ g=>
   rw [Ze0,Ze0,List.getElem?_eq_none (by omega)]
 | f+1,0,a,h,hg=>by omega
 | f+1,g+1,a,h,hg=>by
  rw [Ze0,Ze0];cases hi:I[a]? with
  | none=>rfl
  | some x=>
   have ha:a<I.length:=by
    rcases Nat.lt_or_ge a I.length with q | q
    ·exact q
    ·rw [List.getElem?_eq_none q] at hi;cases hi
   simp only;split
   ·rfl
   ·split
    ·rfl
    ·split
     ·cases hl:Jo L ok T I E node a (P.getD x.2.1.toNat []) with
      | inl r=>rfl
      | inr z=>
       have:=Zk8 ha hl;exact Zh3 f g z.toNat (by omega) (by omega)
     ·rfl
def Zm8 (L:List Sym) (ok:Bool) (T:List Int) (I:List I3) (P:List (List Int)) (E:List Int) (n node:Int):R5:=
 if Zne E n=true then Ze0 L ok T I P E node (I.length+1) (E.getD n.toNat (-1)).toNat else (0,0,[],0,90)
def Zaf (w:World) (io:Option Addr) (I:List I3):Prop:=
 I=[]∨∃ b off,io=some ⟨b,off,none⟩∧b<w.heap.size∧∀ i (h:i<I.length),w.cell? ⟨b,off+i * 3,none⟩=some (.int .i64 I[i].1)∧w.cell? ⟨b,off+i * 3+1,none⟩=some (.int .i64 I[i].2.1)∧w.cell? ⟨b,off+i * 3+2,none⟩=some (.int .i64 I[i].2.2)
theorem Zaf.same {w w' : World} {io:Option Addr} {I:List I3} (h:Zaf w io I) (hk:Za w w'):Zaf w' io I:=by
 refine h.imp id ?_;rintro ⟨b,off,e,hb,hc⟩;refine ⟨b,off,e,Nat.lt_of_lt_of_le hb hk.size,λ i hi=>?_⟩;obtain ⟨c0,c1,c2⟩:=hc i hi;exact ⟨(hk.cell (p:=⟨b,off+i * 3,none⟩) hb (λ f=>f)).trans c0,(hk.cell (p:=⟨b,off+i * 3+1,none⟩) hb (λ f=>f)).trans c1,(hk.cell (p:=⟨b,off+i * 3+2,none⟩) hb (λ f=>f)).trans c2⟩
theorem Zaf.get {w:World} {io:Option Addr} {I:List I3} (h:Zaf w io I) {i:Nat} (hi:i<I.length):∃ b off,io=some ⟨b,off,none⟩∧b<w.heap.size∧w.cell? ⟨b,off+i * 3,none⟩=some (.int .i64 I[i].1)∧w.cell? ⟨b,off+i * 3+1,none⟩=some (.int .i64 I[i].2.1)∧w.cell? ⟨b,off+i * 3+2,none⟩=some (.int .i64 I[i].2.2):=by
 rcases h with rfl | ⟨b,off,e,hb,hc⟩
 ·simp at hi
 ·exact ⟨b,off,e,hb,hc i hi⟩
def Zaq (w:World) (po:Option Addr) (P:List (List Int)):Prop:=
 P=[]∨∃ b off,po=some ⟨b,off,none⟩∧b<w.heap.size∧∀ i (h:i<P.length),∃ ao ac,w.cell? ⟨b,off+i,none⟩=some (.slice ao P[i].length ac)∧Arg w ao P[i] ac
theorem Zaq.same {w w' : World} {po:Option Addr} {P:List (List Int)} (h:Zaq w po P) (hk:Za w w'):Zaq w' po P:=by
 refine h.imp id ?_;rintro ⟨b,off,e,hb,hc⟩;refine ⟨b,off,e,Nat.lt_of_lt_of_le hb hk.size,λ i hi=>?_⟩;obtain ⟨ao,ac,c0,c1⟩:=hc i hi;exact ⟨ao,ac,(hk.cell (p:=⟨b,off+i,none⟩) hb (λ f=>f)).trans c0,c1.same hk⟩
theorem Zaq.get {w:World} {po:Option Addr} {P:List (List Int)} (h:Zaq w po P) {i:Nat} (hi:i<P.length):∃ b off ao ac,po=some ⟨b,off,none⟩∧b<w.heap.size∧w.cell? ⟨b,off+i,none⟩=some (.slice ao P[i].length ac)∧Arg w ao P[i] ac:=by
 rcases h with rfl | ⟨b,off,e,hb,hc⟩
 ·simp at hi
 ·obtain ⟨ao,ac,c0,c1⟩:=hc i hi
  exact ⟨b,off,ao,ac,e,hb,c0,c1⟩
def Ze5 (w:World) (R:R5) (e:Ending) (w' : World):Prop:=
 ∃ qo qc,e=.returned (.tuple #[.agg #[.int .i64 R.1,.int .i64 R.2.1,.slice qo R.2.2.1.length qc,.int .i64 R.2.2.2.1],.int .i64 R.2.2.2.2])∧Row w.heap.size w' (.slice qo R.2.2.1.length qc) R.2.2.1∧Za w w'
theorem Zkz {w:World} {eo:Option Addr} {E:List Int} (hE:Zh w eo E) (io po ro:Option Addr) (il ic pl pc ec rl rc:Nat) (n:Int) :
  Calls Tryz.prog 91 #[.agg #[.slice io il ic,.slice po pl pc,.slice eo E.length ec,.slice ro rl rc],.int .i64 n] w λ e w' => e=.returned (.bool (Zne E n))∧Za w w' := by
 have CI:=Xj n E.length;have ka:Za w (w.alloc (.cells #[.slice io il ic,.slice po pl pc,.slice eo E.length ec,.slice ro rl rc] 51)):=(Zc.refl _ w).alloc _;cases hi:Jh n E.length with
 | false=>
  rw [hi] at CI;have H:Hid (Zne E n=false):=by show _=_;simp [Zne,hi]
  clear hi hE
  go_enter Tryz.func91,Tryz.ntmps91
  go_wp2_with (first | (go_at_call 56;refine (CI _).mono ?_;rintro e w2 ⟨rfl,rfl⟩))
  go_ret;exact ⟨by rw [H.out];rfl,ka⟩
 | true=>
  rw [hi] at CI;obtain ⟨i,rfl,hl⟩:=Za1 hi
  have H:Hid (Zne E (i:Int)=decide (0<=E[i])):=by
   show _=_;simp [Zne,hi,hl]
  obtain ⟨b,off,rfl,hb,hcell⟩:=(hE.same ka).get hl;have i1:(0:Int)<=(i:Int):=by omega
  have i2:(i:Int)<(E.length:Int):=by omega
  clear hi hE;generalize E[i]=z at *
  go_enter Tryz.func91,Tryz.ntmps91
  go_wp2_with (first | (go_at_call 56;refine (CI _).mono ?_;rintro e w2 ⟨rfl,rfl⟩))
  go_ret;exact ⟨by rw [H.out];rfl,ka⟩
theorem Zp0 {w:World} {io:Option Addr} {I:List I3} (hI:Zaf w io I) (hl:I.length<=140737488355328) (ic:Nat) (po eo ro:Option Addr) (pl pc el ec rl rc:Nat) (v:Value) (node s:Int) (a:Nat) (ha:a<=I.length) :
  Calls Tryz.prog 159 #[.agg #[.slice io I.length ic,.slice po pl pc,.slice eo el ec,.slice ro rl rc,.iface 121 v,.int .i64 node],.int .i64 s,.int .i64 (a:Int)] w λ e w' => e=.returned (.tuple #[.int .i64 ((Xs I s a).1:Int),.bool (Xs I s a).2])∧Za w w' := by
 obtain ⟨W1,hW1⟩:∃ W1,W1=w.alloc (.cells #[.slice io I.length ic,.slice po pl pc,.slice eo el ec,.slice ro rl rc,.iface 121 v,.int .i64 node] 180):=⟨_,rfl⟩;have ka:Za w W1:=by rw [hW1];exact (Zc.refl _ w).alloc _
 have hbx:W1.heap[w.heap.size]? = some (.cells #[.slice io I.length ic,.slice po pl pc,.slice eo el ec,.slice ro rl rc,.iface 121 v,.int .i64 node] 180 (0,0)):=by rw [hW1];exact heap_alloc_new _ _
 have x0:=Zb hbx 0;simp only [List.getElem?_toArray,List.getElem?_cons_zero] at x0;have hI1:=hI.same ka;clear hI hbx
 go_enter Tryz.func159,Tryz.ntmps159
 go_upto_region 1 with fail
 rw [<- hW1];clear hW1
 go_loop [2] (λ s2=>∃ k:Nat,k<=I.length∧s2=.int .i64 (k:Int)∧Hid (Xs I s a=Xs I s k)) (λ s2=>I.length-(intOf s2).toNat)
 case atStart=>exact ⟨a,ha,rfl,rfl⟩
 case round=>
  clear ha;obtain ⟨k,hk,rfl,hF⟩:=hrel
  by_cases hlt:k<I.length
  ·obtain ⟨b,off,rfl,hb,c0,c1,c2⟩:=hI1.get hlt
   have i1:(0:Int)<=(k:Int):=by omega
   have i2:(k:Int)<(I.length:Int):=by omega
   by_cases ho:I[k].1=2
   ·rw [ho] at c0
    by_cases hs:I[k].2.1=s
    ·have H:Hid (Xs I s a=(k,true)):=by rw [hF.out];show _=_;rw [Zb5 hlt,if_pos ho,if_pos hs]
     rw [hs] at c1;clear hF ho hs
     go_wp2_with fail
     go_ret2
     exact ⟨by rw [H.out];rfl,ka⟩
    ·have H:Hid (Xs I s a=Xs I s (k+1)):=by rw [hF.out];show _=_;rw [Zb5 hlt,if_pos ho,if_neg hs]
     have hs' : (I[k].2.1 == s)=false:=by simpa using hs
     generalize I[k].2.1=z at *;clear hF ho hs
     go_wp2_with fail
     exact ⟨⟨k+1,by omega,by go_num,H⟩,by simp [intOf];omega⟩
   ·have H:Hid (Xs I s a=(k,false)):=by rw [hF.out];show _=_;rw [Zb5 hlt,if_neg ho]
    have ho' : (I[k].1 == 2)=false:=by simpa using ho
    generalize I[k].1=z at *;clear hF ho
    go_wp2_with fail
    go_ret2
    exact ⟨by rw [H.out];rfl,ka⟩
  ·have H:Hid (Xs I s a=(k,false)):=by rw [hF.out];exact Zqh (by omega)
   clear hF
   go_wp2_with fail
   go_ret2
   exact ⟨by rw [H.out];rfl,ka⟩
theorem Zdh {w:World} {io jo:Option Addr} {I:List I3} (hI:Zaf w io I) (hJ:Zaf w jo I) (hl:I.length<=140737488355328) (ic jc:Nat) :
  Calls Tryz.prog 46 #[.slice io I.length ic,.slice jo I.length jc] w λ e w' => e=.returned (.bool true)∧Za w w' := by
 go_enter Tryz.func46,Tryz.ntmps46
 go_upto_region 4 with fail
 go_loopw [5] (λ s5 wr=>∃ k:Nat,k<=I.length∧s5=.int .i64 (k:Int)∧Za w wr) (λ s5 _=>I.length-(intOf s5).toNat)
 case atStart=>exact ⟨0,Nat.zero_le _,rfl,Zc.refl _ _⟩
 case round=>
  obtain ⟨k,hk,rfl,hs⟩:=hrel
  by_cases hlt:k<I.length
  ·obtain ⟨b,off,rfl,hb,c0,c1,c2⟩:=(hI.same hs).get hlt
   obtain ⟨b', off', rfl,hb', d0,d1,d2⟩:=(hJ.same hs).get hlt;have i1:(0:Int)<=(k:Int):=by omega
   have i2:(k:Int)<(I.length:Int):=by omega
   generalize I[k].1=x at *;generalize I[k].2.1=y at *;generalize I[k].2.2=z at *
   go_upto_region 6 with fail
   go_quiet (fail)
   go_wp2_with fail
   go_roundw
   case rel=>first | exact ⟨k+1,by omega,by go_num,Zc.drewN hs _⟩ | ((repeat apply Exists.intro);exact ⟨⟨k+1,by omega,by go_num,Zc.drewN hs _⟩,rfl⟩)
   case measure=>simp [intOf];omega
  ·go_wp2_with fail
   go_ret;exact ⟨rfl,hs⟩
theorem Zaq.get9 {w:World} {po:Option Addr} {P:List (List Int)} (h:Zaq w po P) {i:Nat} (hi:i<P.length):∃ b off ao ac,po=some ⟨b,off,none⟩∧w.cell? ⟨b,off+i,none⟩=some (.slice ao P[i].length ac)∧Arg w ao P[i] ac:=by
 rcases h with rfl | ⟨b,off,e,hb,hc⟩
 ·simp at hi
 ·obtain ⟨ao,ac,c0,c1⟩:=hc i hi
  exact ⟨b,off,ao,ac,e,c0,c1⟩
theorem Znv {w:World} {po qo:Option Addr} {P:List (List Int)} (hP:Zaq w po P) (hQ:Zaq w qo P) (hl:P.length<=140737488355328) (pc qc:Nat) :
  Calls Tryz.prog 54 #[.slice po P.length pc,.slice qo P.length qc] w λ e w' => e=.returned (.bool true)∧Za w w' := by
 go_enter Tryz.func54,Tryz.ntmps54
 go_upto_region 4 with fail
 go_loopw [5] (λ s5 wr=>∃ k:Nat,k<=P.length∧s5=.int .i64 (k:Int)∧Za w wr) (λ s5 _=>P.length-(intOf s5).toNat)
 case atStart=>exact ⟨0,Nat.zero_le _,rfl,Zc.refl _ _⟩
 case round=>
  obtain ⟨k,hk,rfl,hs⟩:=hrel
  by_cases hlt:k<P.length
  ·obtain ⟨b,off,ao,ac,rfl,c0,a0⟩:=(hP.same hs).get9 hlt
   obtain ⟨b', off', bo,bc,rfl,d0,d1⟩:=(hQ.same hs).get9 hlt;have hn:P[k].length<=maxLen:=by have:=a0.size;unfold maxLen;omega
   have CS:Hid (∀ ww,Za wr ww->Calls Tryz.prog 27 #[.slice ao P[k].length ac,.slice bo P[k].length bc] ww λ e w' => e=.returned (.bool true)∧Za ww w'):=λ ww hk=>by
    refine (Zc9 (acap:=ac) (bcap:=bc) (a0.at'.same hk) (d1.at'.same hk) hn).mono ?_;rintro e w' ⟨rfl,hk'⟩;exact ⟨by simp [Zcc],hk'⟩
   have HS:Hid (∀ ww,Za wr ww->ww.cell? ⟨b,off+k,none⟩=some (.slice ao P[k].length ac)∧ww.cell? ⟨b', off' + k,none⟩=some (.slice bo P[k].length bc)):=λ ww hk=>⟨(hk.cell (p:=⟨b,off+k,none⟩) (World.block_lt_of_cell? _ _ c0) (λ f=>f)).trans c0,(hk.cell (p:=⟨b', off' + k,none⟩) (World.block_lt_of_cell? _ _ d0) (λ f=>f)).trans d0⟩;have C0:=HS.out wr (Zc.refl _ _);have kd:Za wr wr.drew:=Zc.drew (Zc.refl _ _);have i1:(0:Int)<=(k:Int):=by omega
   have i2:(k:Int)<(P.length:Int):=by omega
   generalize P[k].length=N at *;clear a0 d1 hP hQ hn
   go_upto_region 6 with fail
   go_region_held3 (λ w' => w'.cell? ⟨b,off+k,none⟩=some (.slice ao N ac)∧w'.cell? ⟨b', off' + k,none⟩=some (.slice bo N bc)) (first | exact C0 | exact cc1) (first
    | (go_at_call 27;refine (CS.out _ kd).mono ?_;rintro e w2 ⟨rfl,k2⟩;have k3:=kd.trans' k2;have cc1:=HS.out w2 k3))
   all_goals
    go_wp2_with fail
    go_roundw
    case rel=>first | exact ⟨k+1,by omega,by go_num,hs.trans' k3⟩ | ((repeat apply Exists.intro);exact ⟨⟨k+1,by omega,by go_num,hs.trans' k3⟩,rfl⟩)
    case measure=>simp [intOf];omega
  ·go_wp2_with fail
   go_ret;exact ⟨rfl,hs⟩
theorem Zse {L:List Sym} {ok:Bool} {T:List Int} {I:List I3} {E:List Int} {node:Int} {a:Nat} {p:List Int} {nd s:Int} {j:Nat} {has:Bool} (hnd:Zay L ok T node p=nd) (hs:Jx ok T nd=s) (hJ:Xs I s (a+1)=(j,has)):Jo L ok T I E node a p=if has=true then (if (I.getD j (0,0,0)).2.2<=(j:Int) then .inl Zrv else .inr (I.getD j (0,0,0)).2.2) else if Zne E s=true then .inl (3,0,p,nd,0) else .inr (j:Int):=by
 subst hnd;subst hs;unfold Jo;rw [hJ]
def Zj9 (w:World) (r:R5 ⊕ Int) (e:Ending) (w' : World):Prop:=
 match r with
 | .inl R=>∃ qo qc,e=.returned (.tuple #[.agg #[.int .i64 R.1,.int .i64 R.2.1,.slice qo R.2.2.1.length qc,.int .i64 R.2.2.2.1],.int .i64 0,.int .i64 R.2.2.2.2])∧Row w.heap.size w' (.slice qo R.2.2.1.length qc) R.2.2.1∧Za w w'
 | .inr z=>e=.returned (.tuple #[.agg #[.int .i64 0,.int .i64 0,.slice none 0 0,.int .i64 0],.int .i64 z,.int .i64 0])∧Za w w'
theorem Ztm {base:Nat} {w:World} {L:List Sym} {ok:Bool} {T:List Int} {ho:Option Addr} {hn hc:Nat} {go:Option Addr} {gn gc:Nat} (hv:Zhj base w L ok T (.agg #[.slice ho hn hc,.slice go gn gc])) {io:Option Addr} {I:List I3} (hI:Zaf w io I) (hl:I.length<=140737488355328) {eo:Option Addr} {E:List Int} (hE:Zh w eo E) {qo:Option Addr} {qc:Nat} {p:List Int} (hp:Arg w qo p qc) (ic ec:Nat) (po ro:Option Addr) (pl pc rl rc:Nat) (node:Int) (a:Nat) (ha:a<I.length) :
  Calls Tryz.prog 131 #[.agg #[.slice io I.length ic,.slice po pl pc,.slice eo E.length ec,.slice ro rl rc,.iface 121 (.agg #[.slice ho hn hc,.slice go gn gc]),.int .i64 node],.int .i64 (a:Int),.slice qo p.length qc] w (Zj9 w (Jo L ok T I E node a p)):=by
 have hmx:p.length<=maxLen:=by have:=hp.size;unfold maxLen;omega
 obtain ⟨W1,hW1⟩:∃ W1,W1=(w.alloc (.cells #[.slice io I.length ic,.slice po pl pc,.slice eo E.length ec,.slice ro rl rc,.iface 121 (.agg #[.slice ho hn hc,.slice go gn gc]),.int .i64 node] 180)).alloc (.cells #[.int .i64 0,.int .i64 0,.slice none 0 0,.int .i64 0] 85):=⟨_,rfl⟩;have KW:Za w W1:=by rw [hW1];exact ((Zc.refl _ w).alloc _).alloc _
 have hbx:W1.heap[w.heap.size]? = some (.cells #[.slice io I.length ic,.slice po pl pc,.slice eo E.length ec,.slice ro rl rc,.iface 121 (.agg #[.slice ho hn hc,.slice go gn gc]),.int .i64 node] 180 (0,0)):=by rw [hW1];exact heap_alloc2_old _ _ _
 have hfd:W1.heap[w.heap.size+1]? = some (.cells #[.int .i64 0,.int .i64 0,.slice none 0 0,.int .i64 0] 85 (0,0)):=by rw [hW1];exact Zp _ _ _
 have BX:Hid (∀ ww,Za W1 ww->ww.cell? ⟨w.heap.size,0,none⟩=some (.slice io I.length ic)∧ww.cell? ⟨w.heap.size,1,none⟩=some (.slice po pl pc)∧ww.cell? ⟨w.heap.size,2,none⟩=some (.slice eo E.length ec)∧ww.cell? ⟨w.heap.size,3,none⟩=some (.slice ro rl rc)∧ww.cell? ⟨w.heap.size,4,none⟩=some (.iface 121 (.agg #[.slice ho hn hc,.slice go gn gc]))∧ww.cell? ⟨w.heap.size,5,none⟩=some (.int .i64 node)):=λ ww hk=>by
  have:=hk.at0 hbx;exact ⟨Zb this 0,Zb this 1,Zb this 2,Zb this 3,Zb this 4,Zb this 5⟩
 have RC:Hid (∀ ww,Za W1 ww->(ww.cell? ⟨w.heap.size+1,0,none⟩=some (.int .i64 0)∧ww.cell? ⟨w.heap.size+1,1,none⟩=some (.int .i64 0)∧ww.cell? ⟨w.heap.size+1,2,none⟩=some (.slice none 0 0)∧ww.cell? ⟨w.heap.size+1,3,none⟩=some (.int .i64 0))∧ww.frozen? ⟨w.heap.size+1,0,none⟩=false∧ww.frozen? ⟨w.heap.size+1,1,none⟩=false∧ww.frozen? ⟨w.heap.size+1,2,none⟩=false∧ww.frozen? ⟨w.heap.size+1,3,none⟩=false):=λ ww hk=>by
  have:=hk.at0 hfd;exact ⟨⟨Zb this 0,Zb this 1,Zb this 2,Zb this 3⟩,Zd this 0,Zd this 1,Zd this 2,Zd this 3⟩
 have PUT:Hid (∀ ww x0 x1 x2 x3,Za W1 ww->(((((ww.setCell ⟨w.heap.size+1,0,none⟩ x0).setCell ⟨w.heap.size+1,1,none⟩ x1).setCell ⟨w.heap.size+1,2,none⟩ x2).setCell ⟨w.heap.size+1,3,none⟩ x3).cell? ⟨w.heap.size+1,0,none⟩=some x0∧((((ww.setCell ⟨w.heap.size+1,0,none⟩ x0).setCell ⟨w.heap.size+1,1,none⟩ x1).setCell ⟨w.heap.size+1,2,none⟩ x2).setCell ⟨w.heap.size+1,3,none⟩ x3).cell? ⟨w.heap.size+1,1,none⟩=some x1∧((((ww.setCell ⟨w.heap.size+1,0,none⟩ x0).setCell ⟨w.heap.size+1,1,none⟩ x1).setCell ⟨w.heap.size+1,2,none⟩ x2).setCell ⟨w.heap.size+1,3,none⟩ x3).cell? ⟨w.heap.size+1,2,none⟩=some x2∧((((ww.setCell ⟨w.heap.size+1,0,none⟩ x0).setCell ⟨w.heap.size+1,1,none⟩ x1).setCell ⟨w.heap.size+1,2,none⟩ x2).setCell ⟨w.heap.size+1,3,none⟩ x3).cell? ⟨w.heap.size+1,3,none⟩=some x3)∧Zc (λ q=>q=w.heap.size+1) ww ((((ww.setCell ⟨w.heap.size+1,0,none⟩ x0).setCell ⟨w.heap.size+1,1,none⟩ x1).setCell ⟨w.heap.size+1,2,none⟩ x2).setCell ⟨w.heap.size+1,3,none⟩ x3)∧Za w ((((ww.setCell ⟨w.heap.size+1,0,none⟩ x0).setCell ⟨w.heap.size+1,1,none⟩ x1).setCell ⟨w.heap.size+1,2,none⟩ x2).setCell ⟨w.heap.size+1,3,none⟩ x3)):=by
  intro ww x0 x1 x2 x3 hk;have rs:=hk.at0 hfd;have s3:=Zs (Zs (Zs (Zs rs 0 x0) 1 x1) 2 x2) 3 x3;have k1:=Zt ww (w.heap.size+1) 0 x0;have k2:=Zc.trans k1 (Zt _ (w.heap.size+1) 1 x1) (λ _ _ e=>e);have k3:=Zc.trans k2 (Zt _ (w.heap.size+1) 2 x2) (λ _ _ e=>e);have k4:=Zc.trans k3 (Zt _ (w.heap.size+1) 3 x3) (λ _ _ e=>e);exact ⟨⟨Zb s3 0,Zb s3 1,Zb s3 2,Zb s3 3⟩,k4,Zc.trans (KW.trans' hk) k4 (λ i hi e=>by omega)⟩
 have CK:Hid (∀ ww,Za w ww->Calls Tryz.prog 158 #[.agg #[.slice io I.length ic,.slice po pl pc,.slice eo E.length ec,.slice ro rl rc,.iface 121 (.agg #[.slice ho hn hc,.slice go gn gc]),.int .i64 node],.slice qo p.length qc] ww λ e w' => e=.returned (.tuple #[.int .i64 (Zay L ok T node p),.int .i64 (Jx ok T (Zay L ok T node p)),.bool false,.int .i64 0])∧Za ww w'):=λ ww hk=>Zs7 (hv.same hk) (hp.at'.same hk) hmx _ _ _ _ _ _ _ _ _ _ _ _ node;have CO:Hid (∀ ww s,Za w ww->Calls Tryz.prog 159 #[.agg #[.slice io I.length ic,.slice po pl pc,.slice eo E.length ec,.slice ro rl rc,.iface 121 (.agg #[.slice ho hn hc,.slice go gn gc]),.int .i64 node],.int .i64 s,.int .i64 ((a:Int)+1)] ww λ e w' => e=.returned (.tuple #[.int .i64 ((Xs I s (a+1)).1:Int),.bool (Xs I s (a+1)).2])∧Za ww w'):=λ ww s hk=>Zp0 (hI.same hk) hl _ _ _ _ _ _ _ _ _ _ _ node s (a+1) (by omega);have CB:Hid (∀ ww n,Za w ww->Calls Tryz.prog 91 #[.agg #[.slice io I.length ic,.slice po pl pc,.slice eo E.length ec,.slice ro rl rc],.int .i64 n] ww λ e w' => e=.returned (.bool (Zne E n))∧Za ww w'):=λ ww n hk=>Zkz (hE.same hk) _ _ _ _ _ _ _ _ _ _ n
 have CC:Hid (∀ ww,Za w ww->Calls Tryz.prog 71 #[.slice qo p.length qc] ww λ e w' => ∃ zo zc,e=.returned (.slice zo p.length zc)∧Hid (Row ww.heap.size w' (.slice zo p.length zc) p)∧Za ww w'):=λ ww hk=>by
  refine (Zb9 (hp.same hk)).mono ?_;rintro e w' ⟨v,rfl,hr,hk'⟩;obtain ⟨zo,zc,rfl,_⟩:=hr.ints;exact ⟨zo,zc,rfl,hr,hk'⟩
 have HI:Hid (∀ ww j (hj:j<I.length),Za w ww->∃ b off,io=some ⟨b,off,none⟩∧ww.cell? ⟨b,off+j * 3+2,none⟩=some (.int .i64 I[j].2.2)):=λ ww j hj hk=>by
  obtain ⟨b,off,e,_,_,_,h2⟩:=(hI.same hk).get hj;exact ⟨b,off,e,h2⟩
 have C1:=CK.out W1 KW;obtain ⟨x0,x1,x2,x3,x4,x5⟩:=BX.out W1 (Zc.refl _ _);have ai:(a:Int)<140737488355328:=by omega
 obtain ⟨nd,hnd⟩:∃ nd,Zay L ok T node p=nd:=⟨_,rfl⟩;rw [hnd] at C1;obtain ⟨s,hs⟩:∃ s,Jx ok T nd=s:=⟨_,rfl⟩;rw [hs] at C1;obtain ⟨cle,cl2,clt⟩:=Zky (I:=I) (s:=s) (a:=a+1) (by omega);obtain ⟨j,has,hJ⟩:∃ j has,Xs I s (a+1)=(j,has):=⟨_,_,rfl⟩
 have C2:Hid (∀ ww,Za w ww->Calls Tryz.prog 159 #[.agg #[.slice io I.length ic,.slice po pl pc,.slice eo E.length ec,.slice ro rl rc,.iface 121 (.agg #[.slice ho hn hc,.slice go gn gc]),.int .i64 node],.int .i64 s,.int .i64 ((a:Int)+1)] ww λ e w' => e=.returned (.tuple #[.int .i64 (j:Int),.bool has])∧Za ww w'):=λ ww hk=>by
  have:=CO.out ww s hk;rw [hJ] at this;exact this
 have HF:Hid _:=Zse (E:=E) hnd hs hJ;rw [hJ] at cle cl2 clt;simp only at cle cl2 clt;have j0:(0:Int)<=(j:Int):=by omega
 clear hJ CO CK hv hI hE hp hbx hfd hnd hs;cases has with
 | true=>
  have hj:=clt rfl;obtain ⟨ib,ioff,rfl,_⟩:=HI.out w j hj (Zc.refl _ _)
  have HC:Hid (∀ ww,Za w ww->ww.cell? ⟨ib,ioff+j * 3+2,none⟩=some (.int .i64 I[j].2.2)):=λ ww hk=>by
   obtain ⟨b', off', e,h2⟩:=HI.out ww j hj hk;simp only [Option.some.injEq,Addr.mk.injEq,and_true] at e;obtain ⟨rfl,rfl⟩:=e;exact h2
  have eg:I.getD j (0,0,0)=I[j]:=by simp [hj]
  rw [if_pos rfl,eg] at HF;have j1:(j:Int)<(I.length:Int):=by omega
  generalize I[j].2.2=z at *;clear HI clt eg CB CC
  by_cases hz:z<=(j:Int)
  ·rw [if_pos hz] at HF
   rw [HF.out];clear HF
   go_enter Tryz.func131,Tryz.ntmps131
   go_upto_region 1 with fail
   rw [<- hW1];clear hW1
   go_wp2_with (first
    | (go_at_call 158;refine C1.mono ?_;rintro e w2 ⟨rfl,k2⟩;have C3:=C2.out w2 (KW.trans' k2);obtain ⟨y0,y1,y2,y3,y4,y5⟩:=BX.out w2 k2)
    | (go_at_call 159;refine C3.mono ?_;rintro e w3 ⟨rfl,k3⟩;have k13:=k2.trans' k3;obtain ⟨z0,z1,z2,z3,z4,z5⟩:=BX.out w3 k13;have cz:=HC.out w3 (KW.trans' k13);obtain ⟨⟨r0,r1,r2,r3⟩,f0,f1,f2,f3⟩:=RC.out w3 k13))
   obtain ⟨⟨g0,g1,g2,g3⟩,kk,ks⟩:=PUT.out w3 (.int .i64 0) (.int .i64 0) (.slice none 0 0) (.int .i64 0) k13;exact bodyPost_ret (v:=.tuple #[.agg #[.int .i64 0,.int .i64 0,.slice none 0 0,.int .i64 0],.int .i64 0,.int .i64 92]) (by simp [results,Tryz.results131,go_sem,g0,g1,g2,g3]) rfl ⟨none,0,rfl,World.ownsRow_nil _ _ _ _,ks⟩
  ·rw [if_neg hz] at HF
   rw [HF.out];have hzd:decide (z<=(j:Int))=false:=by simpa using hz
   clear HF hz
   go_enter Tryz.func131,Tryz.ntmps131
   go_upto_region 1 with fail
   rw [<- hW1];clear hW1
   go_upto_region 5 with (first
    | (go_at_call 158;refine C1.mono ?_;rintro e w2 ⟨rfl,k2⟩;have C3:=C2.out w2 (KW.trans' k2);obtain ⟨y0,y1,y2,y3,y4,y5⟩:=BX.out w2 k2)
    | (go_at_call 159;refine C3.mono ?_;rintro e w3 ⟨rfl,k3⟩;have k13:=k2.trans' k3;obtain ⟨z0,z1,z2,z3,z4,z5⟩:=BX.out w3 k13;have cz:=HC.out w3 (KW.trans' k13);obtain ⟨⟨r0,r1,r2,r3⟩,f0,f1,f2,f3⟩:=RC.out w3 k13))
   go_upto_region 7 with fail
   go_upto_region 8 with fail
   have PH:Hid _:=PUT.out w3 (.int .i64 0) (.int .i64 0) (.slice none 0 0) (.int .i64 0) k13;have S0:w3.cell? ⟨w.heap.size,0,none⟩=some (.slice (some ⟨ib,ioff,none⟩) I.length ic)∧w3.cell? ⟨ib,ioff+j * 3+2,none⟩=some (.int .i64 z):=⟨z0,cz⟩
   have S1:Hid ((((((w3.setCell ⟨w.heap.size+1,0,none⟩ (.int .i64 0)).setCell ⟨w.heap.size+1,1,none⟩ (.int .i64 0)).setCell ⟨w.heap.size+1,2,none⟩ (.slice none 0 0)).setCell ⟨w.heap.size+1,3,none⟩ (.int .i64 0))).cell? ⟨w.heap.size,0,none⟩=some (.slice (some ⟨ib,ioff,none⟩) I.length ic)∧(((((w3.setCell ⟨w.heap.size+1,0,none⟩ (.int .i64 0)).setCell ⟨w.heap.size+1,1,none⟩ (.int .i64 0)).setCell ⟨w.heap.size+1,2,none⟩ (.slice none 0 0)).setCell ⟨w.heap.size+1,3,none⟩ (.int .i64 0))).cell? ⟨ib,ioff+j * 3+2,none⟩=some (.int .i64 z)):=by
    obtain ⟨_,kk,_⟩:=PH.out;have hib:ib<w.heap.size:=World.block_lt_of_cell? w _ (HC.out w (Zc.refl _ _));exact ⟨(kk.cell (p:=⟨w.heap.size,0,none⟩) (World.block_lt_of_cell? _ _ z0) (λ e=>by have e' : w.heap.size=w.heap.size+1:=e;omega)).trans z0,(kk.cell (p:=⟨ib,ioff+j * 3+2,none⟩) (World.block_lt_of_cell? _ _ cz) (λ e=>by have e' : ib=w.heap.size+1:=e;omega)).trans cz⟩
   clear y0 y1 y2 y3 y4 y5 z0 z1 z2 z3 z4 z5 cz
   go_region_held3 (λ w' => w'.cell? ⟨w.heap.size,0,none⟩=some (.slice (some ⟨ib,ioff,none⟩) I.length ic)∧w'.cell? ⟨ib,ioff+j * 3+2,none⟩=some (.int .i64 z)) (first | exact S0 | exact S1.out) (fail)
   all_goals
    go_wp2_with fail
    obtain ⟨⟨g0,g1,g2,g3⟩,kk,ks⟩:=PH.out;exact bodyPost_ret (v:=.tuple #[.agg #[.int .i64 0,.int .i64 0,.slice none 0 0,.int .i64 0],.int .i64 z,.int .i64 0]) (by simp [results,Tryz.results131,go_sem,g0,g1,g2,g3]) rfl ⟨rfl,Zc.drew ks⟩
 | false=>
  have CB2:Hid (∀ ww,Za w ww->Calls Tryz.prog 91 #[.agg #[.slice io I.length ic,.slice po pl pc,.slice eo E.length ec,.slice ro rl rc],.int .i64 s] ww λ e w' => e=.returned (.bool (Zne E s))∧Za ww w'):=λ ww hk=>CB.out ww s hk;rw [if_neg (by simp)] at HF;clear HI clt CB;cases hb:Zne E s with
  | true=>
   rw [hb] at CB2;rw [if_pos hb] at HF;rw [HF.out];clear HF hb
   go_enter Tryz.func131,Tryz.ntmps131
   go_upto_region 1 with fail
   rw [<- hW1];clear hW1
   go_wp2_with (first
    | (go_at_call 158;refine C1.mono ?_;rintro e w2 ⟨rfl,k2⟩;have C3:=C2.out w2 (KW.trans' k2);obtain ⟨y0,y1,y2,y3,y4,y5⟩:=BX.out w2 k2)
    | (go_at_call 159;refine C3.mono ?_;rintro e w3 ⟨rfl,k3⟩;have k13:=k2.trans' k3;obtain ⟨z0,z1,z2,z3,z4,z5⟩:=BX.out w3 k13;have C4:=CB2.out w3 (KW.trans' k13))
    | (go_at_call 91;refine C4.mono ?_;rintro e w4 ⟨rfl,k4⟩;have k14:=k13.trans' k4;have C5:=CC.out w4 (KW.trans' k14))
    | (go_at_call 71;refine C5.mono ?_;rintro e w5 ⟨zo,zc,rfl,hr,k5⟩;have k15:=k14.trans' k5;obtain ⟨⟨r0,r1,r2,r3⟩,f0,f1,f2,f3⟩:=RC.out w5 k15))
   obtain ⟨⟨g0,g1,g2,g3⟩,kk,ks⟩:=PUT.out w5 (.int .i64 3) (.int .i64 0) (.slice zo p.length zc) (.int .i64 nd) k15;have z5:=(KW.trans' k14).size;have zz:=k14.size
   have zW:w.heap.size+1<W1.heap.size:=by
    obtain ⟨⟨q0,_⟩,_⟩:=RC.out W1 (Zc.refl _ _);exact World.block_lt_of_cell? _ _ q0
   refine bodyPost_ret (v:=.tuple #[.agg #[.int .i64 3,.int .i64 0,.slice zo p.length zc,.int .i64 nd],.int .i64 0,.int .i64 0]) (by simp [results,Tryz.results131,go_sem,g0,g1,g2,g3]) rfl ⟨zo,zc,rfl,?_,ks⟩
   have hr2:=kk.row hr.out (λ k e q=>by
    rcases hr.out.2 with ⟨e1,_⟩ | ⟨g,_,_,e1,e2,_⟩
    ·rw [e1] at e;simp [Value.ownBlock] at e
    ·rw [e1] at e;simp only [Value.ownBlock,Option.some.injEq] at e;omega)
   exact Yi hr2 z5
  | false=>
   rw [hb] at CB2;rw [if_neg (by rw [hb];simp)] at HF;rw [HF.out];clear HF hb CC
   go_enter Tryz.func131,Tryz.ntmps131
   go_upto_region 1 with fail
   rw [<- hW1];clear hW1
   go_wp2_with (first
    | (go_at_call 158;refine C1.mono ?_;rintro e w2 ⟨rfl,k2⟩;have C3:=C2.out w2 (KW.trans' k2);obtain ⟨y0,y1,y2,y3,y4,y5⟩:=BX.out w2 k2)
    | (go_at_call 159;refine C3.mono ?_;rintro e w3 ⟨rfl,k3⟩;have k13:=k2.trans' k3;obtain ⟨z0,z1,z2,z3,z4,z5⟩:=BX.out w3 k13;have C4:=CB2.out w3 (KW.trans' k13))
    | (go_at_call 91;refine C4.mono ?_;rintro e w4 ⟨rfl,k4⟩;have k14:=k13.trans' k4;obtain ⟨⟨r0,r1,r2,r3⟩,f0,f1,f2,f3⟩:=RC.out w4 k14))
   obtain ⟨⟨g0,g1,g2,g3⟩,kk,ks⟩:=PUT.out w4 (.int .i64 0) (.int .i64 0) (.slice none 0 0) (.int .i64 0) k14;exact bodyPost_ret (v:=.tuple #[.agg #[.int .i64 0,.int .i64 0,.slice none 0 0,.int .i64 0],.int .i64 (j:Int),.int .i64 0]) (by simp [results,Tryz.results131,go_sem,g0,g1,g2,g3]) rfl ⟨rfl,ks⟩
end
end Go.Proofs.YtjahpnbijefncaaGreat
