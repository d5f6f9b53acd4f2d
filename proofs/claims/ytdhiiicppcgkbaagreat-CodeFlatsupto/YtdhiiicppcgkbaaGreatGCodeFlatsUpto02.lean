import Derived.Test.YtdhiiicppcgkbaaGreatRows
import Derived.Test.YtdhiiicppcgkbaaGreatGCodeFlatsUpto01
import Derived.Test.YtdhiiicppcgkbaaGreatGB16
import Derived.Test.YtdhiiicppcgkbaaGreatGB19
import Derived.Test.YtdhiiicppcgkbaaGreatGB17
namespace Go.Proofs.YtdhiiicppcgkbaaGreat
set_option maxRecDepth 100000
set_option linter.unusedVariables false
open Go.RowKit Go.Deep
theorem bulk_one8 {H:Type} (d:DataW H):1≤Rows.uptoBulk d:=by
 cases d with
 | lit l=>cases l <;> simp [Rows.uptoBulk]
 | nil=>simp [Rows.uptoBulk]
 | ptr d=>simp [Rows.uptoBulk]
 | slice elems spare=>simp [Rows.uptoBulk]
 | agg parts=>simp [Rows.uptoBulk]
 | iface t d=>simp [Rows.uptoBulk]
 | map entries=>simp [Rows.uptoBulk]
 | held h=>simp [Rows.uptoBulk]
theorem bulk_part8 {H:Type} {d:DataW H} {l:List (DataW H)} (h:d∈l):Rows.uptoBulk d≤Rows.uptoBulkAll l:=by
 induction l with
 | nil=>cases h
 | cons x r ih=>
  simp only [Rows.uptoBulkAll]
  rcases List.mem_cons.1 h with e | e
  ·subst e;omega
  ·have:=ih e;omega
theorem bulk_length8 {H:Type} (l:List (DataW H)):l.length≤Rows.uptoBulkAll l:=by
 induction l with
 | nil=>simp [Rows.uptoBulkAll]
 | cons x r ih=>have:=bulk_one8 x;simp only [Rows.uptoBulkAll,List.length_cons];omega
section
variable {H : Type} {enc : TypeId × Value → H} {w : World} {spare : Nat → Bool} {held : Bool}
theorem open_elemsD {t e c fuel:Nat} {ao:Option Addr} {len cap:Nat} {x:DataW H × List MemPlace} (ht:Tryz.prog.underlying t=some (.slice e)) (hc:Tryz.prog.cellsOf e=c) (h0:0<c) (h:DataW.trod enc Tryz.prog w 0 spare held fuel t [.slice ao len cap]=some x) :
  (ao=none∧len=0∧cap=0)∨∃ (a:Addr) (E:List (DataW H)),ao=some a∧len≤cap∧cap≤maxLen∧E.length=len∧Rows.uptoBulkAll E<Rows.uptoBulk x.1∧∀ i (hi:i<E.length),a=⟨a.block,a.off,none⟩∧a.block<w.heap.size∧∃ cs n y,cs.length=c∧(∀ j,j<c→w.cell? ⟨a.block,a.off+i * c+j,none⟩=cs[j]?)∧DataW.trod enc Tryz.prog w 0 spare held n e cs=some y∧y.1=E[i]:=by
 rcases open_slice ht h with ⟨hcs,_⟩ | ⟨a,len', cap', m,n,D,Pl,hcs,_,hl,hm,hmm,rfl,hx⟩
 ·simp at hcs;exact .inl ⟨hcs.1,hcs.2.1,hcs.2.2⟩
 ·simp at hcs
  obtain ⟨rfl,rfl,rfl⟩:=hcs
  refine .inr ⟨a,(List.range len).map D,rfl,hl,hm,by simp,by simp only [Rows.uptoBulk];omega,fun i hi=>?_⟩
  have hi:i<len:=by simpa using hi
  have hmi:i<m:=by rw [hmm];split <;> omega
  have hm0:0<m:=by omega
  obtain ⟨cs0,g0,_⟩:=hx 0 hm0
  rw [hc] at g0
  obtain ⟨_,gl,gc⟩:=World.cells?_some g0
  have hsp:a.spot=none:=by
   have:=gc 0 h0
   have hv:cs0[0]? = some (cs0[0]'(by omega)):=List.getElem?_eq_getElem (by omega)
   rw [hv] at this
   simp [Addr.add] at this
   exact World.cell?_spot this
  have hlt:a.block<w.heap.size:=World.cells?_block (by simpa [Addr.add] using g0) h0
  have ea:a=⟨a.block,a.off,none⟩:=by cases a;simp_all
  obtain ⟨cs,g1,g2⟩:=hx i hmi
  rw [hc] at g1
  obtain ⟨_,gl1,gc1⟩:=World.cells?_some g1
  refine ⟨ea,hlt,cs,n,_,gl1,fun j hj=>?_,g2,by simp⟩
  rw [← gc1 j hj,add_add]
  congr 1
  unfold Addr.add
  split
  ·rw [ea];simp;omega
  ·simp
theorem open_ints8 {fuel:Nat} {ao:Option Addr} {len cap:Nat} {x:DataW H × List MemPlace} (h:DataW.trod enc Tryz.prog w 0 spare held fuel 22 [.slice ao len cap]=some x) (hb:Rows.uptoBulk x.1≤2000000):∃ xs:List Int,len=xs.length∧Arg w ao xs cap:=by
 rcases open_elemsD Tryz.underlying22 cells_int (by omega) h with ⟨rfl,rfl,rfl⟩ | ⟨a,E,rfl,h1,h2,h3,h4,hall⟩
 ·exact ⟨[],rfl,.inl rfl,Nat.le_refl _,fun _=>⟨rfl,rfl⟩,by simp⟩
 ·have each:∀ i,i<len→∃ z:Int,w.cell? ⟨a.block,a.off+i,none⟩=some (.int .i64 z):=by
   intro i hi
   obtain ⟨_,_,cs,n,y,hl,hcell,hy,_⟩:=hall i (by omega)
   obtain ⟨z,e1,_,_⟩:=DataW.trod_int Tryz.underlying3 hy
   subst e1
   exact ⟨z,by simpa using hcell 0 (by omega)⟩
  obtain ⟨f,hf⟩:=Classical.axiomOfChoice (fun i:Fin len=>each i i.2)
  have h5:=bulk_length8 E
  refine ⟨List.ofFn f,by simp,?_,by simpa using h1,(fun e=>by cases e),by simp;omega⟩
  by_cases h0:len=0
  ·subst h0;exact .inl (by simp)
  ·obtain ⟨ea,hlt,_⟩:=hall 0 (by omega)
   refine .inr ⟨a.block,a.off,by rw [← ea],hlt,fun i hi=>?_⟩
   have hi' : i<len:=by simpa using hi
   simpa using hf ⟨i,hi'⟩
theorem cells_kid:Tryz.prog.cellsOf 185=5:=by kernel_rfl
end
theorem sumN_bulk9 {α H:Type} (g:α→Nat):∀ (L:List α) (E:List (DataW H)),L.length=E.length→(∀ i (h:i<L.length) (h' : i<E.length),g L[i]+1≤4 * Rows.uptoBulk E[i])→L.length+sumN (L.map g)≤4 * Rows.uptoBulkAll E
 | [],E,_,_=>by simp [sumN]
 | x :: L,[],h,_=>by simp at h
 | x :: L,e :: E,h,hi=>by
  have h0:g x+1≤4 * Rows.uptoBulk e:=hi 0 (by simp) (by simp)
  have h1:=sumN_bulk9 g L E (by simpa using h) (fun i h1 h2=>hi (i+1) (by simpa using h1) (by simpa using h2))
  simp only [List.map_cons,sumN,List.length_cons,Rows.uptoBulkAll]
  omega
section
variable {H : Type} {enc : TypeId × Value → H} {w : World} {spare : Nat → Bool} {held : Bool}
def Told9 (w:World) (N:Nat) (cs:List Value) (m:Nat):Prop:=∃ t:Tr N,CsB (fun b=>b<w.heap.size) w N (.agg cs.toArray) t∧insN N t+1≤4 * m
def TIH9 (enc:TypeId × Value→H) (w:World) (spare:Nat→Bool) (held:Bool) (N:Nat):Prop:=∀ (fuel:Nat) (cs:List Value) (x:DataW H × List MemPlace),DataW.trod enc Tryz.prog w 0 spare held fuel 25 cs=some x→Rows.uptoBulk x.1<N→Rows.uptoBulk x.1≤2000000→Told9 w N cs (Rows.uptoBulk x.1)
theorem open_kid9 {N fuel:Nat} {cs:List Value} {y:DataW H × List MemPlace} (IH:TIH9 enc w spare held N) (h:DataW.trod enc Tryz.prog w 0 spare held fuel 185 cs=some y) (hN:Rows.uptoBulk y.1≤N) (hb:Rows.uptoBulk y.1≤2000000) :
  ∃ (z:Int) (c0 c1 c2 c3:Value),cs=[.int .i64 z,c0,c1,c2,c3]∧Told9 w N [c0,c1,c2,c3] (Rows.uptoBulk y.1):=by
 obtain ⟨y0,y1,n', hyd,hl', g0,g1⟩:=trod_pair7 Tryz.underlying185 h
 rw [cells_kid] at hl'
 match cs,hl' with
 | [c,c0,c1,c2,c3],_=>
  simp only [cells_int,cells_Cs,List.drop_zero,List.take_succ_cons,List.take_zero,List.drop_succ_cons] at g0 g1
  obtain ⟨z,e1,_,_⟩:=DataW.trod_int Tryz.underlying3 g0
  simp only [List.cons.injEq,and_true] at e1
  subst e1
  have e2:Rows.uptoBulk y1.1<Rows.uptoBulk y.1:=by rw [hyd];simp only [Rows.uptoBulk,Rows.uptoBulkAll];omega
  obtain ⟨t,q1,q2⟩:=IH _ _ _ g1 (by omega) (by omega)
  exact ⟨z,c0,c1,c2,c3,rfl,t,q1,by omega⟩
theorem open_tree_step9 {N:Nat} (IH:TIH9 enc w spare held N):TIH9 enc w spare held (N+1):=by
 intro fuel cs x h hN hb
 obtain ⟨y0,y1,y2,y3,n,_,hd,hl,h0,h1,h2,h3⟩:=trod_struct4 Tryz.underlying25 h
 rw [cells_Cs] at hl
 match cs,hl with
 | [c0,c1,c2,c3],_=>
  simp only [cells_int,cells_ints,cells_kids,List.drop_zero,List.take_succ_cons,List.take_zero,List.drop_succ_cons] at h0 h1 h2 h3
  obtain ⟨k,e0,_,_⟩:=DataW.trod_int Tryz.underlying3 h0
  obtain ⟨r,e1,_,_⟩:=DataW.trod_int Tryz.underlying3 h1
  obtain ⟨po,pl,pc,rfl⟩:=slice_one Tryz.underlying22 h2
  obtain ⟨ko,kl,kc,rfl⟩:=slice_one Tryz.underlying23 h3
  simp only [List.cons.injEq,and_true] at e0 e1
  subst e0 e1
  have hbx:Rows.uptoBulk x.1=Rows.uptoBulk y0.1+(Rows.uptoBulk y1.1+(Rows.uptoBulk y2.1+(Rows.uptoBulk y3.1+0)))+1:=by rw [hd];simp only [Rows.uptoBulk,Rows.uptoBulkAll]
  obtain ⟨p,rfl,hp⟩:=open_ints8 h2 (by omega)
  have hpB:p=[]∨∀ a,po=some a→a.block<w.heap.size:=by
   rcases hp.at' with e | ⟨b,off,e,hlt,_⟩
   ·exact .inl (by simpa using e)
   ·exact .inr (fun a ea=>by rw [e] at ea;cases ea;exact hlt)
  rcases open_elemsD Tryz.underlying23 cells_kid (by omega) h3 with ⟨rfl,rfl,rfl⟩ | ⟨a,E,rfl,g1,g2,g3,g4,hall⟩
  ·refine ⟨(k,r,p,[]),⟨po,pc,none,0,rfl,hp,hpB,fun _=>rfl,Nat.le_refl _,.inl rfl⟩,?_⟩
   rw [insN_eq]
   split
   ·simp [sumN];omega
   ·omega
  ·have each:∀ i:Fin kl,∃ z:Int × Tr N,(∃ c0 c1 c2 c3,w.cell? ⟨a.block,a.off+i * 5,none⟩=some (.int .i64 z.1)∧w.cell? ⟨a.block,a.off+i * 5+1,none⟩=some c0∧w.cell? ⟨a.block,a.off+i * 5+2,none⟩=some c1∧w.cell? ⟨a.block,a.off+i * 5+3,none⟩=some c2∧w.cell? ⟨a.block,a.off+i * 5+4,none⟩=some c3∧CsB (fun b=>b<w.heap.size) w N (.agg #[c0,c1,c2,c3]) z.2)∧insN N z.2+1≤4 * Rows.uptoBulk (E[i.1]'(by omega)):=by
    intro ⟨i,hi⟩
    obtain ⟨_,_,cs,n,y,hl,hcell,hy,hye⟩:=hall i (by omega)
    have hle:=bulk_part8 (List.getElem_mem (l:=E) (n:=i) (by omega))
    obtain ⟨z,d0,d1,d2,d3,rfl,t,q1,q2⟩:=open_kid9 IH hy (by rw [hye];omega) (by rw [hye];omega)
    rw [hye] at q2
    exact ⟨(z,t),⟨d0,d1,d2,d3,by simpa using hcell 0 (by omega),by simpa using hcell 1 (by omega),by simpa using hcell 2 (by omega),by simpa using hcell 3 (by omega),by simpa using hcell 4 (by omega),q1⟩,q2⟩
   obtain ⟨f,hf⟩:=Classical.axiomOfChoice each
   obtain ⟨l,hl⟩:∃ l:List (Int × Tr N),l=List.ofFn f:=⟨_,rfl⟩
   have hll:l.length=kl:=by rw [hl];simp
   have hli:∀ i (hi:i<l.length),l[i]=f ⟨i,by omega⟩:=fun i hi=>by subst hl;simp
   have F1:=sumN_bulk9 (fun x:Int × Tr N=>insN N x.2) l E (by omega) (fun i h1 h2=>by rw [hli];exact (hf ⟨i,by omega⟩).2)
   subst hll
   refine ⟨(k,r,p,l),⟨po,pc,some a,kc,rfl,hp,hpB,(fun e=>by cases e),g1,?_⟩,?_⟩
   ·by_cases h0:l.length=0
    ·exact .inl (by simpa using h0)
    ·obtain ⟨ea,hlt,_⟩:=hall 0 (by omega)
     refine .inr ⟨a.block,a.off,by rw [← ea],hlt,hlt,fun i hi=>?_⟩
     rw [hli]
     exact (hf ⟨i,hi⟩).1
   ·rw [insN_eq]
    split <;> omega
theorem open_tree9:∀ N,TIH9 enc w spare held N
 | 0=>fun _ _ _ _ h _=>by omega
 | N+1=>open_tree_step9 (open_tree9 N)
end
end Go.Proofs.YtdhiiicppcgkbaaGreat
