import Derived.Test.YtfojfpnjnpkabaaGreatGF06
import Derived.Deep.WholeRow
import Derived.Test.YtfojfpnjnpkabaaGreatGF04
namespace Go.Proofs.YtfojfpnjnpkabaaGreat
set_option maxRecDepth 100000
set_option linter.unusedVariables false
open Go.RowKit
attribute [local go_sem ↓] Go.wp_at_zero Go.wp_at_succ
theorem Kept.setRow {S:Nat→Prop} {a w:World} (h:Kept S a w) {g:Nat} (hg:g<a.heap.size→S g) (cs:Array Value):Kept S a (w.setRow g cs):=
 h.trans (S' := fun k=>k=g) ⟨rfl,rfl,rfl,by simp [World.setRow],fun k _ hn=>by simp only [World.setRow,Array.getElem?_modify];rw [if_neg (fun e=>hn e.symm)]⟩ (fun i hi e=>by subst e;exact hg hi)
theorem setRow_at {w:World} {g:Nat} {old cs:Array Value} {t:TypeId} {fr:Nat × Nat} (h:w.heap[g]? = some (.cells old t fr)):(w.setRow g cs).heap[g]? = some (.cells cs t fr):=by
 simp [World.setRow,Array.getElem?_modify,h]
theorem info_table:(Tryz.prog.info? 121).map (·.size)=some 100:=by kernel_rfl
theorem run_load_table {w:World} {g:Nat} {cs:Array Value} (hg:w.heap[g]? = some (.cells cs 121 (0,0))) (h:cs.size=100):(loadVar 121 ⟨g,0,none⟩).run Tryz.prog w=.ok (.agg cs) w:=
 run_loadVar_row w g _ _ cs (0,0) _ hg Tryz.underlying121 rfl (by rw [h];exact info_table)
theorem run_store_table {w:World} {g:Nat} {old cs:Array Value} (hg:w.heap[g]? = some (.cells old 121 (0,0))) (ho:old.size=100) (h:cs.size=100) (h1:cs.all (·.oneCell')=true):(storeVar 121 ⟨g,0,none⟩ (.agg cs)).run Tryz.prog w=.ok () (w.setRow g cs):=
 run_storeVar_row w g _ _ old cs hg (by rw [h];exact info_table) (by omega) h1
theorem run_storeCells_table {w:World} {g:Nat} {old cs:Array Value} (hg:w.heap[g]? = some (.cells old 121 (0,0))) (ho:old.size=100) (h:cs.size=100) (h1:cs.all (·.oneCell')=true):(storeCells ⟨g,0,none⟩ cs.toList 0).run Tryz.prog w=.ok () (w.setRow g cs):=by
 have:=run_store_table hg ho h h1
 have hi:=info_table
 cases hq:Tryz.prog.info? 121 with
 | none=>simp [hq] at hi
 | some i=>
  have hs:cs.size=i.size:=by simp [hq] at hi;omega
  simpa [storeVar,sizeOf,typeInfo,hq,Value.cells,hs] using this
theorem run_loadCells_table {w:World} {g:Nat} {cs:Array Value} {t:TypeId} (hg:w.heap[g]? = some (.cells cs t (0,0))) (h:cs.size=100):(loadCellsFrom ⟨g,0,none⟩ 0 100 #[]).run Tryz.prog w=.ok cs w:=by
 have:=run_loadCells_list (P:=Tryz.prog) w ⟨g,0,none⟩ cs.toList (fun j v hv=>by
  have hadd:(⟨g,0,none⟩:Addr).add j=⟨g,j,none⟩:=by unfold Addr.add;split <;> simp_all
  rw [hadd,cellAt hg j]
  simpa using hv)
 simpa [loadCells,h] using this
theorem TabV.one {N:Nat} {w:World} {cs:Array Value} {σ:Tb} (h:TabV N w cs σ):cs.all (·.oneCell')=true:=by
 rw [Array.all_eq_true]
 intro i hi
 obtain ⟨ao,cap,h1,_⟩:=h.2 i (by have:=h.1;omega)
 rw [Array.getElem?_eq_getElem hi] at h1
 simp only [Option.some.injEq] at h1
 rw [h1];rfl
structure WalkAt (Z:Array Value) (w wr:World) (b:Nat) (L:List Sym) (po:Option Addr) (p:List Int) (ao:Option Addr) (cap:Nat) (u:List Int) (i k:Nat) (σ:Tb):Prop where
 pass:PassAt w.heap.size wr (w.heap.size+1+1+1+1) (w.heap.size+1) w.heap.size (w.heap.size+1+1+1) b L ao cap u k σ
 res:wr.heap[w.heap.size+1+1]? = some (.cells Z 121 (0,0))
 pat:IntsAt wr po p
 mw:Proofs.YtfojfpnjnpkabaaGreat.mw L p u noT=Proofs.YtfojfpnjnpkabaaGreat.mw L (p.drop i) (u.drop k) σ
 even:Even L (p.drop i) (u.drop k)
 kle:k≤u.length
 bnd:Bnd σ
 kept:Kept (From w.heap.size) w wr
theorem walk_start {Z:Array Value} (hZ:Z=Array.replicate 100 (.slice none 0 0)) {b:Nat} {w:World} {L:List Sym} (h:Sg w.heap.size w b L) {po ao:Option Addr} {pcap cap:Nat} {p u:List Int} (hp:IntsAt w po p) (hu:IntsAt w ao u) (hum:u.length≤2000) (huc:u.length≤cap) (he:Even L p u) (hpn:0<u.length) :
  WalkAt Z w (((((w.alloc (.cells #[.pointer (some ⟨b,0,none⟩)] 25)).alloc (.cells #[.slice ao u.length cap] 47)).alloc (.cells Z 121)).alloc (.cells Z 121)).alloc (.cells #[.int .i64 0] 3)) b L po p ao cap u 0 0 noT:=by
 obtain ⟨w1,e1⟩:∃ w1,w1=w.alloc (.cells #[.pointer (some ⟨b,0,none⟩)] 25):=⟨_,rfl⟩
 obtain ⟨w2,e2⟩:∃ w2,w2=w1.alloc (.cells #[.slice ao u.length cap] 47):=⟨_,rfl⟩
 obtain ⟨w3,e3⟩:∃ w3,w3=w2.alloc (.cells Z 121):=⟨_,rfl⟩
 obtain ⟨w4,e4⟩:∃ w4,w4=w3.alloc (.cells Z 121):=⟨_,rfl⟩
 obtain ⟨w5,e5⟩:∃ w5,w5=w4.alloc (.cells #[.int .i64 0] 3):=⟨_,rfl⟩
 rw [← e1,← e2,← e3,← e4,← e5]
 have z1:w1.heap.size=w.heap.size+1:=by rw [e1,World.size_alloc]
 have z2:w2.heap.size=w.heap.size+1+1:=by rw [e2,World.size_alloc,z1]
 have z3:w3.heap.size=w.heap.size+1+1+1:=by rw [e3,World.size_alloc,z2]
 have z4:w4.heap.size=w.heap.size+1+1+1+1:=by rw [e4,World.size_alloc,z3]
 have k1:Same0 w w1:=by rw [e1];exact (Kept.refl _ w).alloc _
 have k2:Same0 w1 w2:=by rw [e2];exact (Kept.refl _ w1).alloc _
 have k3:Same0 w2 w3:=by rw [e3];exact (Kept.refl _ w2).alloc _
 have k4:Same0 w3 w4:=by rw [e4];exact (Kept.refl _ w3).alloc _
 have k5:Same0 w4 w5:=by rw [e5];exact (Kept.refl _ w4).alloc _
 have K:Same0 w w5:=(((k1.trans' k2).trans' k3).trans' k4).trans' k5
 have b1:w1.heap[w.heap.size]? = some (.cells #[.pointer (some ⟨b,0,none⟩)] 25 (0,0)):=by rw [e1];exact heap_alloc_new _ _
 have b2:w2.heap[w.heap.size+1]? = some (.cells #[.slice ao u.length cap] 47 (0,0)):=by rw [← z1,e2];exact heap_alloc_new _ _
 have b3:w3.heap[w.heap.size+1+1]? = some (.cells Z 121 (0,0)):=by rw [← z2,e3];exact heap_alloc_new _ _
 have b4:w4.heap[w.heap.size+1+1+1]? = some (.cells Z 121 (0,0)):=by rw [← z3,e4];exact heap_alloc_new _ _
 have b5:w5.heap[w.heap.size+1+1+1+1]? = some (.cells #[.int .i64 0] 3 (0,0)):=by rw [← z4,e5];exact heap_alloc_new _ _
 refine ⟨⟨b5,((k3.trans' k4).trans' k5).at0 b2,(((k2.trans' k3).trans' k4).trans' k5).at0 b1,⟨_,k5.at0 b4,hZ ▸ tab_zero _ _⟩,hu.same K,?_,huc,hum,h.same K,by omega,by omega,by omega,by omega,by omega,by omega,by omega,by omega,by omega⟩,(k4.trans' k5).at0 b3,hp.same K,rfl,he,by omega,fun v=>by simp [noT],Kept.mono K (fun _ _ f=>f.elim)⟩
 intro a e
 subst e
 obtain ⟨b', off,e,hlt,_⟩:=hu.get hpn
 cases e;exact hlt
theorem WalkAt.next {Z:Array Value} {w wr w' : World} {b:Nat} {L:List Sym} {po:Option Addr} {p:List Int} {ao:Option Addr} {cap:Nat} {u:List Int} {i k k' : Nat} {σ σ' : Tb} (h:WalkAt Z w wr b L po p ao cap u i k σ) (hpo:∀ a,po=some a→p=[]∨a.block<w.heap.size)
  (h1:PassAt w.heap.size w' (w.heap.size+1+1+1+1) (w.heap.size+1) w.heap.size (w.heap.size+1+1+1) b L ao cap u k' σ') (h2:Kept (fun i=>i=w.heap.size+1+1+1+1∨i=w.heap.size+1+1+1) wr w')
  (h3:Proofs.YtfojfpnjnpkabaaGreat.mw L (p.drop i) (u.drop k) σ=Proofs.YtfojfpnjnpkabaaGreat.mw L (p.drop (i+1)) (u.drop k') σ') (h4:Even L (p.drop (i+1)) (u.drop k')) (h5:k' ≤ u.length) (h6:Bnd σ'):WalkAt Z w w' b L po p ao cap u (i+1) k' σ' := by
 refine ⟨h1,h2.at h.res (by omega),?_,h.mw.trans h3,h4,h5,h6,h.kept.trans h2 (fun i hi e=>by rcases e with e | e <;> omega)⟩
 rcases h.pat with e | ⟨b', off,e,hlt,hc⟩
 ·exact .inl e
 ·subst e
  rcases hpo _ rfl with e | e
  ·exact .inl e
  ·exact IntsAt.kept (.inr ⟨b', off,rfl,hlt,hc⟩) h2 (fun a ea=>by cases ea;rintro (f | f) <;> (simp only at f e;omega))
theorem bnd_upd {σ:Tb} (h:Bnd σ) {v:Nat} {x:List Int} (hx:x.length≤2000):Bnd (updT σ v x):=fun y=>by
 unfold updT
 split
 ·exact hx
 ·exact h y
theorem walk_step {Z:Array Value} {w wr:World} {b:Nat} {L:List Sym} {po:Option Addr} {p:List Int} {ao:Option Addr} {cap:Nat} {u:List Int} {i k:Nat} {σ:Tb} (hW:WalkAt Z w wr b L po p ao cap u i k σ) (hpo:∀ a,po=some a→p=[]∨a.block<w.heap.size) (hlt:i<p.length) (hv : -99≤p[i]) :
  (∃ k' σ', Calls Tryz.prog 81 #[.int .i64 p[i],.pointer (some ⟨w.heap.size+1+1+1+1,0,none⟩),.pointer (some ⟨w.heap.size+1,0,none⟩),.pointer (some ⟨w.heap.size,0,none⟩),.pointer (some ⟨w.heap.size+1+1+1,0,none⟩)] wr fun e w' => e=.returned (.bool true)∧WalkAt Z w w' b L po p ao cap u (i+1) k' σ') ∨
  (mw L p u noT=none∧Calls Tryz.prog 81 #[.int .i64 p[i],.pointer (some ⟨w.heap.size+1+1+1+1,0,none⟩),.pointer (some ⟨w.heap.size+1,0,none⟩),.pointer (some ⟨w.heap.size,0,none⟩),.pointer (some ⟨w.heap.size+1+1+1,0,none⟩)] wr fun e w' => e=.returned (.bool false)∧w'.heap[w.heap.size+1+1]? = some (.cells Z 121 (0,0))∧Same0 w w'):=by
 have hd:p.drop i=p[i] :: p.drop (i+1):=List.drop_eq_getElem_cons hlt
 have hev:=hW.even
 rw [hd] at hev
 obtain ⟨x,ts', hx,q1,q2⟩:=hev.cons
 have hku:k<u.length:=by
  have:=congrArg List.length hx
  simp at this;omega
 have hum:=hW.pass.um
 have hx2:u.drop k=u[k] :: u.drop (k+1):=List.drop_eq_getElem_cons hku
 have bad:∀ w', Kept (fun i=>i=w.heap.size+1+1+1+1∨i=w.heap.size+1+1+1) wr w' → w'.heap[w.heap.size+1+1]? = some (.cells Z 121 (0,0))∧Same0 w w' := fun w' g2=>⟨g2.at hW.res (by omega),from_below (hW.kept.trans g2 (fun i hi e=>by rcases e with e | e <;> omega))⟩
 by_cases hn:0≤p[i]
 ·have c:=pass_sym hW.pass p[i] hn hku
  by_cases hq:u[k]=p[i]
  ·left
   rw [hx2] at hx
   simp only [List.cons.injEq] at hx
   refine ⟨k+1,σ,c.mono ?_⟩
   rintro e w' ⟨rfl,g1,g2⟩
   exact ⟨by simp [hq],hW.next hpo g1 g2 (by rw [hd,hx2,mw_sym hn,if_pos hq]) (by rw [hx.2];exact q1 hn (by rw [← hx.1];exact hq)) (by omega) hW.bnd⟩
  ·right
   refine ⟨by rw [hW.mw,hd,hx2,mw_sym hn,if_neg hq],c.mono ?_⟩
   rintro e w' ⟨rfl,g1,g2⟩
   exact ⟨by simp [hq],bad w' g2⟩
 ·obtain ⟨m,g1,g2,g3,g4,g5,g6⟩:=q2 hn
  rw [List.length_drop] at g3
  rw [List.drop_drop] at g6
  obtain ⟨v,hvv⟩:∃ v:Nat,v=(-p[i]).toNat:=⟨_,rfl⟩
  have hpv:p[i] = -(v:Int):=by omega
  by_cases hs:σ v=[]
  ·left
   have c:=pass_new hW.pass (v:=v) (by omega) (by omega) (by omega) g1 hs
   rw [← hpv] at c
   refine ⟨k+m,updT σ v (headT L (u.drop k)),c.mono ?_⟩
   rintro e w' ⟨rfl,y1,y2⟩
   refine ⟨rfl,hW.next hpo y1 y2 ?_ g6 (by omega) (bnd_upd hW.bnd (by omega))⟩
   rw [hd,mw_new hn (by rw [← hvv];exact hs),g5,List.drop_drop,← hvv]
  ·have c:=pass_old hW.pass (v:=v) (by omega) (by omega) (by omega) g1 hs (hW.bnd v)
   rw [← hpv] at c
   by_cases hq:σ v=headT L (u.drop k)
   ·left
    refine ⟨k+m,σ,c.mono ?_⟩
    rintro e w' ⟨rfl,y1,y2⟩
    refine ⟨by rw [← hq];simp [sameB],hW.next hpo y1 y2 ?_ g6 (by omega) hW.bnd⟩
    rw [hd,mw_old hn (by rw [← hvv];exact hs),g5,List.drop_drop,← hvv,if_pos hq]
   ·right
    refine ⟨by rw [hW.mw,hd,mw_old hn (by rw [← hvv];exact hs),← hvv,if_neg hq],c.mono ?_⟩
    rintro e w' ⟨rfl,y1,y2⟩
    exact ⟨by simp [sameB,hq],bad w' y2⟩
set_option maxHeartbeats 4000000 in
theorem walk_any {b:Nat} {w:World} {L:List Sym} (h:Sg w.heap.size w b L) {po ao:Option Addr} {pcap cap:Nat} {p u:List Int} (hp:IntsAt w po p) (hu:IntsAt w ao u) (hpm:p.length≤2000) (hum:u.length≤2000) (huc:u.length≤cap) (hpv:∀ x∈p, -99≤x) (he:Even L p u) (hpn:0<u.length) :
  Calls Tryz.prog 53 #[.pointer (some ⟨b,0,none⟩),.slice po p.length pcap,.slice ao u.length cap] w fun e w' => ∃ cs f,e=.returned (.tuple #[.agg cs,.bool f])∧Same0 w w' ∧ (∀ σ,mw L p u noT=some σ→f=true∧TabV w.heap.size w' cs σ∧Bnd σ)∧(mw L p u noT=none→f=false∧TabV w.heap.size w' cs noT):=by
 obtain ⟨Z,hZ⟩:∃ Z:Array Value,Z=Array.replicate 100 (.slice none 0 0):=⟨_,rfl⟩
 have hz:Tryz.zeroCells121=Z:=zeros_table.trans hZ.symm
 have hmf:∀ (fn:Fn) (first cap:Array Value) (w:World),(Instr.makeFunc fn first cap).run Tryz.prog w=.ok (.func fn first cap) w:=fun _ _ _ _=>rfl
 have W0:=walk_start (po:=po) (pcap:=pcap) (cap:=cap) hZ h hp hu hum huc he hpn
 have hpo:Hid (∀ a,po=some a→p=[]∨a.block<w.heap.size):=fun a e=>by
  rcases hp with e' | ⟨b', off,e', hlt,_⟩
  ·exact .inl e'
  ·subst e;cases e'; exact .inr hlt
 have HV:Hid (∀ x∈p, -99≤x):=hpv
 have HZ:Hid (Z=Array.replicate 100 (.slice none 0 0)):=hZ
 have hZs:Z.size=100:=by rw [hZ];simp
 have HST:Hid (∀ w' : World,w'.heap[w.heap.size+1+1]? = some (.cells Z 121 (0,0))→(storeCells ⟨w.heap.size+1+1,0,none⟩ Z.toList 0).run Tryz.prog w' = .ok () (w'.setRow (w.heap.size+1+1) Z)):=fun w' hr=>run_storeCells_table hr hZs hZs (by rw [hZ];exact (tab_zero 0 w').one)
 clear hpv hZ
 go_enter Tryz.func53,Tryz.ntmps53
 go_wp2
 go_loopw [16] (fun iv wr=>∃ (i k:Nat) (σ:Tb),i≤p.length∧iv=.int .i64 (i:Int)∧WalkAt Z w wr b L po p ao cap u i k σ) (fun iv _=>p.length-(intOf iv).toNat)
 case atStart=>exact ⟨0,0,noT,Nat.zero_le _,rfl,W0⟩
 case round=>
  clear W0
  obtain ⟨i,k,σ,hi,rfl,hW⟩:=hrel
  by_cases hlt:i<p.length
  ·obtain ⟨pb,off,rfl,hpb,hc⟩:=hW.pat.get hlt
   have i1:(0:Int)≤(i:Int):=by omega
   have i2:(i:Int)<(p.length:Int):=by omega
   rcases walk_step hW hpo.out hlt (HV.out _ (List.getElem_mem hlt)) with ⟨k', σ', cc⟩ | ⟨hnone,cc⟩
   ·clear hW
    go_wp2_with (first | (go_at_call 81;refine cc.mono ?_;rintro e w' ⟨rfl,hW'⟩))
    exact ⟨⟨i+1,k', σ', by omega,by go_num,hW'⟩,by simp [intOf];omega⟩
   ·have HN:Hid (mw L p u noT=none):=hnone
    clear hnone hW
    go_wp2_with (first | (go_at_call 81;refine cc.mono ?_;rintro e w' ⟨rfl,hr,hk⟩;have hst:=HST.out w' hr))
    have k1:Same0 w (w'.setRow (w.heap.size+1+1) Z):=hk.setRow (fun e=>by omega) Z
    refine bodyPost_ret (v:=.tuple #[.agg Z,.bool false]) ?_ rfl ⟨Z,false,rfl,k1,fun σ e=>?_,fun _=>⟨rfl,?_⟩⟩
    ·rw [results_cell_tmp rfl]
     simp [asAddr,Result.andThen,run_load_table (setRow_at hr) hZs]
    ·rw [HN.out] at e;cases e
    ·rw [HZ.out];exact tab_zero _ _
  ·have hn:p.drop i=[]:=List.drop_eq_nil_of_le (by omega)
   have H:Hid (mw L p u noT=some σ):=by
    have:=hW.mw
    rw [hn] at this
    exact this.trans rfl
   have hb:=hW.bnd
   have hr:=hW.res
   have hk:=from_below hW.kept
   obtain ⟨cs,t1,t2⟩:=hW.pass.tab
   have hcs:=t2.1
   have hcl:cs.toList.length=100:=by simpa using hcs
   have hld:=run_loadCells_table t1 hcs
   have hst:=run_storeCells_table hr hZs hcs t2.one
   have T2:Hid (TabV w.heap.size wr cs σ):=t2
   clear hW hn t2
   go_wp2
   refine wp_load_row 121 (.tmp 8) rfl _ rfl _ cs (0,0) _ t1 Tryz.underlying121 rfl (by rw [hcs];exact info_table) ?_
   go_wp2
   have k1:Same0 w (wr.setRow (w.heap.size+1+1) cs):=hk.setRow (fun e=>by omega) cs
   refine bodyPost_ret (v:=.tuple #[.agg cs,.bool true]) ?_ rfl ⟨cs,true,rfl,k1,fun σ' e=>?_,fun e=>?_⟩
   ·rw [results_cell_tmp rfl]
    simp [asAddr,Result.andThen,run_load_table (setRow_at hr) hcs]
   ·rw [H.out] at e
    cases e
    exact ⟨rfl,T2.out.kept ((Kept.refl (fun i=>i=w.heap.size+1+1) wr).setRow (fun _=>rfl) cs) (fun k hk e=>by omega),hb⟩
   ·rw [H.out] at e;cases e
theorem info_bind:(Tryz.prog.info? 154).map (fun i=>(i.zero,i.size,i.bytes))=some (some (.agg #[.int .i64 0,.slice none 0 0]),2,32):=by kernel_rfl
def bcells (l:List (Int × Value)):List Value:=l.flatMap (fun p=>[.int .i64 p.1,p.2])
theorem bcells_snoc (l:List (Int × Value)) (p:Int × Value):bcells (l ++ [p])=bcells l ++ [.int .i64 p.1,p.2]:=by simp [bcells]
theorem wpList_bind {w0:World} {ops:Array Oper} {rest:List Oper} {o:Oper} {a:Act} {Q:Exit→Act→World→Prop} (hgd:o.guard=none) (s x:Operand)
  (ho:o.op=.call { callee:=.builtin .append,args:=#[s,x],argTypes:=#[66,66] })
  (base:Nat) (l:List (Int × Value)) (v:Value) (hs:a.eval s=v) (hr:w0.ownsRow base 154 2 v l.length (bcells l)) (n:Int) (tO:Option Addr) (tl tc:Nat) (hx:a.eval x=.slice (some ⟨w0.heap.size,0,none⟩) 1 1) (hb:base≤w0.heap.size) (hsz:l.length≤140737488000)
  (h:∀ g cap w', w'.ownsRow base 154 2 (.slice (some ⟨g,0,none⟩) (l.length+1) cap) (l.length+1) (bcells l ++ [.int .i64 n,.slice tO tl tc])→Kept (fun k=>v.ownBlock=some k) w0 w' → (v.ownBlock=some g∨w0.heap.size≤g)→wpList Tryz.prog ops Q rest (a.put o.dst (.slice (some ⟨g,0,none⟩) (l.length+1) cap)) w') :
  wpList Tryz.prog ops Q (o :: rest) a (w0.alloc (.cells #[.int .i64 n,.slice tO tl tc] 154)):=by
 obtain ⟨i,hi,hz0,hz1,hz2⟩:=info_parts info_bind
 refine wpList_append_lies _ hgd s x 66 ho base 154 i _ 2 32 Tryz.underlying66 hi hz0 hz1 hz2 rfl (by decide) v l.length (bcells l) hs (World.ownsRow.alloc hr _) ⟨w0.heap.size,0,none⟩ 1 1 [.int .i64 n,.slice tO tl tc] hx rfl (World.news_of_block (cs:=#[.int .i64 n,.slice tO tl tc]) (t:=154) (fr:=(0,0)) (heap_alloc_new w0 _)) (by simp [Value.oneCell']) (by omega) (by unfold maxLen;omega) (by omega) (by simp;omega) (w0.heap.size+1) (by simp) ?_
 intro g cap w' hown hgrow hat hlt
 refine h g cap w' hown ?_ (hat.imp id (fun e=>by omega))
 exact Kept.grown (Kept.alloc (Kept.refl _ w0) _) hgrow (fun _ e _=>e)
structure BOwn (base:Nat) (w:World) (v:Value) (l:List (Int × Value)) (bs:List Bd):Prop where
 row:w.ownsRow base 154 2 v l.length (bcells l)
 len:l.length=bs.length
 each:∀ i (h:i<l.length) (h' : i<bs.length),l[i].1=bs[i].1∧Row base w l[i].2 bs[i].2∧∀ k,l[i].2.ownBlock=some k→v.ownBlock≠some k
 apart:∀ i j (hi:i<l.length) (hj:j<l.length),i≠j→∀ k,l[i].2.ownBlock=some k→l[j].2.ownBlock≠some k
theorem BOwn.nil (base:Nat) (w:World):BOwn base w (.slice none 0 0) [] []:=⟨World.ownsRow_nil _ _ _ _,rfl,fun i h=>by simp at h,fun i j h=>by simp at h⟩
theorem BOwn.kept {base:Nat} {w w' : World} {v:Value} {l:List (Int × Value)} {bs:List Bd} {S:Nat→Prop} (h:BOwn base w v l bs) (hk:Kept S w w') (hs:∀ k,base≤k→k<w.heap.size→¬ S k):BOwn base w' v l bs:=
 ⟨hk.row h.row (fun k e=>hs k (h.row.lt k e).1 (h.row.lt k e).2),h.len,fun i h1 h2=>⟨(h.each i h1 h2).1,hk.row (h.each i h1 h2).2.1 (fun k e=>hs k ((h.each i h1 h2).2.1.lt k e).1 ((h.each i h1 h2).2.1.lt k e).2),(h.each i h1 h2).2.2⟩,h.apart⟩
theorem BOwn.same {base:Nat} {w w' : World} {v:Value} {l:List (Int × Value)} {bs:List Bd} (h:BOwn base w v l bs) (hk:Same0 w w'):BOwn base w' v l bs:=h.kept hk (fun _ _ _ f=>f)
theorem BOwn.more {base:Nat} {wr w1 w2:World} {lv tv:Value} {l:List (Int × Value)} {bs:List Bd} {n:Int} {xs:List Int} {g cap:Nat} (h:BOwn base wr lv l bs) (k1:Same0 wr w1) (hb:base≤wr.heap.size) (ht:Row wr.heap.size w1 tv xs)
  (hr:w2.ownsRow base 154 2 (.slice (some ⟨g,0,none⟩) (l.length+1) cap) (l.length+1) (bcells l ++ [.int .i64 n,tv])) (k2:Kept (fun k=>lv.ownBlock=some k) w1 w2) (hat:lv.ownBlock=some g∨w1.heap.size≤g) :
  BOwn base w2 (.slice (some ⟨g,0,none⟩) (l.length+1) cap) (l ++ [(n,tv)]) (bs ++ [(n,xs)]):=by
 have z1:=k1.size
 have hl:=h.len
 have own:∀ k,lv.ownBlock=some k→k<wr.heap.size:=fun k e=>(h.row.lt k e).2
 have tl:∀ k,tv.ownBlock=some k→wr.heap.size≤k∧k<w1.heap.size:=fun k e=>ht.lt k e
 have ol:∀ i (hi:i<l.length) k,l[i].2.ownBlock=some k→k<wr.heap.size:=fun i hi k e=>((h.each i hi (by omega)).2.1.lt k e).2
 refine ⟨?_,by simp [hl],fun i h1 h2=>?_,fun i j hi hj hij k e=>?_⟩
 ·rw [bcells_snoc,List.length_append];exact hr
 ·by_cases hi:i<l.length
  ·have hi' : i<bs.length:=by omega
   obtain ⟨e1,e2,e3⟩:=h.each i hi hi'
   rw [List.getElem_append_left hi,List.getElem_append_left hi']
   refine ⟨e1,k2.row (k1.row e2 (fun _ _ f=>f)) (fun k e=>e3 k e),fun k e=>?_⟩
   simp only [Value.ownBlock,ne_eq,Option.some.injEq]
   rintro rfl
   rcases hat with y | y
   ·exact e3 _ e y
   ·have:=ol i hi _ e;omega
  ·have hi2:i=l.length:=by simp at h1;omega
   subst hi2
   have e1:(l ++ [(n,tv)])[l.length]=(n,tv):=by simp
   have e2:(bs ++ [(n,xs)])[l.length]=(n,xs):=by simp [hl]
   rw [e1,e2]
   refine ⟨rfl,row_mono (k2.row ht (fun k e f=>by have:=own k f;have:=(tl k e).1;omega)) hb,fun k e=>?_⟩
   simp only [Value.ownBlock,ne_eq,Option.some.injEq]
   rintro rfl
   have:=tl _ e
   rcases hat with y | y
   ·have:=own _ y;omega
   ·omega
 ·by_cases hi1:i<l.length
  ·rw [List.getElem_append_left hi1] at e
   by_cases hj1:j<l.length
   ·rw [List.getElem_append_left hj1]
    exact h.apart i j hi1 hj1 hij k e
   ·have:j=l.length:=by simp at hj;omega
    subst this
    have e1:(l ++ [(n,tv)])[l.length]=(n,tv):=by simp
    rw [e1]
    intro y
    have:=(tl k y).1;have:=ol i hi1 k e;omega
  ·have hi2:i=l.length:=by simp at hi;omega
   subst hi2
   have e1:(l ++ [(n,tv)])[l.length]=(n,tv):=by simp
   rw [e1] at e
   have hj1:j<l.length:=by simp at hj;omega
   rw [List.getElem_append_left hj1]
   intro y
   have:=(tl k e).1;have:=ol j hj1 k y;omega
set_option maxHeartbeats 4000000 in
theorem binds_any {N:Nat} {w:World} {A:Nat} {σ:Tb} (h:TabAt N w A σ) (hb:Bnd σ) :
  Calls Tryz.prog 54 #[.pointer (some ⟨A,0,none⟩)] w fun e w' => ∃ v l,e=.returned v∧BOwn w.heap.size w' v l (blN σ 100)∧Same0 w w' := by
 have hnil:=neqnil
 go_enter Tryz.func54,Tryz.ntmps54
 go_wp2
 go_loopw [3,8] (fun lv iv wr=>∃ (i:Nat) (l:List (Int × Value)),i≤100∧iv=.int .i64 (i:Int)∧BOwn w.heap.size wr lv l (blN σ i)∧Same0 w wr) (fun _ iv _=>100-(intOf iv).toNat)
 case atStart=>exact ⟨0,[],by omega,rfl,BOwn.nil _ _,Kept.refl _ _⟩
 case round=>
  obtain ⟨i,l,hi,rfl,hB,hs⟩:=hrel
  obtain ⟨lo,lc,rfl⟩:=row_shape hB.row
  by_cases hlt:i<100
  ·obtain ⟨ao,cap,c1,c2,c3,c4,c5⟩:=(h.same hs).cell hlt
   have i1:(0:Int)≤(i:Int):=by omega
   have i2:(i:Int)<100:=by omega
   have d1:wr.drew.cell? ⟨A,i,none⟩=some (.slice ao (σ i).length cap):=c1
   by_cases hσ:σ i=[]
   ·obtain ⟨rfl,rfl⟩:=c5 hσ
    have HB:Hid (blN σ (i+1)=blN σ i):=blN_no hσ
    clear c5 hσ
    go_wp2
    go_quiet (fail)
    go_wp2
    refine ⟨⟨i+1,l,by omega,by go_num,?_,hs.drewN _⟩,by simp [intOf];omega⟩
    rw [HB.out];exact hB.same ((Kept.refl _ wr).drewN _)
   ·have hpos:0<(σ i).length:=List.length_pos_iff.2 hσ
    have HB:Hid (blN σ (i+1)=blN σ i ++ [((i:Int),σ i)]):=blN_yes hσ
    have hlen:l.length≤100:=by have:=hB.len;have:=blN_len σ i;omega
    obtain ⟨ab,off,rfl,_,_⟩:=c3.get hpos
    have cc:Hid (∀ m,Calls Tryz.prog 80 #[.slice (some ⟨ab,off,none⟩) (σ i).length cap] (wr.drewN m) fun e w' => ∃ tO tc,e=.returned (.slice tO (σ i).length tc)∧Row wr.heap.size w' (.slice tO (σ i).length tc) (σ i)∧Same0 wr w'):=fun m=>by
     have kd:Same0 wr (wr.drewN m):=(Kept.refl _ wr).drewN m
     refine (clone_term (cap:=cap) (c3.same kd) hpos (hb i)).mono ?_
     rintro e w' ⟨v,rfl,hr,hk⟩
     obtain ⟨tO,tc,rfl⟩:=row_shape hr
     exact ⟨tO,tc,rfl,hr,kd.trans' hk⟩
    have hbs:=hs.size
    clear c5 hσ
    go_wp2
    go_quiet (fail)
    go_wp2_with (first | (go_at_call 80;refine (cc.out _).mono ?_;rintro e w1 ⟨tO,tc,rfl,hr1,hk1⟩;have hrow1:=hk1.row hB.row (fun _ _ f=>f);have hb1:w.heap.size≤w1.heap.size:=Nat.le_trans hbs hk1.size) | (at_builtin;refine wpList_bind rfl _ _ rfl w.heap.size l _ rfl hrow1 (i:Int) tO (σ i).length tc rfl hb1 (by omega) ?_;intro g gcap w2 hr2 hk2 hat2))
    have hB2:=hB.more hk1 hbs hr1 hr2 hk2 hat2
    have hs2:Same0 w w2:=(hs.trans' hk1).trans hk2 (fun k hk e=>by have:=(hB.row.lt k e).1;omega)
    rw [← HB.out] at hB2
    go_roundw
    case rel=>first | exact ⟨i+1,l ++ [((i:Int),.slice tO (σ i).length tc)],by omega,by go_num,hB2,hs2⟩ | ((repeat apply Exists.intro);exact ⟨⟨i+1,l ++ [((i:Int),.slice tO (σ i).length tc)],by omega,by go_num,hB2,hs2⟩,rfl⟩)
    case measure=>simp [intOf];omega
  ·obtain rfl:i=100:=by omega
   go_wp2
   go_ret
   exact ⟨_,l,rfl,hB,hs⟩
def tabF (L:List Sym):List Bd→Tb→Except Int Tb
 | [],σ=>.ok σ
 | b :: r,σ=>if b.1<1∨99<b.1∨σ b.1.toNat≠[] then .error 50 else if checkE L b.2≠0 then .error (checkE L b.2) else tabF L r (updT σ b.1.toNat b.2)
structure TabW (Z:Array Value) (w wr:World) (L:List Sym) (bs:List Bd) (i:Nat) (σ:Tb):Prop where
 tab:TabAt w.heap.size wr (w.heap.size+1) σ
 res:wr.heap[w.heap.size]? = some (.cells Z 121 (0,0))
 eq:tabF L bs noT=tabF L (bs.drop i) σ
 bnd:Bnd σ
 kept:Same0 w wr
def matchE (L:List Sym) (p t:List Int) (a:Int):Int:=if checkE L p≠0 then checkE L p else placeE L t a
def matchS (L:List Sym) (p t:List Int) (a:Int):Option Tb:=if matchE L p t a=0 then mw L p (subN L t a.toNat) noT else none
def matchB (L:List Sym) (p t:List Int) (a:Int):List Bd:=match matchS L p t a with | some σ=>blN σ 100 | none=>[]
theorem match_bad {L:List Sym} {p t:List Int} {a:Int} (h:matchE L p t a≠0):matchS L p t a=none∧matchB L p t a=[]:=by
 have h1:matchS L p t a=none:=by rw [matchS,if_neg h]
 exact ⟨h1,by rw [matchB,h1]⟩
set_option maxHeartbeats 4000000 in
theorem match_any {n b:Nat} {w:World} {L:List Sym} (h:Sg n w b L) (hn:n≤w.heap.size) {po ao:Option Addr} {pcap cap:Nat} {p t:List Int} (hp:IntsAt w po p) (hpm:p.length≤maxLen) (ht:IntsAt w ao t) (hm:t.length≤maxLen) (hcap:t.length≤cap) (a:Int) :
  Calls Tryz.prog 21 #[.pointer (some ⟨b,0,none⟩),.slice po p.length pcap,.slice ao t.length cap,.int .i64 a] w fun e w' => ∃ v l,e=.returned (.tuple #[v,.bool (matchS L p t a).isSome,.int .i64 (matchE L p t a)])∧BOwn w.heap.size w' v l (matchB L p t a)∧Same0 w w' := by
 have cp:=check_any (cap:=pcap) h hp hpm
 by_cases hz:checkE L p=0
 ·have cs1:Hid (∀ w1,Same0 w w1→Calls Tryz.prog 46 #[.pointer (some ⟨b,0,none⟩),.slice ao t.length cap,.int .i64 a] w1 fun e w' => ∃ v,e=.returned (.tuple #[v,.int .i64 (placeE L t a)])∧Row w1.heap.size w' v (subA L t a)∧Same0 w1 w'):=fun w1 hk=>sub_any (cap:=cap) (h.same hk) (ht.same hk) hm hcap a
  have HE:matchE L p t a=placeE L t a:=by simp [matchE,hz]
  rw [hz] at cp
  by_cases hq:placeE L t a=0
  ·obtain ⟨q,rfl,hql,h0,h1,h2⟩:=place_zero hq
   obtain ⟨p1,p2,p3⟩:=checkE_zero.1 hz
   have pv:∀ x∈p, -99≤x:=fun x hx=>((badE_zero.1 p2) x hx).2
   have HS:matchS L p t q=mw L p (subN L t q) noT:=by rw [matchS,HE,if_pos hq];rfl
   have HA:subA L t q=subN L t q:=by rw [subA,if_pos hq];rfl
   have hsl:=sub_length h2 hql
   have hle:=endN_le h2 hql
   have hst:=sub_need h2 hql
   have c2:Hid (∀ w1,Same0 w w1→Calls Tryz.prog 46 #[.pointer (some ⟨b,0,none⟩),.slice ao t.length cap,.int .i64 (q:Int)] w1 fun e w' => ∃ uo uc,e=.returned (.tuple #[.slice uo (subN L t q).length uc,.int .i64 0])∧Same0 w w' ∧ Calls Tryz.prog 53 #[.pointer (some ⟨b,0,none⟩),.slice po p.length pcap,.slice uo (subN L t q).length uc] w' fun e w'' => ∃ cs f,e=.returned (.tuple #[.agg cs,.bool f])∧cs.size=100∧Same0 w w'' ∧ f=(matchS L p t q).isSome∧cs.all (·.oneCell')=true∧∀ σ,matchS L p t q=some σ→TabV w''.heap.size w'' cs σ∧Bnd σ):=fun w1 hk=>by
    refine (cs1.out w1 hk).mono ?_
    rintro e w2 ⟨v,rfl,hr,hk2⟩
    rw [HA] at hr
    obtain ⟨uo,uc,rfl,u1,u2,u3⟩:=hr.ints
    have K2:=hk.trans' hk2
    have hn2:n≤w2.heap.size:=Nat.le_trans hn K2.size
    refine ⟨uo,uc,by rw [hq],K2,?_⟩
    have sg2:Sg w2.heap.size w2 b L:=by
     obtain ⟨⟨sv,mr,x1,x2⟩,x3⟩:=h.same K2
     exact ⟨⟨sv,mr,x1,fun k e=>by have:=x2 k e;omega⟩,x3⟩
    refine (walk_any (pcap:=pcap) sg2 (hp.same K2) u1 p1 (by omega) u2 pv (even_term p3 hst) (isT_pos hst)).mono ?_
    rintro e w3 ⟨cs,f,rfl,hk3,y1,y2⟩
    have z3:=hk3.size
    have K3:=K2.trans' hk3
    rw [HS]
    cases hm:mw L p (subN L t q) noT with
    | none=>
     obtain ⟨rfl,ty⟩:=y2 hm
     exact ⟨cs,false,rfl,ty.1,K3,rfl,ty.one,fun σ e=>by cases e⟩
    | some σ=>
     obtain ⟨rfl,ty,tb⟩:=y1 σ hm
     refine ⟨cs,true,rfl,ty.1,K3,rfl,ty.one,fun σ' e=>?_⟩
     cases e
     refine ⟨⟨ty.1,fun v hv=>?_⟩,tb⟩
     obtain ⟨xo,xc,g1,g2,g3,g4,g5⟩:=ty.2 v hv
     exact ⟨xo,xc,g1,g2,g3,g4,fun a e=>by have:=g5 a e;omega⟩
   have HE' : Hid (matchE L p t q=0):=by show _=_;rw [HE];exact hq
   obtain ⟨Z,hZ⟩:∃ Z:Array Value,Z=Array.replicate 100 (.slice none 0 0):=⟨_,rfl⟩
   have hzz:Tryz.zeroCells121=Z:=zeros_table.trans hZ.symm
   have hZs:Z.size=100:=by rw [hZ];simp
   have HST:Hid (∀ (w' : World) (cs:Array Value),cs.size=100→cs.all (·.oneCell')=true→(storeCells ⟨w'.heap.size,0,none⟩ cs.toList 0).run Tryz.prog (w'.alloc (.cells Z 121))=.ok () (w'.alloc (.cells cs 121))):=fun w' cs h1 h2=>run_storeCells_new w' _ Z cs (by rw [h1];exact info_table) (by omega) h2
   clear hZ cs1 hq HE HS HA hsl hle hst h2 h1 h0 hz p1 p2 p3 pv
   cases hS:matchS L p t q with
   | none=>
    have HB:Hid (matchB L p t q=[]):=by show _=_;rw [matchB,hS]
    rw [hS] at c2
    go_enter Tryz.func21,Tryz.ntmps21
    go_wp2_with (first | (go_at_call 43;refine cp.mono ?_;rintro e w1 ⟨rfl,hk1⟩) | (go_at_call 46;refine (c2.out _ hk1).mono ?_;rintro e w2 ⟨uo,uc,rfl,hk2,cw⟩) | (go_at_call 53;refine cw.mono ?_;rintro e w3 ⟨cs,f,rfl,hcs,hk3,rfl,hone,_⟩;have hst:=HST.out w3 cs hcs hone))
    go_ret3
    refine ⟨.slice none 0 0,[],by rw [HE'.out];rfl,?_,hk3.alloc _⟩
    rw [HB.out];exact BOwn.nil _ _
   | some σ=>
    have HB:Hid (matchB L p t q=blN σ 100):=by show _=_;rw [matchB,hS]
    rw [hS] at c2
    have cB:Hid (∀ (w3:World) (cs:Array Value),Same0 w w3→TabV w3.heap.size w3 cs σ→Bnd σ→Calls Tryz.prog 54 #[.pointer (some ⟨w3.heap.size,0,none⟩)] (w3.alloc (.cells cs 121)) fun e w' => ∃ v l,e=.returned v∧BOwn w.heap.size w' v l (blN σ 100)∧Same0 w w'):=fun w3 cs hk3 ht3 hb3=>by
     have k4:Same0 w3 (w3.alloc (.cells cs 121)):=(Kept.refl _ w3).alloc _
     refine (binds_any (N:=w3.heap.size) (A:=w3.heap.size) (w:=w3.alloc (.cells cs 121)) ⟨cs,heap_alloc_new w3 _,ht3.same k4⟩ hb3).mono ?_
     rintro e w5 ⟨v,l,rfl,hB,hk5⟩
     have K5:=(hk3.trans' k4)
     have z5:=K5.size
     exact ⟨v,l,rfl,⟨row_mono hB.row z5,hB.len,fun i x y=>⟨(hB.each i x y).1,row_mono (hB.each i x y).2.1 z5,(hB.each i x y).2.2⟩,hB.apart⟩,K5.trans' hk5⟩
    go_enter Tryz.func21,Tryz.ntmps21
    go_wp2_with (first | (go_at_call 43;refine cp.mono ?_;rintro e w1 ⟨rfl,hk1⟩) | (go_at_call 46;refine (c2.out _ hk1).mono ?_;rintro e w2 ⟨uo,uc,rfl,hk2,cw⟩) | (go_at_call 53;refine cw.mono ?_;rintro e w3 ⟨cs,f,rfl,hcs,hk3,rfl,hone,htt⟩;have hst:=HST.out w3 cs hcs hone;have cbb:=cB.out w3 cs hk3 (htt σ rfl).1 (htt σ rfl).2;clear htt) | (go_at_call 54;refine cbb.mono ?_;rintro e w5 ⟨v,l,rfl,hB,hk5⟩))
    go_ret3
    refine ⟨v,l,by rw [HE'.out];rfl,?_,hk5⟩
    rw [HB.out];exact hB
  ·have hq' : (placeE L t a == 0)=false:=by simpa using hq
   have HE' : Hid (matchE L p t a=placeE L t a∧matchS L p t a=none∧matchB L p t a=[]):=⟨HE,match_bad (by rw [HE];exact hq)⟩
   clear HE hz
   go_enter Tryz.func21,Tryz.ntmps21
   go_wp2_with (first | (go_at_call 43;refine cp.mono ?_;rintro e w1 ⟨rfl,hk1⟩) | (go_at_call 46;refine (cs1.out _ hk1).mono ?_;rintro e w2 ⟨v,rfl,hr,hk2⟩))
   go_ret3
   refine ⟨.slice none 0 0,[],by rw [HE'.out.1,HE'.out.2.1];rfl,?_,hk1.trans' hk2⟩
   rw [HE'.out.2.2];exact BOwn.nil _ _
 ·have hz' : (checkE L p == 0)=false:=by simpa using hz
  have HE' : Hid (matchE L p t a=checkE L p∧matchS L p t a=none∧matchB L p t a=[]):=by
   have e:matchE L p t a=checkE L p:=by simp [matchE,hz]
   exact ⟨e,match_bad (by rw [e];exact hz)⟩
  go_enter Tryz.func21,Tryz.ntmps21
  go_wp2_with (first | (go_at_call 43;refine cp.mono ?_;rintro e w1 ⟨rfl,hk1⟩))
  go_ret3
  refine ⟨.slice none 0 0,[],by rw [HE'.out.1,HE'.out.2.1];rfl,?_,hk1⟩
  rw [HE'.out.2.2];exact BOwn.nil _ _
end Go.Proofs.YtfojfpnjnpkabaaGreat
namespace Go.Proofs.YtfojfpnjnpkabaaGreat
set_option linter.unusedVariables false
def vn (n:Int):Nat:=(-n).toNat
end Go.Proofs.YtfojfpnjnpkabaaGreat
namespace Go.Proofs.YtfojfpnjnpkabaaGreat
set_option maxRecDepth 100000
set_option linter.unusedVariables false
open Go.RowKit
attribute [local go_sem ↓] Go.wp_at_zero Go.wp_at_succ
end Go.Proofs.YtfojfpnjnpkabaaGreat
namespace Go.Proofs.YtfojfpnjnpkabaaGreat
set_option linter.unusedVariables false
structure Ren (f f' : Int→Int) (n:Int):Prop where
 back:f' (f n)=n
 neg:n<0→f n<0
 pos:0≤n→f n=n
theorem ren_mem {f f' : Int→Int} {o:List Int} {x:Int} (ho:∀ n∈o,Ren f f' n) (hx:Ren f f' x):f x∈o.map f ↔ x∈o:=by
 rw [List.mem_map]
 constructor
 ·rintro ⟨y,hy,e⟩
  have:=congrArg f' e
  rw [(ho y hy).back,hx.back] at this
  rw [← this];exact hy
 ·intro h;exact ⟨x,h,rfl⟩
theorem ren_idx {f f' : Int→Int}:∀ {o:List Int} {x:Int},(∀ n∈o,Ren f f' n)→Ren f f' x→(o.map f).idxOf (f x)=o.idxOf x
 | [],x,_,_=>rfl
 | y :: r,x,ho,hx=>by
  rw [List.map_cons,List.idxOf_cons,List.idxOf_cons,ren_idx (fun n hn=>ho n (by simp [hn])) hx]
  by_cases e:y=x
  ·subst e;simp
  ·have:¬ f y=f x:=fun g=>e (by have:=congrArg f' g;rwa [(ho y (by simp)).back,hx.back] at this)
   have h1:(y == x)=false:=by simpa using e
   have h2:(f y == f x)=false:=by simpa using this
   rw [h1,h2]
theorem wrF_ren {f f' : Int→Int} (u:List Int):∀ (o:List Int),(∀ n∈o,Ren f f' n)→(∀ n∈u,Ren f f' n)→wrF (o.map f) (u.map f)=wrF o u:=by
 induction u with
 | nil=>intro o _ _;rfl
 | cons x r ih=>
  intro o ho hu
  have hx:=hu x (by simp)
  have ev:vzs (o.map f) (f x)=(vzs o x).map f:=by
   unfold vzs
   by_cases h:x<0∧¬ x∈o
   ·rw [if_pos h,if_pos ⟨hx.neg h.1,fun g=>h.2 ((ren_mem ho hx).1 g)⟩];simp
   ·rw [if_neg h,if_neg (fun g=>h ⟨by
     by_cases q:x<0
     ·exact q
     ·have:=hx.pos (by omega);omega,fun q=>g.2 ((ren_mem ho hx).2 q)⟩)]
  have hv:∀ n∈vzs o x,Ren f f' n:=by
   intro n hn
   unfold vzs at hn
   split at hn
   ·rcases List.mem_append.1 hn with q | q
    ·exact ho n q
    ·simp only [List.mem_cons,List.not_mem_nil,or_false] at q;subst q;exact hx
   ·exact ho n hn
  rw [List.map_cons,wrF,wrF,ev,ih _ hv (fun n hn=>hu n (by simp [hn]))]
  congr 1
  unfold rn
  by_cases h:x<0
  ·rw [if_pos h,if_pos (hx.neg h),ren_idx hv hx]
  ·rw [if_neg h,if_neg (by rw [hx.pos (by omega)];exact h),hx.pos (by omega)]
theorem sub_one {L:List Sym} {g:Int→List Int}:∀ (u:List Int),(∀ n∈u,n<0→IsT L (g n))→(subV g u).length=u.length→subV g u=u.map (fun n=>if n<0 then (g n).headD 0 else n)
 | [],_,_=>rfl
 | n :: r,h,e=>by
  have h1:=subV_len r (fun m hm=>h m (by simp [hm]))
  rw [subV_cons,List.length_append,List.length_cons] at e
  rw [subV_cons,List.map_cons]
  by_cases hn:n<0
  ·have h2:=isT_pos (h n (by simp) hn)
   rw [if_pos hn] at e ⊢
   rw [if_pos hn]
   have h3:(g n).length=1:=by omega
   obtain ⟨y,hy⟩:=List.length_eq_one_iff.1 h3
   rw [sub_one r (fun m hm=>h m (by simp [hm])) (by omega),hy];rfl
  ·rw [if_neg hn] at e ⊢
   rw [if_neg hn]
   simp only [List.length_cons,List.length_nil] at e
   rw [sub_one r (fun m hm=>h m (by simp [hm])) (by omega)];rfl
theorem both_ways {L:List Sym} {u v:List Int} {g g' : Int→List Int} (h1:∀ n∈u,n<0→IsT L (g n)) (h2:∀ n∈v,n<0→IsT L (g' n)) (e1:v=subV g u) (e2:u=subV g' v):wrF [] v=wrF [] u:=by
 have l1:=subV_len u h1
 have l2:=subV_len v h2
 rw [← e1] at l1
 rw [← e2] at l2
 have m1:=sub_one u h1 (by rw [← e1];omega)
 have m2:=sub_one v h2 (by rw [← e2];omega)
 rw [← e1] at m1
 rw [← e2] at m2
 obtain ⟨f,hf⟩:∃ f:Int→Int,f=fun n=>if n<0 then (g n).headD 0 else n:=⟨_,rfl⟩
 obtain ⟨f', hf'⟩:∃ f:Int→Int,f=fun n=>if n<0 then (g' n).headD 0 else n:=⟨_,rfl⟩
 rw [← hf] at m1
 rw [← hf'] at m2
 have hb:∀ n∈u,f' (f n)=n:=by
  have:u=u.map (fun n=>f' (f n)):=by rw [m1,List.map_map] at m2;exact m2
  intro n hn
  obtain ⟨i,hi,rfl⟩:=List.getElem_of_mem hn
  have h3:=congrArg (fun l=>l[i]?) this
  simp only [List.getElem?_map,List.getElem?_eq_getElem hi,Option.map_some,Option.some.injEq] at h3
  exact h3.symm
 have hpos:∀ n,0≤n→f n=n:=fun n hn=>by rw [hf];simp only;rw [if_neg (by omega)]
 have hpos' : ∀ n,0≤n→f' n=n:=fun n hn=>by rw [hf'];simp only;rw [if_neg (by omega)]
 have hr:∀ n∈u,Ren f f' n:=fun n hn=>⟨hb n hn,fun hn0=>by
  by_cases q:f n<0
  ·exact q
  ·have:=hb n hn;rw [hpos' _ (by omega)] at this;omega,hpos n⟩
 have:=wrF_ren u [] (by simp) hr
 rw [m1];exact this
theorem subV_flat {α:Type} (f:Int→List Int) (g:α→List Int) (l:List α):subV f (l.flatMap g)=l.flatMap (fun k=>subV f (g k)):=by
 induction l with
 | nil=>rfl
 | cons x r ih=>rw [List.flatMap_cons,List.flatMap_cons,subV_append,ih]
theorem subV_sh (f:Int→List Int) {ap:Int} (h:0≤ap) (b:List Int):subV f (b.map (shF ap))=subV (fun n=>f (n-ap)) b:=by
 induction b with
 | nil=>rfl
 | cons n r ih=>
  rw [List.map_cons,subV_cons,subV_cons,ih]
  congr 1
  unfold shF
  by_cases hn:n<0
  ·rw [if_pos hn,if_pos (by omega),if_pos hn]
  ·rw [if_neg hn,if_neg hn,if_neg hn]
def ComU (L:List Sym) (a b:List Int) (ap:Int) (u:List Int):Prop:=∃ ld k,solF L (jl a b ap) a.length=some (ld,k)∧Closed L (jl a b ap) a.length ld∧Val L (jl a b ap) ld 0 u∧k=min (u.length:Int) 2001
theorem ComU.uniq {L:List Sym} {a b:List Int} {ap:Int} {u v:List Int} (h:ComU L a b ap u) (k:ComU L a b ap v):u=v:=by
 obtain ⟨ld,k1,h1,_,h2,_⟩:=h
 obtain ⟨ld', k2,g1,_,g2,_⟩:=k
 rw [h1] at g1
 simp only [Option.some.injEq,Prod.mk.injEq] at g1
 obtain ⟨rfl,rfl⟩:=g1
 exact h2.uniq g2
theorem com_u {L:List Sym} {a b:List Int} {ap:Nat} (hap:ap≤99) (ha:checkE L a=0) (hb:checkE L b=0):solF L (jl a b ap) a.length=none∨∃ u,ComU L a b ap u:=by
 obtain ⟨x1,x2,x3⟩:=checkE_zero.1 ha
 obtain ⟨y1,y2,y3⟩:=checkE_zero.1 hb
 have hT:=trs_jl (apart:=(ap:Int)) (by omega) x3 y3
 have hv:∀ x∈jl a b ap, -198≤x:=by
  intro x hx
  unfold jl at hx
  rcases List.mem_append.1 hx with e | e
  ·have:=(badE_zero.1 x2 x e).2;omega
  ·obtain ⟨y,hy,rfl⟩:=List.mem_map.1 e
   have:=(badE_zero.1 y2 y hy).2
   unfold shF;split <;> omega
 have p1:=isT_pos x3
 have p2:=isT_pos y3
 have hl:(jl a b ap).length=a.length+b.length:=by simp [jl]
 cases hs:solF L (jl a b ap) a.length with
 | none=>exact .inl rfl
 | some v=>
  obtain ⟨ld,k⟩:=v
  right
  obtain ⟨res,hU,hR1,hR2⟩:=(sol_any hT hv (m:=a.length) (by omega) (by omega)).uni
  cases res with
  | none=>rw [hR1 rfl] at hs;cases hs
  | some ld' =>
   obtain ⟨g1,k', sz', g2,g3,g4⟩:=hR2 ld' rfl
   by_cases e:k' = -1
   ·rw [g3 e] at hs;cases hs
   ·obtain ⟨f1,u,f2,f3⟩:=g4 e
    rw [f1] at hs
    simp only [Option.some.injEq,Prod.mk.injEq] at hs
    obtain ⟨rfl,rfl⟩:=hs
    exact ⟨u,ld', k', f1,closed_of hv (by omega) (by omega) hU,f2,f3⟩
theorem jl_low {L:List Sym} {a b:List Int} (ha:checkE L a=0) (hb:checkE L b=0) {ap:Nat} (hap:ap≤99):∀ x∈jl a b ap, -198≤x:=by
 intro x hx
 unfold jl at hx
 rcases List.mem_append.1 hx with e | e
 ·have:=(badE_zero.1 (checkE_zero.1 ha).2.1 x e).2;omega
 ·obtain ⟨y,hy,rfl⟩:=List.mem_map.1 e
  have:=(badE_zero.1 (checkE_zero.1 hb).2.1 y hy).2
  unfold shF;split <;> omega
theorem most_com {L:List Sym} {a b:List Int} (ha:checkE L a=0) (hb:checkE L b=0) {fa fb:Int→List Int} (ta:∀ n∈a,n<0→IsT L (fa n)) (tb:∀ n∈b,n<0→IsT L (fb n)) {T:List Int} (e1:subV fa a=T) (e2:subV fb b=T) :
  ∃ u g,ComU L a b 99 u∧T=subV g u∧(∀ n∈u,n<0→IsT L (g n)):=by
 obtain ⟨x1,x2,x3⟩:=checkE_zero.1 ha
 obtain ⟨y1,y2,y3⟩:=checkE_zero.1 hb
 have hT:=trs_jl (apart:=(99:Int)) (by omega) x3 y3
 have hv:∀ x∈jl a b 99, -198≤x:=jl_low ha hb (ap:=99) (by omega)
 have p1:=isT_pos x3
 have p2:=isT_pos y3
 have hl:(jl a b 99).length=a.length+b.length:=by simp [jl]
 obtain ⟨vv,hvv⟩:∃ vv:Int→List Int,vv=fun n=>if -99≤n then (if n∈a then fa n else [n]) else (if n+99∈b then fb (n+99) else [n]):=⟨_,rfl⟩
 have vT:∀ n,n<0→IsT L (vv n):=by
  intro n hn
  rw [hvv]
  simp only
  by_cases h : -99≤n
  ·rw [if_pos h]
   by_cases q:n∈a
   ·rw [if_pos q];exact ta n q hn
   ·rw [if_neg q];exact isT_var L hn
  ·rw [if_neg h]
   by_cases q:n+99∈b
   ·rw [if_pos q];exact tb _ q (by omega)
   ·rw [if_neg q];exact isT_var L hn
 have va:subV vv a=T:=by
  rw [← e1]
  refine subV_congr a (fun n hn h0=>?_)
  rw [hvv]
  simp only
  rw [if_pos ((badE_zero.1 x2 n hn).2),if_pos hn]
 have vb:subV vv (b.map (shF 99))=T:=by
  rw [subV_sh vv (by omega),← e2]
  refine subV_congr b (fun n hn h0=>?_)
  rw [hvv]
  simp only
  rw [if_neg (by omega),if_pos (by rw [Int.sub_add_cancel];exact hn),Int.sub_add_cancel]
 obtain ⟨val,hval⟩:∃ val:Int→List Int,val=fun x=>if x<0 then vv x else subV vv (cutJ L (jl a b 99) x.toNat):=⟨_,rfl⟩
 have vn:∀ n,n<0→val n=vv n:=fun n hn=>by rw [hval];simp only;rw [if_pos hn]
 have vp:∀ p:Nat,val p=subV vv (cutJ L (jl a b 99) p):=fun p=>by rw [hval];simp only;rw [if_neg (by omega),Int.toNat_natCast]
 have hg:Good L (jl a b 99) val:=by
  refine ⟨fun p hp hs=>?_,fun p hp hs=>?_,fun x hx=>?_⟩
  ·rw [vp,cut_sym hT hp,subV_cons,if_neg (by omega),subV_flat]
   simp only [vp];rfl
  ·rw [vp,cut_sym hT hp,subV_cons,if_pos hs,vn _ hs]
   have:kidsL L (jl a b 99) p=[]:=by unfold kidsL;rw [show arN L (at' (jl a b 99) p)=0 by unfold arN;rw [if_pos hs]];rfl
   rw [this];simp [subV]
  ·by_cases h:x<0
   ·rw [vn x h];exact vT x h
   ·obtain ⟨p,rfl⟩:=Int.eq_ofNat_of_zero_le (Int.not_lt.1 h)
    have:=vp p
    show IsT L (val (p:Int))
    rw [this]
    unfold IsT
    rw [need_subV _ (fun n _ hn=>vT n hn)]
    exact cut_isT hT (by have:=hx.2;omega)
 have c0:val 0=T:=by
  have:=vp 0
  rw [show ((0:Nat):Int)=0 from rfl] at this
  rw [this,← va]
  congr 1
  unfold cutJ
  rw [show endN L (jl a b 99) 0=a.length from end_first (b:=b.map (shF 99)) x3]
  unfold jl
  rw [List.drop_zero,Nat.sub_zero,List.take_left]
 have cm:val (a.length:Nat)=T:=by
  rw [vp,← vb]
  congr 1
  unfold cutJ
  rw [show endN L (jl a b 99) a.length=a.length+(b.map (shF 99)).length from end_second (a:=a) (isT_sh (by omega) y3)]
  unfold jl
  rw [List.drop_left,Nat.add_sub_cancel_left,List.take_length]
 obtain ⟨ld,k,u,hs,hcl,hu,hk,he,_⟩:=sol_good hT hv (m:=a.length) (by omega) (by omega) hg (by rw [c0,cm])
 refine ⟨u,val,⟨ld,k,hs,hcl,hu,hk⟩,by rw [← c0];exact he,fun n hn h0=>?_⟩
 rw [vn n h0];exact vT n h0
theorem inst_com {L:List Sym} {a b:List Int} (ha:checkE L a=0) (hb:checkE L b=0) {ap:Nat} (hap:ap≤99) {u:List Int} (h:ComU L a b ap u):∃ f:Int→List Int,(∀ n,n<0 → -198≤n→IsT L (f n))∧u=subV f a∧u=subV (fun n=>f (n-ap)) b∧IsT L u∧(∀ n∈u,0≤n→n<(L.length:Int)):=by
 obtain ⟨x1,x2,x3⟩:=checkE_zero.1 ha
 obtain ⟨y1,y2,y3⟩:=checkE_zero.1 hb
 obtain ⟨ld,k,h1,hc,hu,h3⟩:=h
 have p1:=isT_pos x3
 have hl:(jl a b ap).length=a.length+b.length:=by simp [jl]
 obtain ⟨f,hf⟩:=varT_some L (jl a b ap) ld
 obtain ⟨e1,e2⟩:=both_sub (by omega) x3 y3 hc hf hu
 have p0:UPart (jl a b ap) 0:=part_nat (p:=0) (by omega)
 refine ⟨f,fun n hn h=>hf.isT hc.trs hc.ok hn ⟨h,by omega⟩,e1,by rw [← subV_sh f (by omega)];exact e2,hu.isT hc.trs hc.ok p0,fun n hn h0=>?_⟩
 rcases hu.in hc.trs hc.ok p0 n hn with ⟨q,_⟩ | ⟨_,q⟩
 ·omega
 ·unfold jl at q
  rcases List.mem_append.1 q with e | e
  ·exact (badE_zero.1 x2 n e).1
  ·obtain ⟨y,hy,hy2⟩:=List.mem_map.1 e
   have:=(badE_zero.1 y2 y hy).1
   unfold shF at hy2
   split at hy2 <;> omega
theorem com_swap {L:List Sym} {a b:List Int} (ha:checkE L a=0) (hb:checkE L b=0) {u:List Int} (h:ComU L b a 99 u):∃ v,ComU L a b 99 v∧v.length=u.length∧wrF [] u=wrF [] v:=by
 have step:∀ (a b:List Int),checkE L a=0→checkE L b=0→∀ u,ComU L b a 99 u→∃ v g,ComU L a b 99 v∧u=subV g v∧(∀ n∈v,n<0→IsT L (g n)):=by
  intro a b ha hb u h
  obtain ⟨f,h1,h2,h3,_⟩:=inst_com hb ha (ap:=99) (by omega) h
  have la:=fun n hn=>(badE_zero.1 (checkE_zero.1 ha).2.1 n hn).2
  have lb:=fun n hn=>(badE_zero.1 (checkE_zero.1 hb).2.1 n hn).2
  exact most_com ha hb (fa:=fun n=>f (n-((99:Nat):Int))) (fb:=f) (fun n hn h0=>h1 _ (by omega) (by have:=la n hn;omega)) (fun n hn h0=>h1 n h0 (by have:=lb n hn;omega)) h3.symm h2.symm
 obtain ⟨v,g,h1,h2,h3⟩:=step a b ha hb u h
 obtain ⟨u', g', k1,k2,k3⟩:=step b a hb ha v h1
 have:=k1.uniq h
 subst this
 have e:=both_ways h3 k3 h2 k2
 have hl:=congrArg List.length e
 rw [wrF_length,wrF_length] at hl
 exact ⟨v,h1,hl.symm,e⟩
end Go.Proofs.YtfojfpnjnpkabaaGreat
