import Derived.Test.YtfojfpnjnpkabaaGreatGF01
import Derived.Test.YtfojfpnjnpkabaaGreatGF09
import Derived.Test.YtfojfpnjnpkabaaGreatGF02
import Derived.Test.YtfojfpnjnpkabaaGreatProg
import Derived.KernelRfl
import Derived.Handy
import Derived.LaidEql
import Derived.Stop.Asserts
import Derived.RowKitTokens
import Derived.Test.YtfojfpnjnpkabaaGreatGF03
import Derived.Test.YtfojfpnjnpkabaaGreatGF06
import Derived.SizedLaws
import Derived.Deep.RegionHeld3
import Derived.Laws.AppendOwnNone
import Derived.Lib.AppendZeros
namespace Go.Proofs.YtfojfpnjnpkabaaGreat
set_option linter.unusedVariables false
def Tr:Nat→Type
 | 0=>Empty
 | n+1=>Int × Int × List Int × List (Int × Tr n)
abbrev Rw:=Int × List Int × List Nat
def numR (x:Rw) (c:Nat):Int:=x.2.1.getD (x.2.2.getD c 0) (-1)
def conB (rows:List Rw) (c:Nat):Bool:=rows.all (fun x=>decide (0≤numR x c))
def partN (rows:List Rw):Nat→Option Nat
 | 0=>none
 | k+1=>match partN rows k with
  | some c=>some c
  | none=>if conB rows k then some k else none
def repl {α:Type} (l:List α) (c:Nat) (m:List α):List α:=l.take c++m++l.drop (c+1)
def kidP (L:List Sym) (paths:List (List Int)) (c s:Nat):List (List Int):=repl paths c ((List.range (arN L (s:Int))).map (fun (i:Nat)=>paths.getD c [] ++ [(i:Int)]))
def kidX (L:List Sym) (c:Nat) (x:Rw):Rw:=(x.1,x.2.1,repl x.2.2 c (argsN L x.2.1 (x.2.2.getD c 0)))
def havR (rows:List Rw) (c:Nat) (s:Int):List Rw:=rows.filter (fun x=>decide (numR x c=s))
def kidsN {α:Type} (has:Nat→Bool) (g:Nat→Except Int α):Nat→Except Int (List (Int × α))
 | 0=>.ok []
 | k+1=>match kidsN has g k with
  | .error e=>.error e
  | .ok l=>if has k then (match g k with | .error e=>.error e | .ok t=>.ok (l ++ [((k:Int),t)])) else .ok l
def growF (L:List Sym):(n:Nat)→List (List Int)→List Rw→Except Int (Tr n)
 | 0,_,_=>.error 0
 | n+1,paths,rows=>
  if rows.length=0 then .ok (3,0,[],[])
  else match partN rows paths.length with
   | some c=>(match kidsN (fun s=>decide (0<(havR rows c (s:Int)).length)) (fun s=>growF L n (kidP L paths c s) ((havR rows c (s:Int)).map (kidX L c))) L.length with
    | .error e=>.error e
    | .ok l=>.ok (2,0,paths.getD c [],l))
   | none=>if rows.length=1 then .ok (1,(rows.headD (0,[],[])).1,[],[]) else .error (rows.headD (0,[],[])).1
def sumN:List Nat→Nat
 | []=>0
 | a :: l=>a+sumN l
theorem sumN_append (a b:List Nat):sumN (a++b)=sumN a+sumN b:=by
 induction a with
 | nil=>simp [sumN]
 | cons x r ih=>simp [sumN,ih];omega
def wtL (L:List Sym) (t:List Int) (ps:List Nat):Nat:=sumN (ps.map (fun p=>endN L t p-p))
theorem wtL_append (L:List Sym) (t:List Int) (a b:List Nat):wtL L t (a++b)=wtL L t a+wtL L t b:=by simp [wtL,sumN_append]
theorem wtL_starts {L:List Sym} {t:List Int}:∀ (k p q:Nat),Forest L t k p q→wtL L t (starts L t k p)=q-p∧∀ x∈starts L t k p,x<t.length
 | 0,p,q,h=>by
  have:=h.zero
  subst this
  exact ⟨by simp [starts,wtL,sumN],by simp [starts]⟩
 | k+1,p,q,h=>by
  obtain ⟨h1,h2,h3⟩:=h.succ
  obtain ⟨a,b⟩:=wtL_starts k _ _ h3
  have hle:=h3.le
  refine ⟨?_,fun x hx=>?_⟩
  ·show (endN L t p-p)+wtL L t (starts L t k (endN L t p))=_
   rw [a];omega
  ·rcases List.mem_cons.1 (show x∈p :: starts L t k (endN L t p) from hx) with rfl | hx
   ·omega
   ·exact b x hx
theorem args_wt {L:List Sym} {t:List Int} (h:IsT L t) {p:Nat} (hp:p<t.length):wtL L t (argsN L t p)+1=endN L t p-p∧∀ x∈argsN L t p,x<t.length:=by
 obtain ⟨_,hk⟩:=(Forest.one h hp).kids
 rw [argsN_eq hp]
 obtain ⟨a,b⟩:=wtL_starts _ _ _ hk
 have:=hk.le
 exact ⟨by omega,b⟩
structure NdOk (L:List Sym) (n:Nat) (paths:List (List Int)) (rows:List Rw):Prop where
 pos:0<n
 le:rows.length≤100
 few:paths.length≤4000
 len:∀ p∈paths,0<p.length∧p.length+n≤4000
 ok:∀ x∈rows,checkE L x.2.1=0∧x.2.2.length=paths.length∧(∀ p∈x.2.2,p<x.2.1.length)∧wtL L x.2.1 x.2.2<n
theorem havR_mem {rows:List Rw} {c:Nat} {s:Int} {x:Rw} (h:x∈havR rows c s):x∈rows∧numR x c=s:=by
 simpa [havR] using h
theorem getD_lt {α:Type} {l:List α} {c:Nat} (h:c<l.length) (d:α):l.getD c d=l[c]:=by simp [List.getD,h]
theorem repl_length {α:Type} {l:List α} {c:Nat} (h:c<l.length) (m:List α):(repl l c m).length=l.length-1+m.length:=by
 simp [repl];omega
theorem wtL_repl {L:List Sym} {t:List Int} {ps:List Nat} {c:Nat} (h:c<ps.length) (m:List Nat):wtL L t (repl ps c m)+(endN L t ps[c]-ps[c])=wtL L t ps+wtL L t m:=by
 have e:ps=ps.take c ++ [ps[c]]++ps.drop (c+1):=by
  rw [List.append_assoc,List.singleton_append,List.getElem_cons_drop,List.take_append_drop]
 have e2:wtL L t ps=wtL L t (ps.take c ++ [ps[c]]++ps.drop (c+1)):=by rw [← e]
 rw [e2]
 have e3:wtL L t [ps[c]]=endN L t ps[c]-ps[c]:=by simp [wtL,sumN]
 simp only [repl,wtL_append,e3]
 omega
theorem partN_some {rows:List Rw}:∀ {k c:Nat},partN rows k=some c→c<k∧conB rows c=true
 | 0,c,h=>by cases h
 | k+1,c,h=>by
  unfold partN at h
  cases hk:partN rows k with
  | some c' =>
   rw [hk] at h
   cases h
   have:=partN_some hk
   exact ⟨by omega,this.2⟩
  | none=>
   rw [hk] at h
   simp only at h
   split at h
   ·cases h;exact ⟨by omega,by assumption⟩
   ·cases h
theorem numR_eq {x:Rw} {c:Nat} (h1:c<x.2.2.length) (h2:x.2.2[c]<x.2.1.length):numR x c=x.2.1[x.2.2[c]]:=by
 unfold numR
 rw [getD_lt h1,getD_lt h2]
theorem NdOk.kid {L:List Sym} {n:Nat} {paths:List (List Int)} {rows:List Rw} (h:NdOk L (n+1) paths rows) {c s:Nat} (hc:c<paths.length) (hs:s<L.length) (ha:arN L (s:Int)≤6) (hne:havR rows c (s:Int)≠[]):NdOk L n (kidP L paths c s) ((havR rows c (s:Int)).map (kidX L c)):=by
 have key:∀ x∈havR rows c (s:Int),checkE L x.2.1=0∧(kidX L c x).2.2.length=(kidP L paths c s).length∧(∀ p∈(kidX L c x).2.2,p<x.2.1.length)∧wtL L x.2.1 (kidX L c x).2.2<n:=by
  intro x hx
  obtain ⟨hx1,hx2⟩:=havR_mem hx
  obtain ⟨k1,k2,k3,k4⟩:=h.ok x hx1
  have hc' : c<x.2.2.length:=by omega
  have hp:=k3 _ (List.getElem_mem hc')
  have hT:=(checkE_zero.1 k1).2.2
  obtain ⟨a1,a2⟩:=args_wt hT hp
  rw [numR_eq hc' hp] at hx2
  have hal:(argsN L x.2.1 x.2.2[c]).length=arN L (s:Int):=by rw [argsN_eq hp,starts_length,hx2]
  refine ⟨k1,?_,?_,?_⟩
  ·simp only [kidX,kidP]
   rw [getD_lt hc', repl_length hc', repl_length hc,hal]
   simp;omega
  ·intro p hp'
   simp only [kidX] at hp'
   rw [getD_lt hc'] at hp'
   rcases List.mem_append.1 hp' with q | q
   ·rcases List.mem_append.1 q with q | q
    ·exact k3 p (List.mem_of_mem_take q)
    ·exact a2 p q
   ·exact k3 p (List.mem_of_mem_drop q)
  ·simp only [kidX]
   rw [getD_lt hc']
   have:=wtL_repl (L:=L) (t:=x.2.1) hc' (argsN L x.2.1 x.2.2[c])
   omega
 obtain ⟨x0,hx0⟩:=List.exists_mem_of_ne_nil _ hne
 refine ⟨?_,?_,?_,?_,?_⟩
 ·have:=(key x0 hx0).2.2.2;omega
 ·rw [List.length_map]
  exact Nat.le_trans (List.length_filter_le _ _) h.le
 ·obtain ⟨k1,k2,k3,k4⟩:=key x0 hx0
  have hT:=(checkE_zero.1 k1)
  have hb:∀ (ps:List Nat),(∀ p∈ps,p<x0.2.1.length)→ps.length≤wtL L x0.2.1 ps:=by
   intro ps
   induction ps with
   | nil=>simp
   | cons p r ih=>
    intro hp
    have:=ih (fun q hq=>hp q (List.mem_cons_of_mem _ hq))
    have e:=endN_le hT.2.2 (hp p (List.mem_cons_self ..))
    show r.length+1≤(endN L x0.2.1 p-p)+wtL L x0.2.1 r
    omega
  have hl:=hb _ k3
  have hn:n≤3999:=by
   have:=h.len _ (List.getElem_mem hc)
   omega
  omega
 ·intro p hp
  have hpc:=h.len _ (List.getElem_mem hc)
  simp only [kidP,repl] at hp
  rcases List.mem_append.1 hp with q | q
  ·rcases List.mem_append.1 q with q | q
   ·have:=h.len p (List.mem_of_mem_take q);omega
   ·obtain ⟨i,_,rfl⟩:=List.mem_map.1 q
    rw [getD_lt hc]
    simp;omega
  ·have:=h.len p (List.mem_of_mem_drop q);omega
 ·intro y hy
  obtain ⟨x,hx,rfl⟩:=List.mem_map.1 hy
  exact key x hx
end Go.Proofs.YtfojfpnjnpkabaaGreat
namespace Go.Proofs.YtfojfpnjnpkabaaGreat
open Go.RowKit Go.Extern.Stop Go.Stop Go.Extern
set_option linter.unusedVariables false
set_option maxRecDepth 100000
theorem is_typeOf (v:Value) (w:World):(Extern.ReflectliteType.typeOf #[.iface 54 v]).run Tryz.prog w=.ok (.iface 200 (.agg #[.pointer (some ⟨0,54,none⟩)])) w:=by kernel_rfl
theorem is_comparable (w:World):(callFunc 176 #[.agg #[.pointer (some ⟨0,54,none⟩)]]).run Tryz.prog w=.ok (.value (.bool true)) w:=
  (@run_callFunc_extern Tryz.prog 176 _ (Extern.ReflectliteType.method fun t => do Extern.Rtype.noPackHeld "Comparable" t; pure (.bool (← typeInfo t).comparable)) Tryz.func176 (by kernel_rfl) (by kernel_rfl) (by kernel_rfl) (by kernel_rfl) _ w).trans (by kernel_rfl)
theorem is_mComparable (v : Value) (w : World) : (Go.method 369 200 v "Comparable").run Tryz.prog w = .ok (176, v) w := by kernel_rfl
theorem is_noIs (v:Value) (xT:TypeId) (w:World):(Instr.typeAssert (.iface 54 v) xT 202 true).run Tryz.prog w=.ok (.tuple #[.nilIface,.bool false]) w:=run_typeAssert_lacksB Tryz.underlying202 (by kernel_rfl) (by kernel_rfl) v xT w
theorem is_noUnwrap (v:Value) (xT:TypeId) (w:World):(Instr.typeAssert (.iface 54 v) xT 205 true).run Tryz.prog w=.ok (.tuple #[.nilIface,.bool false]) w:=run_typeAssert_lacksB Tryz.underlying205 (by kernel_rfl) (by kernel_rfl) v xT w
theorem is_noUnwraps (v:Value) (xT:TypeId) (w:World):(Instr.typeAssert (.iface 54 v) xT 206 true).run Tryz.prog w=.ok (.tuple #[.nilIface,.bool false]) w:=run_typeAssert_lacksB Tryz.underlying206 (by kernel_rfl) (by kernel_rfl) v xT w
theorem is_hasIs (v:Value) (xT:TypeId) (w:World):(Instr.typeAssert (.iface 82 v) xT 202 true).run Tryz.prog w=.ok (.tuple #[.iface 82 v,.bool true]) w:=run_typeAssert_hasB Tryz.underlying202 (by kernel_rfl) v xT w
theorem is_hasUnwrap (v:Value) (xT:TypeId) (w:World):(Instr.typeAssert (.iface 82 v) xT 205 true).run Tryz.prog w=.ok (.tuple #[.iface 82 v,.bool true]) w:=run_typeAssert_hasB Tryz.underlying205 (by kernel_rfl) v xT w
theorem is_mIs (v : Value) (w : World) : (Go.method 369 82 v "Is").run Tryz.prog w = .ok (171, v) w := by kernel_rfl
theorem is_mUnwrap (v : Value) (w : World) : (Go.method 369 82 v "Unwrap").run Tryz.prog w = .ok (172, v) w := by kernel_rfl
theorem is_eqE (a b:Int) (w:World):(binOp .eql 37 (.iface 54 (.int .i64 a)) (.iface 54 (.int .i64 b))).run Tryz.prog w=.ok (.bool (a == b)) w:=by kernel_rfl
theorem is_eqF (v u:Value) (w:World):(binOp .eql 37 (.iface 82 v) (.iface 54 u)).run Tryz.prog w=.ok (.bool false) w:=by kernel_rfl
theorem is_asE (v:Value) (xT:TypeId) (w:World):(Instr.typeAssert (.iface 54 v) xT 54 true).run Tryz.prog w=.ok (.tuple #[v,.bool true]) w:=by kernel_rfl
theorem is_nilE (v:Value) (w:World):(binOp .eql 37 .nilIface (.iface 54 v)).run Tryz.prog w=.ok (.bool false) w:=by kernel_rfl
def FltAt (w:World):List (Int × Int)→Value→Prop
 | [],v=>v=.nilIface
 | (c,p) :: r,v=>(p = -1∧r=[]∧v=.iface 54 (.int .i64 c))∨(p ≠ -1∧∃ b u,v=.iface 82 (.pointer (some ⟨b,0,none⟩))∧w.heap[b]? = some (.cells #[.int .i64 c,.int .i64 p,u] 84 (0,0))∧FltAt w r u)
theorem FltAt.same {w w' : World} (hk:Same0 w w'):∀ {ws:List (Int × Int)} {v:Value},FltAt w ws v→FltAt w' ws v
 | [],_,h=>h
 | (c,p) :: r,v,h=>by
  rcases h with h | ⟨h0,b,u,h1,h2,h3⟩
  ·exact .inl h
  ·exact .inr ⟨h0,b,u,h1,hk.at0 h2,FltAt.same hk h3⟩
theorem fIs_any {w:World} {b:Nat} {c p:Int} {u:Value} (h:w.heap[b]? = some (.cells #[.int .i64 c,.int .i64 p,u] 84 (0,0))) (d:Int) :
  Calls Tryz.prog 171 #[.pointer (some ⟨b,0,none⟩),.iface 54 (.int .i64 d)] w fun e w' => e=.returned (.bool (d == c))∧w' = w:=by
 have aE:=is_asE
 have b0:=cellAt h 0
 simp only [List.getElem?_toArray,List.getElem?_cons_zero] at b0
 clear h
 by_cases hd:d=c
 ·have e1:(d == c)=true:=by simpa using hd
  go_enter Tryz.func171,Tryz.ntmps171
  go_wp2
  go_ret
  exact ⟨by rw [e1];rfl,rfl⟩
 ·have e1:(d == c)=false:=by simpa using hd
  go_enter Tryz.func171,Tryz.ntmps171
  go_wp2
  go_ret
  exact ⟨by rw [e1];rfl,rfl⟩
theorem fUnwrap_any {w:World} {b:Nat} {c p:Int} {u:Value} (h:w.heap[b]? = some (.cells #[.int .i64 c,.int .i64 p,u] 84 (0,0))) :
  Calls Tryz.prog 172 #[.pointer (some ⟨b,0,none⟩)] w fun e w' => e=.returned u∧w' = w:=by
 have b0:=cellAt h 2
 simp only [List.getElem?_toArray,List.getElem?_cons_zero,List.getElem?_cons_succ] at b0
 clear h
 go_enter Tryz.func172,Tryz.ntmps172
 go_wp2
 go_ret
 exact ⟨rfl,rfl⟩
theorem is_one (a d:Int) (w:World):Calls Tryz.prog 85 #[.iface 54 (.int .i64 a),.iface 54 (.int .i64 d)] w fun e w' => e=.returned (.bool (a == d))∧w' = w:=by
 have h8:=@run_callFunc_extern Tryz.prog 114 _ Extern.ReflectliteType.typeOf Tryz.func114 (by kernel_rfl) (by kernel_rfl) (by kernel_rfl) (by kernel_rfl)
 have tT:=is_typeOf
 have cT:=is_comparable
 have mR:=is_mComparable
 have nE:=is_noIs
 have uE:=is_noUnwrap
 have vE:=is_noUnwraps
 by_cases hd:a=d
 ·subst hd
  have e1:(a == a)=true:=by simp
  have eq:=is_eqE a a
  rw [e1] at eq ⊢
  clear e1
  go_enter Tryz.func85,Tryz.ntmps85
  go_wp2
  refine wp_loop_rounds 1 ?_
  rw [rounds_succ]
  go_wp2
  go_ret
  exact ⟨rfl,rfl⟩
 ·have e1:(a == d)=false:=by simpa using hd
  have eq:=is_eqE a d
  rw [e1] at eq ⊢
  clear hd e1
  go_enter Tryz.func85,Tryz.ntmps85
  go_wp2
  refine wp_loop_rounds 1 ?_
  rw [rounds_succ]
  go_wp2
  go_ret
  exact ⟨rfl,rfl⟩
theorem is_fault {w:World} {b:Nat} {c p:Int} (h:w.heap[b]? = some (.cells #[.int .i64 c,.int .i64 p,.nilIface] 84 (0,0))) (d:Int) :
  Calls Tryz.prog 85 #[.iface 82 (.pointer (some ⟨b,0,none⟩)),.iface 54 (.int .i64 d)] w fun e w' => e=.returned (.bool (d == c))∧w' = w:=by
 have h8:=@run_callFunc_extern Tryz.prog 114 _ Extern.ReflectliteType.typeOf Tryz.func114 (by kernel_rfl) (by kernel_rfl) (by kernel_rfl) (by kernel_rfl)
 have tT:=is_typeOf
 have cT:=is_comparable
 have mR:=is_mComparable
 have nE:=is_hasIs
 have uE:=is_hasUnwrap
 have m1:=is_mIs
 have m2:=is_mUnwrap
 have eq:=is_eqF
 have c1:=fIs_any h d
 have c2:=fUnwrap_any h
 clear h
 generalize (d == c)=r at *
 cases r
 ·go_enter Tryz.func85,Tryz.ntmps85
  go_wp2
  refine wp_loop_rounds 1 ?_
  rw [rounds_succ]
  go_wp2_with (first | (go_at_call 171;refine c1.mono ?_;rintro e w' ⟨rfl,rfl⟩) | (go_at_call 172;refine c2.mono ?_;rintro e w' ⟨rfl,rfl⟩))
  go_ret
  exact ⟨rfl,rfl⟩
 ·go_enter Tryz.func85,Tryz.ntmps85
  go_wp2
  refine wp_loop_rounds 1 ?_
  rw [rounds_succ]
  go_wp2_with (first | (go_at_call 171;refine c1.mono ?_;rintro e w' ⟨rfl,rfl⟩) | (go_at_call 172;refine c2.mono ?_;rintro e w' ⟨rfl,rfl⟩))
  go_ret
  exact ⟨rfl,rfl⟩
set_option maxHeartbeats 4000000 in
theorem is_fault_one {w:World} {b:Nat} {c p:Int} {k:Int} (h:w.heap[b]? = some (.cells #[.int .i64 c,.int .i64 p,.iface 54 (.int .i64 k)] 84 (0,0))) (d:Int) :
  Calls Tryz.prog 85 #[.iface 82 (.pointer (some ⟨b,0,none⟩)),.iface 54 (.int .i64 d)] w fun e w' => e=.returned (.bool ((d == c) || k == d))∧w' = w:=by
 have h8:=@run_callFunc_extern Tryz.prog 114 _ Extern.ReflectliteType.typeOf Tryz.func114 (by kernel_rfl) (by kernel_rfl) (by kernel_rfl) (by kernel_rfl)
 have tT:=is_typeOf
 have cT:=is_comparable
 have mR:=is_mComparable
 have nE:=is_hasIs
 have uE:=is_hasUnwrap
 have m1:=is_mIs
 have m2:=is_mUnwrap
 have eq:=is_eqF
 have c1:=fIs_any h d
 have c2:=fUnwrap_any h
 have eqk:=is_eqE k d w
 have nE' := is_noIs
 have uE' := is_noUnwrap
 have vE' := is_noUnwraps
 clear h
 generalize (d == c)=r at *
 cases r
 ·simp only [Bool.false_or]
  generalize (k == d)=q at *
  cases q
  ·go_enter Tryz.func85,Tryz.ntmps85
   go_wp2
   refine wp_loop_rounds 2 ?_
   rw [rounds_succ]
   go_wp2_with (first | (go_at_call 171;refine c1.mono ?_;rintro e w' ⟨rfl,rfl⟩) | (go_at_call 172;refine c2.mono ?_;rintro e w' ⟨rfl,rfl⟩))
   rw [rounds_succ]
   go_wp2
   go_ret
   exact ⟨rfl,rfl⟩
  ·go_enter Tryz.func85,Tryz.ntmps85
   go_wp2
   refine wp_loop_rounds 2 ?_
   rw [rounds_succ]
   go_wp2_with (first | (go_at_call 171;refine c1.mono ?_;rintro e w' ⟨rfl,rfl⟩) | (go_at_call 172;refine c2.mono ?_;rintro e w' ⟨rfl,rfl⟩))
   rw [rounds_succ]
   go_wp2
   go_ret
   exact ⟨rfl,rfl⟩
 ·simp only [Bool.true_or]
  clear c2
  go_enter Tryz.func85,Tryz.ntmps85
  go_wp2
  refine wp_loop_rounds 2 ?_
  rw [rounds_succ]
  go_wp2_with (first | (go_at_call 171;refine c1.mono ?_;rintro e w' ⟨rfl,rfl⟩))
  go_ret
  exact ⟨rfl,rfl⟩
set_option maxHeartbeats 4000000 in
theorem is_fault_two {w:World} {b:Nat} {c p:Int} {b' : Nat} {c' p' : Int} (h:w.heap[b]? = some (.cells #[.int .i64 c,.int .i64 p,.iface 82 (.pointer (some ⟨b', 0,none⟩))] 84 (0,0))) (h' : w.heap[b']? = some (.cells #[.int .i64 c', .int .i64 p', .nilIface] 84 (0,0))) (d:Int) :
  Calls Tryz.prog 85 #[.iface 82 (.pointer (some ⟨b,0,none⟩)),.iface 54 (.int .i64 d)] w fun e w' => e=.returned (.bool ((d == c) || d == c'))∧w' = w:=by
 have h8:=@run_callFunc_extern Tryz.prog 114 _ Extern.ReflectliteType.typeOf Tryz.func114 (by kernel_rfl) (by kernel_rfl) (by kernel_rfl) (by kernel_rfl)
 have tT:=is_typeOf
 have cT:=is_comparable
 have mR:=is_mComparable
 have nE:=is_hasIs
 have uE:=is_hasUnwrap
 have m1:=is_mIs
 have m2:=is_mUnwrap
 have eq:=is_eqF
 have c1:=fIs_any h d
 have c2:=fUnwrap_any h
 have c3:=fIs_any h' d
 have c4:=fUnwrap_any h'
 clear h'
 clear h
 generalize (d == c)=r at *
 cases r
 ·simp only [Bool.false_or]
  generalize (d == c')=q at *
  cases q
  ·go_enter Tryz.func85,Tryz.ntmps85
   go_wp2
   refine wp_loop_rounds 2 ?_
   rw [rounds_succ]
   go_wp2_with (first | (go_at_call 171;refine c1.mono ?_;rintro e w' ⟨rfl,rfl⟩) | (go_at_call 172;refine c2.mono ?_;rintro e w' ⟨rfl,rfl⟩))
   rw [rounds_succ]
   go_wp2_with (first | (go_at_call 171;refine c3.mono ?_;rintro e w' ⟨rfl,rfl⟩) | (go_at_call 172;refine c4.mono ?_;rintro e w' ⟨rfl,rfl⟩))
   go_ret
   exact ⟨rfl,rfl⟩
  ·go_enter Tryz.func85,Tryz.ntmps85
   go_wp2
   refine wp_loop_rounds 2 ?_
   rw [rounds_succ]
   go_wp2_with (first | (go_at_call 171;refine c1.mono ?_;rintro e w' ⟨rfl,rfl⟩) | (go_at_call 172;refine c2.mono ?_;rintro e w' ⟨rfl,rfl⟩))
   rw [rounds_succ]
   go_wp2_with (first | (go_at_call 171;refine c3.mono ?_;rintro e w' ⟨rfl,rfl⟩) | (go_at_call 172;refine c4.mono ?_;rintro e w' ⟨rfl,rfl⟩))
   go_ret
   exact ⟨rfl,rfl⟩
 ·simp only [Bool.true_or]
  clear c2
  go_enter Tryz.func85,Tryz.ntmps85
  go_wp2
  refine wp_loop_rounds 2 ?_
  rw [rounds_succ]
  go_wp2_with (first | (go_at_call 171;refine c1.mono ?_;rintro e w' ⟨rfl,rfl⟩))
  go_ret
  exact ⟨rfl,rfl⟩
theorem is_none (d:Int) (w:World):Calls Tryz.prog 85 #[.nilIface,.iface 54 (.int .i64 d)] w fun e w' => e=.returned (.bool false)∧w' = w:=by
 have hn:=is_nilE
 go_enter Tryz.func85,Tryz.ntmps85
 go_wp2
 go_ret
 exact ⟨rfl,rfl⟩
def bears (ws:List (Int × Int)) (d:Int):Bool:=decide (d∈ws.map Prod.fst)
theorem is_any {w:World} {ws:List (Int × Int)} {v:Value} (h:FltAt w ws v) (h2:ws.length≤2) (d:Int) :
  Calls Tryz.prog 85 #[v,.iface 54 (.int .i64 d)] w fun e w' => e=.returned (.bool (bears ws d))∧w' = w:=by
 match ws,h2 with
 | [],_=>
  obtain rfl:v=.nilIface:=h
  exact is_none d w
 | [(c,p)],_=>
  rcases h with ⟨rfl,_,rfl⟩ | ⟨_,b,u,rfl,h1,hu⟩
  ·refine (is_one c d w).mono ?_
   rintro e w' ⟨rfl,rfl⟩
   refine ⟨ret_bool ?_,rfl⟩
   by_cases e:d=c
   ·simp [bears,e]
   ·simp [bears,e];omega
  ·obtain rfl:u=.nilIface:=hu
   refine (is_fault h1 d).mono ?_
   rintro e w' ⟨rfl,rfl⟩
   refine ⟨ret_bool ?_,rfl⟩
   by_cases e:d=c <;> simp [bears,e]
 | [(c,p),(c', p')],_=>
  rcases h with ⟨_,e,_⟩ | ⟨_,b,u,rfl,h1,hu⟩
  ·cases e
  ·rcases hu with ⟨rfl,_,rfl⟩ | ⟨_,b', u', rfl,h1', hu'⟩
   ·refine (is_fault_one h1 d).mono ?_
    rintro e w' ⟨rfl,rfl⟩
    refine ⟨ret_bool ?_,rfl⟩
    by_cases e:d=c
    ·simp [bears,e]
    ·by_cases e' : d=c'
     ·simp [bears,e']
     ·have:(c' == d)=false:=by simp;omega
      simp [bears,e,e', this]
   ·obtain rfl:u' = .nilIface:=hu'
    refine (is_fault_two h1 h1' d).mono ?_
    rintro e w' ⟨rfl,rfl⟩
    refine ⟨ret_bool ?_,rfl⟩
    by_cases e:d=c
    ·simp [bears,e]
    ·by_cases e' : d=c' <;> simp [bears,e,e']
end Go.Proofs.YtfojfpnjnpkabaaGreat
namespace Go.Proofs.YtfojfpnjnpkabaaGreat
set_option linter.unusedVariables false
open Go.RowKit Go.Deep
structure Arg (w:World) (ao:Option Addr) (xs:List Int) (cap:Nat):Prop where
 at' : IntsAt w ao xs
 cap' : xs.length≤cap
 nil:ao=none→xs.length=0∧cap=0
 size:xs.length * 8≤140737488351232
section
variable {H : Type} {enc : TypeId × Value → H} {w : World} {spare : Nat → Bool} {held : Bool}
theorem bytes_int:Tryz.prog.bytesOf 3=8:=by kernel_rfl
theorem open_ints {t fuel:Nat} {cs:List Value} {x:DataW H × List MemPlace} (ht:Tryz.prog.underlying t=some (.slice 3)) (h:DataW.trod enc Tryz.prog w 0 spare held fuel t cs=some x) (hw:∀ n∈x.1.weights Tryz.prog t,n≤reachBytes) :
  ∃ ao cap xs,cs=[.slice ao xs.length cap]∧Arg w ao xs cap:=by
 have h' := h
 rcases open_slice ht h with ⟨hcs,_⟩ | ⟨a,len,cap,m,n,D,Pl,hcs,_,hl,hm,hmm,rfl,hx⟩
 ·exact ⟨none,0,[],hcs,.inl rfl,Nat.le_refl _,fun _=>⟨rfl,rfl⟩,by simp⟩
 ·subst hcs
  have hsz:len * 8≤140737488351232:=by
   have:=hw ((((List.range len).map D).length+((List.range (m-len)).map fun j=>D (len+j)).length) * Tryz.prog.bytesOf 3) (by simp [DataW.weights,ht])
   rw [bytes_int] at this
   simp [reachBytes] at this
   omega
  rcases open_elems ht cells_int (by omega) h' with ⟨e,_,_⟩ | ⟨a', e,hl1,hl2,hall⟩
  ·cases e
  ·cases e
   have each:∀ i,i<len→∃ z:Int,w.cell? ⟨a.block,a.off+i,none⟩=some (.int .i64 z):=by
    intro i hi
    obtain ⟨_,_,cs,n,y,hl,hcell,hy⟩:=hall i hi
    obtain ⟨z,e1,_,_⟩:=DataW.trod_int Tryz.underlying3 hy
    subst e1
    exact ⟨z,by simpa using hcell 0 (by omega)⟩
   obtain ⟨f,hf⟩:=Classical.axiomOfChoice (fun i:Fin len=>each i i.2)
   refine ⟨some a,cap,List.ofFn f,by simp,?_,by simpa using hl,(fun e=>by cases e),by simpa using hsz⟩
   by_cases h0:len=0
   ·subst h0;exact .inl (by simp)
   ·obtain ⟨ea,hlt,_⟩:=hall 0 (by omega)
    refine .inr ⟨a.block,a.off,by rw [← ea],hlt,fun i hi=>?_⟩
    have hi' : i<len:=by simpa using hi
    simpa using hf ⟨i,hi'⟩
theorem cells_term:Tryz.prog.cellsOf 47=1:=by kernel_rfl
structure CaseIs (w:World) (v:Value) (lo:Option Addr) (ll lc:Nat) (ls:List Sym) (so:Option Addr) (tc:Nat) (t:List Int) (at' : Int) (uo:Option Addr) (uc:Nat) (u:List Int) (po:Option Addr) (pc:Nat) (path:List Int):Prop where
 eq:v=.agg #[.slice lo ll lc,.slice so t.length tc,.int .i64 at', .slice uo u.length uc,.slice po path.length pc]
 syms:SymsAt w lo ll ls
 sl:ll≤maxLen
 t' : Arg w so t tc
 u' : Arg w uo u uc
 p' : Arg w po path pc
end
end Go.Proofs.YtfojfpnjnpkabaaGreat
namespace Go.Proofs.YtfojfpnjnpkabaaGreat
set_option maxRecDepth 100000
set_option linter.unusedVariables false
open Go.RowKit
attribute [local go_sem ↓] Go.wp_at_zero Go.wp_at_succ
theorem Arg.same {w w' : World} {ao:Option Addr} {xs:List Int} {cap:Nat} (h:Arg w ao xs cap) (hk:Same0 w w'):Arg w' ao xs cap:=⟨h.at'.same hk,h.cap', h.nil,h.size⟩
def RuAt (w:World) (b off:Nat) (x:Ru):Prop:=
 ∃ ao ac bo bc,w.cell? ⟨b,off,none⟩=some (.slice ao x.1.length ac)∧w.cell? ⟨b,off+1,none⟩=some (.slice bo x.2.length bc)∧Arg w ao x.1 ac∧Arg w bo x.2 bc
def RsAt (w:World) (lo:Option Addr) (l:List Ru):Prop:=
 l=[]∨∃ b off,lo=some ⟨b,off,none⟩∧b<w.heap.size∧∀ i (h:i<l.length),RuAt w b (off+i * 2) l[i]
theorem RuAt.same {w w' : World} {b off:Nat} {x:Ru} (h:RuAt w b off x) (hb:b<w.heap.size) (hk:Same0 w w'):RuAt w' b off x:=by
 obtain ⟨ao,ac,bo,bc,h1,h2,h3,h4⟩:=h
 exact ⟨ao,ac,bo,bc,(hk.cell (p:=⟨b,off,none⟩) hb (fun f=>f)).trans h1,(hk.cell (p:=⟨b,off+1,none⟩) hb (fun f=>f)).trans h2,h3.same hk,h4.same hk⟩
theorem RsAt.same {w w' : World} {lo:Option Addr} {l:List Ru} (h:RsAt w lo l) (hk:Same0 w w'):RsAt w' lo l:=by
 refine h.imp id ?_
 rintro ⟨b,off,rfl,hb,hc⟩
 exact ⟨b,off,rfl,Nat.lt_of_lt_of_le hb hk.size,fun i hi=>(hc i hi).same hb hk⟩
theorem RsAt.get {w:World} {lo:Option Addr} {l:List Ru} (h:RsAt w lo l) {i:Nat} (hi:i<l.length):∃ b off,lo=some ⟨b,off,none⟩∧b<w.heap.size∧RuAt w b (off+i * 2) l[i]:=by
 rcases h with rfl | ⟨b,off,e,hb,hc⟩
 ·simp at hi
 ·exact ⟨b,off,e,hb,hc i hi⟩
structure StR (w:World) (b bs:Nat) (ro:Option Addr) (rc:Nat) (L:List Sym) (R:List Ru):Prop where
 blk:w.heap[b]? = some (.cells #[.pointer (some ⟨bs,0,none⟩),.slice ro R.length rc] 118 (0,0))
 sig:Sg w.heap.size w bs L
 rs:RsAt w ro R
 nil:ro=none→rc=0
 le:R.length≤100
 ok:∀ x∈R,checkE L x.1=0
theorem StR.same {w w' : World} {b bs:Nat} {ro:Option Addr} {rc:Nat} {L:List Sym} {R:List Ru} (h:StR w b bs ro rc L R) (hk:Same0 w w'):StR w' b bs ro rc L R:=
 ⟨hk.at0 h.blk,sg_up (h.sig.same hk) hk.size,h.rs.same hk,h.nil,h.le,h.ok⟩
theorem StR.cells {w:World} {b bs:Nat} {ro:Option Addr} {rc:Nat} {L:List Sym} {R:List Ru} (h:StR w b bs ro rc L R):w.cell? ⟨b,0,none⟩=some (.pointer (some ⟨bs,0,none⟩))∧w.cell? ⟨b,1,none⟩=some (.slice ro R.length rc):=by
 have h0:=cellAt h.blk 0
 have h1:=cellAt h.blk 1
 simp only [List.getElem?_toArray,List.getElem?_cons_zero,List.getElem?_cons_succ] at h0 h1
 exact ⟨h0,h1⟩
theorem cell_al {w:World} {p:Addr} {v:Value} (h:w.cell? p=some v) (o:Obj):(w.alloc o).cell? p=some v:=by
 rw [World.cell?_alloc_some _ _ _ (by rw [h];rfl),h]
theorem heap_al_al (w:World) (o o' : Obj):((w.alloc o).alloc o').heap[w.heap.size+1]? = some o' := by
 have:=heap_alloc_new (w.alloc o) o'
 rwa [World.size_alloc] at this
set_option maxHeartbeats 1000000 in
theorem rule_any {w:World} {b lb off len lc n:Nat} {ao bo:Option Addr} {al ac bl bc:Nat} (h0:w.cell? ⟨lb,off+n * 2,none⟩=some (.slice ao al ac)) (h1:w.cell? ⟨lb,off+n * 2+1,none⟩=some (.slice bo bl bc)) (hn:n<len) :
  Calls Tryz.prog 128 #[.agg #[.pointer (some ⟨b,0,none⟩),.slice (some ⟨lb,off,none⟩) len lc,.int .i64 (n:Int)]] w fun e w' => e=.returned (.agg #[.slice ao al ac,.slice bo bl bc])∧Same0 w w' := by
 have i1:(0:Int)≤(n:Int):=by omega
 have i2:(n:Int)<(len:Int):=by omega
 have H0:=fun o o' => cell_al (cell_al h0 o) o'
 have H1:=fun o o' => cell_al (cell_al h1 o) o'
 clear h0 h1
 go_enter Tryz.func128,Tryz.ntmps128
 go_wp2
 exact bodyPost_ret (v:=.agg #[.slice ao al ac,.slice bo bl bc]) (by simp [results,Tryz.results128,go_sem]) rfl ⟨rfl,((Kept.refl _ w).alloc _).alloc _⟩
set_option maxHeartbeats 1000000 in
theorem fault_any (w:World) (b:Nat) (lo:Option Addr) (ll lc:Nat) (why:Value) (hw:why=.nilIface∨∃ t v,why=.iface t v) (n:Nat) (c:Int) :
  Calls Tryz.prog 129 #[.agg #[.pointer (some ⟨b,0,none⟩),.slice lo ll lc,.int .i64 (n:Int)],.int .i64 c,why] w fun e w' => ∃ k,e=.returned (.iface 82 (.pointer (some ⟨k,0,none⟩)))∧w'.heap[k]? = some (.cells #[.int .i64 c,.int .i64 (n:Int),why] 84 (0,0))∧Same0 w w' := by
 rcases hw with rfl | ⟨t,v,rfl⟩
 ·go_enter Tryz.func129,Tryz.ntmps129
  go_wp2
  go_ret
  exact ⟨_,rfl,heap_al_al _ _ _,((Kept.refl _ w).alloc _).alloc _⟩
 ·go_enter Tryz.func129,Tryz.ntmps129
  go_wp2
  go_ret
  exact ⟨_,rfl,heap_al_al _ _ _,((Kept.refl _ w).alloc _).alloc _⟩
set_option maxHeartbeats 1000000 in
theorem unless_any (w:World) (b:Nat) (lo:Option Addr) (ll lc n:Nat) (c:Int) (h:Bool) :
  Calls Tryz.prog 127 #[.agg #[.pointer (some ⟨b,0,none⟩),.slice lo ll lc,.int .i64 (n:Int)],.bool h,.int .i64 c] w fun e w' => ∃ v,e=.returned v∧FltAt w' (if h=true then [(0, -1)] else [(c,(n:Int))]) v∧Same0 w w' := by
 cases h
 ·have cF:=fault_any
  go_enter Tryz.func127,Tryz.ntmps127
  go_wp2_with (first | (go_at_call 129;refine (cF _ _ _ _ _ _ (.inl rfl) _ _).mono ?_;rintro e w1 ⟨k,rfl,hk1,hk2⟩))
  go_ret
  exact ⟨_,rfl,.inr ⟨by omega,k,_,rfl,hk1,rfl⟩,Same0.trans' ((Kept.refl _ w).alloc _) hk2⟩
 ·go_enter Tryz.func127,Tryz.ntmps127
  go_wp2
  go_ret
  exact ⟨_,rfl,.inl ⟨rfl,rfl,rfl⟩,(Kept.refl _ w).alloc _⟩
theorem sg_at_no {n b:Nat} {w:World} {L:List Sym} (h:Sg n w b L) {x:Int} (hx:x<0∨(L.length:Int)≤x):Calls Tryz.prog 61 #[.pointer (some ⟨b,0,none⟩),.int .i64 x] w fun e w' => e=.returned (.tuple #[.agg #[.string ⟨#[]⟩,.int .i64 0,.bool false],.int .i64 14])∧Same0 w w' := by
 obtain ⟨⟨sv,mr,h1,_⟩,ha⟩:=h
 exact at_no h1 x hx
theorem sg_at_yes {n b:Nat} {w:World} {L:List Sym} (h:Sg n w b L) {i:Nat} (hi:i<L.length):Calls Tryz.prog 61 #[.pointer (some ⟨b,0,none⟩),.int .i64 (i:Int)] w fun e w' => e=.returned (.tuple #[.agg #[.string L[i].name,.int .i64 L[i].ar,.bool L[i].df],.int .i64 0])∧Same0 w w' := by
 obtain ⟨⟨sv,mr,h1,_⟩,ha⟩:=h
 exact at_yes h1 i hi
set_option maxHeartbeats 1000000 in
theorem isDefined_any {w:World} {b bs:Nat} {ro:Option Addr} {rc:Nat} {L:List Sym} {R:List Ru} (h:StR w b bs ro rc L R) (lo:Option Addr) (ll lc n:Nat) (x:Int) :
  Calls Tryz.prog 130 #[.agg #[.pointer (some ⟨b,0,none⟩),.slice lo ll lc,.int .i64 (n:Int)],.int .i64 x] w fun e w' => e=.returned (.bool (defB L x))∧Same0 w w' := by
 have K:∀ o,Same0 w (w.alloc o):=fun o=>(Kept.refl _ w).alloc o
 have C:=fun o=>(h.same (K o)).cells.1
 by_cases hx:x<0∨(L.length:Int)≤x
 ·have H1:Hid (defB L x=false):=defB_no hx
  have c:=fun o=>sg_at_no (h.same (K o)).sig hx
  clear K h
  go_enter Tryz.func130,Tryz.ntmps130
  go_wp2_with (first | (go_at_call 61;refine (c _).mono ?_;rintro e w' ⟨rfl,hk⟩))
  go_ret
  exact ⟨by rw [H1.out];rfl,Kept.alloc (Same0.trans' ((Kept.refl _ w).alloc _) hk) _⟩
 ·obtain ⟨i,rfl⟩:∃ i:Nat,x=(i:Int):=⟨x.toNat,by omega⟩
  have hi:i<L.length:=by omega
  have H1:Hid (defB L (i:Int)=L[i].df):=defB_at hi
  have c:=fun o=>sg_at_yes (h.same (K o)).sig hi
  clear K h
  go_enter Tryz.func130,Tryz.ntmps130
  go_wp2_with (first | (go_at_call 61;refine (c _).mono ?_;rintro e w' ⟨rfl,hk⟩))
  go_ret
  exact ⟨by rw [H1.out];rfl,Kept.alloc (Same0.trans' ((Kept.refl _ w).alloc _) hk) _⟩
theorem info_rule:(Tryz.prog.info? 63).map (fun i=>(i.zero,i.size,i.bytes))=some (some (.agg #[.slice none 0 0,.slice none 0 0]),2,48):=by kernel_rfl
def RCells (w:World) (vs:List Value) (l:List Ru):Prop:=
 vs.length=l.length * 2∧∀ i (h:i<l.length),∃ ao ac bo bc,vs[i * 2]? = some (.slice ao l[i].1.length ac)∧vs[i * 2+1]? = some (.slice bo l[i].2.length bc)∧Arg w ao l[i].1 ac∧Arg w bo l[i].2 bc
theorem RCells.nil (w:World):RCells w [] []:=⟨rfl,fun i h=>absurd h (by simp)⟩
theorem RCells.same {w w' : World} {vs:List Value} {l:List Ru} (h:RCells w vs l) (hk:Same0 w w'):RCells w' vs l:=
 ⟨h.1,fun i hi=>by
  obtain ⟨ao,ac,bo,bc,h1,h2,h3,h4⟩:=h.2 i hi
  exact ⟨ao,ac,bo,bc,h1,h2,h3.same hk,h4.same hk⟩⟩
theorem RCells.append {w:World} {vs us:List Value} {l m:List Ru} (h:RCells w vs l) (k:RCells w us m):RCells w (vs++us) (l++m):=by
 refine ⟨by simp [h.1,k.1];omega,fun i hi=>?_⟩
 by_cases hl:i<l.length
 ·rw [List.getElem_append_left hl,List.getElem?_append_left (by rw [h.1];omega),List.getElem?_append_left (by rw [h.1];omega)]
  exact h.2 i hl
 ·have hm:i-l.length<m.length:=by simp at hi;omega
  rw [List.getElem_append_right (by omega),List.getElem?_append_right (by rw [h.1];omega),List.getElem?_append_right (by rw [h.1];omega)]
  have e1:i * 2-vs.length=(i-l.length) * 2:=by rw [h.1];omega
  have e2:i * 2+1-vs.length=(i-l.length) * 2+1:=by rw [h.1];omega
  rw [e1,e2]
  exact k.2 _ hm
theorem RCells.one {w:World} {vs:List Value} {l:List Ru} (h:RCells w vs l):∀ u∈vs,u.oneCell' = true:=by
 intro u hu
 obtain ⟨j,hj,rfl⟩:=List.mem_iff_getElem.1 hu
 have hj' : j / 2<l.length:=by rw [h.1] at hj;omega
 obtain ⟨ao,ac,bo,bc,h1,h2,_⟩:=h.2 (j / 2) hj'
 rcases Nat.mod_two_eq_zero_or_one j with e | e
 ·have e1:j / 2 * 2=j:=by omega
  rw [e1,List.getElem?_eq_getElem hj] at h1
  simp only [Option.some.injEq] at h1
  rw [h1];rfl
 ·have e1:j / 2 * 2+1=j:=by omega
  rw [e1,List.getElem?_eq_getElem hj] at h2
  simp only [Option.some.injEq] at h2
  rw [h2];rfl
theorem addr_add (b off j:Nat):(⟨b,off,none⟩:Addr).add j=⟨b,off+j,none⟩:=by
 unfold Addr.add
 split
 ·rename_i h;subst h;simp
 ·simp
theorem RsAt.cells {w:World} {lo:Option Addr} {l:List Ru} (h:RsAt w lo l):∃ vs,RCells w vs l∧∀ ad,lo=some ad→∀ j u,vs[j]? = some u→w.cell? (ad.add j)=some u:=by
 rcases h with rfl | ⟨b,off,rfl,hb,hc⟩
 ·exact ⟨[],RCells.nil w,fun ad _ j u hj=>by simp at hj⟩
 ·have key:∀ j,j<l.length * 2→∃ u,w.cell? ⟨b,off+j,none⟩=some u:=fun j hj=>by
   obtain ⟨ao,ac,bo,bc,h1,h2,_⟩:=hc (j / 2) (by omega)
   rcases Nat.mod_two_eq_zero_or_one j with e | e
   ·exact ⟨_,by rw [← h1];congr 2;omega⟩
   ·exact ⟨_,by rw [← h2];congr 2;omega⟩
  refine ⟨(List.range (l.length * 2)).map (fun j=>(w.cell? ⟨b,off+j,none⟩).getD undef),⟨by simp,fun i hi=>?_⟩,fun ad e j u hj=>?_⟩
  ·obtain ⟨ao,ac,bo,bc,h1,h2,h3,h4⟩:=hc i hi
   have g1:i * 2<l.length * 2:=by omega
   have g2:i * 2+1<l.length * 2:=by omega
   have h2' : w.cell? ⟨b,off+(i * 2+1),none⟩=some (.slice bo l[i].2.length bc):=by rw [← h2];congr 2
   exact ⟨ao,ac,bo,bc,by simp [g1,h1],by simp [g2,h2'],h3,h4⟩
  ·cases e
   rw [addr_add]
   have hlt:j<l.length * 2:=by have:=(List.getElem?_eq_some_iff.1 hj).1;simpa using this
   obtain ⟨v,hv⟩:=key j hlt
   simp [hlt,hv] at hj
   rw [hv,hj]
theorem row_rules {w:World} {base N:Nat} {v:Value} {vs:List Value} {l:List Ru} (hr:w.ownsRow base 63 2 v N vs) (hc:RCells w vs l):∃ ao cap,v=.slice ao l.length cap∧RsAt w ao l∧(ao=none→cap=0)∧N=l.length:=by
 have hN:N=l.length:=by have:=hr.1;rw [hc.1] at this;omega
 subst hN
 rcases hr.2 with ⟨rfl,h0⟩ | ⟨g,cap,cur,rfl,_,hg,_,_,_,ht⟩
 ·exact ⟨none,0,by rw [h0],.inl (List.eq_nil_of_length_eq_zero h0),fun _=>rfl,rfl⟩
 ·refine ⟨_,cap,rfl,.inr ⟨g,0,rfl,lt_of_at hg,fun i hi=>?_⟩,(fun e=>by cases e),rfl⟩
  obtain ⟨ao,ac,bo,bc,h1,h2,h3,h4⟩:=hc.2 i hi
  have q1:=hr.cells (g:=g) rfl _ _ h1
  have q2:=hr.cells (g:=g) rfl _ _ h2
  rw [addr_add] at q1 q2
  exact ⟨ao,ac,bo,bc,q1,by rw [← q2];congr 2,h3,h4⟩
theorem RsAt.src {w:World} {lo:Option Addr} {l:List Ru} (h:RsAt w lo l):∃ us,RCells w us l∧Hid (∀ ww,Same0 w ww→∀ ad,lo=some ad→∀ j u,us[j]? = some u→ww.cell? (ad.add j)=some u):=by
 obtain ⟨us,h1,h2⟩:=h.cells
 refine ⟨us,h1,fun ww hk ad e j u hj=>?_⟩
 have:=h2 ad e j u hj
 exact (hk.cell (World.block_lt_of_cell? w _ this) (fun f=>f)).trans this
theorem wpList_rules {w0 W:World} {ops:Array Oper} {rest:List Oper} {o:Oper} {a:Act} {Q:Exit→Act→World→Prop} (hgd:o.guard=none) (s x:Operand)
  (ho:o.op=.call { callee:=.builtin .append,args:=#[s,x],argTypes:=#[23,23] })
  (base N:Nat) (vs:List Value) (v:Value) (hs:a.eval s=v) (hr:w0.ownsRow base 63 2 v N vs) (lo:Option Addr) (lc:Nat) (l:List Ru) (us:List Value) (hx:a.eval x=.slice lo l.length lc) (hc:RCells W us l) (hu:∀ ad,lo=some ad→∀ j u,us[j]? = some u→w0.cell? (ad.add j)=some u) (hn:lo=none→lc=0∧l=[]) (hb:base≤w0.heap.size) (hsz:N+l.length≤1000)
  (h:∀ v' w', w'.ownsRow base 63 2 v' (N+l.length) (vs++us)→Kept (fun k=>v.ownBlock=some k) w0 w' → wpList Tryz.prog ops Q rest (a.put o.dst v') w') :
  wpList Tryz.prog ops Q (o :: rest) a w0:=by
 obtain ⟨i,hi,hz0,hz1,hz2⟩:=info_parts info_rule
 cases lo with
 | none=>
  obtain ⟨rfl,rfl⟩:=hn rfl
  have e0:us=[]:=List.eq_nil_of_length_eq_zero (by simpa using hc.1)
  subst e0
  refine wpList_append_own_none hgd s x 23 ho base 63 i 2 Tryz.underlying23 hi v N vs hs hr hx ?_
  exact h v w0 (by simpa using hr) (Kept.refl _ _)
 | some ad=>
  refine wpList_append_own _ hgd s x 23 ho base 63 i _ 2 48 Tryz.underlying23 hi hz0 hz1 hz2 rfl (by decide) v N vs hs hr ad l.length lc us hx hc.1 (hu ad rfl) hc.one (by unfold maxLen;omega) (by omega) hb ?_
  intro v' w' hown hgrow _
  exact h v' w' hown (Kept.grown (Kept.refl _ w0) hgrow (fun _ e _=>e))
theorem RsAt.none {w:World} {lo:Option Addr} {l:List Ru} {lc:Nat} (h:RsAt w lo l) (hn:lo=none→lc=0):lo=none→lc=0∧l=[]:=fun e=>⟨hn e,by
 rcases h with h | ⟨_,_,e', _⟩
 ·exact h
 ·rw [e] at e'; cases e'⟩
end Go.Proofs.YtfojfpnjnpkabaaGreat
