import PyProof.Rows.All
import Wide.All
import OpenK.AllK
import Wide.FinOn
import Lean
import PyProof.EqAt
import PyProof.EqKinds
import PyProof.TupleCall
import PySem.Challenge.RW_freshsheet_k23_two_hundred_parts
set_option Elab.async false
set_option linter.all false
set_option maxRecDepth 100000
set_option maxHeartbeats 4000000
namespace Hw
open PySem PySem.W PyProof.Rows PySem.Calls
def topRunT (tb:String→Option Builtin)(p:Program)(w:World)(n₀:Nat)(ann:Option Value):Nat→SharedT→Thread→Option SharedT
 | 0,_,_=>none
 | n+1,s,t=>match through t with
  | true=>some s
  | false=>match stepOk n₀ ann t with
   | false=>none
   | true=>match stepT (denote tb) p w s t with
    | some (s',t')=>topRunT tb p w n₀ ann n s' t'
    | none=>none
theorem topRun_ofT {tb:String→Option Builtin}{p:Program}{w:World}{n₀:Nat}{ann:Option Value}:∀{n:Nat} {s s':SharedT} {t:Thread},topRunT tb p w n₀ ann n s t=some s'→topRun tb p w n₀ ann n s.abs t=some s'.abs
 | 0,_,_,_,h=>by cases h
 | n+1,s,s',t,h=>by
  unfold topRunT at h
  unfold topRun
  cases he:through t with
  | true=>rw[he]at h;cases h;rfl
  | false=>
   rw[he]at h
   cases hk:stepOk n₀ ann t with
   | false=>rw[hk]at h;cases h
   | true=>
    rw[hk]at h
    cases hs:stepT (denote tb) p w s t with
    | none=>rw[hs]at h;cases h
    | some r=>obtain⟨s₂,t₂⟩:=r;rw[hs]at h;rw[stepT_spec hs];exact topRun_ofT h
def toBT:List Obj→Nat→BT→BT
 | [],_,t=>t
 | o::r,n,t=>toBT r (n+1) (t.ins n o)
noncomputable def bootT (P:Params):BT:=toBT (boot_heap P).objs.toList 0 .nil
noncomputable def bootS (w:World)(os:OsState):SharedT:=⟨bootT w.params,(boot_heap w.params).objs.size,(boot_heap w.params).life,Array.mk [],boot_drawn,boot_toks,os⟩
theorem bootT_abs (P:Params):absHeap (bootT P) (boot_heap P).objs.size (boot_heap P).life=boot_heap P:=by kernel_rfl
theorem boot_size (w:World):((boot_heap w.params).isNs mainGlobals&&(Array.mk []:Array GenState).size==0,(boot_heap w.params).objs.size,(boot_heap w.params).nsMap mainGlobals "__annotations__")=(true,11,some (.ref 6)):=by kernel_rfl
noncomputable def tops (p:Program)(N:Nat)(w:World)(os:OsState):Option SharedT:=topRunT treeTable p w 11 (some (.ref 6)) N (bootS w os) (topStub p)
def look1 (p:Program)(h:Heap)(s:Shared):Bool:=staticsOk (importedModules p.main.body) h s.heap&&namesBound p s.heap&&gensDone s&&laidKept h s.heap
def look3 (q:Program)(loose mods:List Str)(Xt:Shared→Bool)(g0:Bool)(s:Shared):Bool:=(openSeen q loose mods Xt g0 s).2.2.1
theorem left_whole {p q:Program}{loose:List Str}{Xt:Shared→Bool}{α:Type}{Yf:Shared→α}{Ya:World→α}{N:Nat}{g0:Bool}
 (e:opening p=plainProg p.main.scope.names) (hN:Nat.ble 600 N=true) (f:∀ s,fenceModules? p s=some s)
 (run1:∀(w:World) (os:OsState),(tops p N w os).map (fun s=>(look1 p (boot_heap w.params) s.abs,s.abs.heap.bltView,tabsOk q s.abs))=some (true,bltViewBooted,true))
 (run2:∀(w:World) (os:OsState),(tops p N w os).map (fun s=>seen ((recsOf q).map (·.name)) (ownsOf q) [] { s.abs with gens:=#[] })=some (expectedOf q))
 (run3:∀(w:World) (os:OsState),(tops p N w os).map (fun s=>look3 q loose (importedModules p.main.body) Xt g0 s.abs)=some true)
 (run4:∀(w:World) (os:OsState),(tops p N w os).map (fun s=>(pinSeenD q (drecsOf q) s.abs,plainSeenE q (looseW q loose) s.abs,plainSeenD q loose s.abs,wideSeen q s.abs,clsSeenW q loose s.abs))=some (pinGoodD (drecsOf q),plainGoodE q (looseW q loose),plainGoodD q loose,wideGood q,clsGoodW q loose))
 (run5:∀(w:World) (os:OsState),(tops p N w os).map (fun s=>Yf s.abs)=some (Ya w)):LeftO p q loose Xt Yf Ya N g0:=fun w=>by
 obtain⟨⟨h,gs,d,k,os⟩,e1,e'⟩:=Option.map_eq_some_iff.mp (boot_open e hN f w)
 obtain⟨rfl,rfl,rfl,rfl⟩:h=boot_heap w.params∧gs=Array.mk []∧d=boot_drawn∧k=boot_toks:=by simpa using e'
 obtain⟨z1,z2,z3⟩:_∧_∧_:=by simpa only[Prod.mk.injEq]using boot_size w
 obtain⟨s',hs,l1⟩:=Option.map_eq_some_iff.mp (run1 w os)
 have l2:=run2 w os
 have l3:=run3 w os
 have l4:=run4 w os
 have l5:=run5 w os
 rw[hs]at l2 l3 l4 l5
 replace l2:=Option.some.inj l2
 replace l3:=Option.some.inj l3
 replace l4:=Option.some.inj l4
 replace l5:=Option.some.inj l5
 dsimp only at l1 l2 l3 l4 l5
 obtain⟨l1,l6,l7⟩:_∧_∧_:=by simpa only[Prod.mk.injEq]using l1
 have l8:openSeen q loose (importedModules p.main.body) Xt g0 s'.abs=openGood q loose:=Prod.ext l2 (Prod.ext l6 (Prod.ext l3 (Prod.ext l7 l4)))
 have r:=topRun_ofT hs
 have hb:(bootS w os).abs=⟨boot_heap w.params,Array.mk [],boot_drawn,boot_toks,os⟩:=by
  show Shared.mk _ _ _ _ _=_
  rw[show absHeap (bootS w os).tree (bootS w os).n (bootS w os).life=boot_heap w.params from bootT_abs w.params]
  rfl
 rw[hb]at r
 have t:topFrom treeTable p w N ⟨boot_heap w.params,Array.mk [],boot_drawn,boot_toks,os⟩=some s'.abs:=by
  unfold topFrom
  dsimp only
  rw[z1,z2,z3,r]
  show(match look1 p (boot_heap w.params) s'.abs with | true=>some s'.abs | false=>none)=_
  rw[l1]
 unfold openEnds
 rw[e1]
 show(topFrom treeTable p w N _).map _=_
 rw[t]
 exact congrArg some (Prod.ext l8 l5)
abbrev pw:=PySem.Challenge.pw_freshsheet_k23_two_hundred_parts
abbrev lw:=PySem.Challenge.rw_freshsheet_k23_two_hundred_parts
section
local macro_rules | `(tactic| o_head $H)=>do let f:=Lean.mkIdent `foo;`(tactic| exact $f $H)
theorem pack (foo:PySem.W.Hook→(OpenLaw.row lw).Holds):(OpenLaw.row lw).Holds:=by k_head
end
def _root_.PySem.W.Fast.tw11623024760792722023:Program:=pw
theorem _root_.PySem.W.Fast.te11623024760792722023:PySem.Challenge.pw_freshsheet_k23_two_hundred_parts=PySem.W.Fast.tw11623024760792722023:=rfl
def hAs:List Addr:=[2,3,15,22,23,24,25,28,35,36,37,40,42,43,45,46,47,49,50,52,53,54,56,57,59,60,61,64,65,66,68,69,71,72,73,75,76,78,79,80,81,83,84,86,87,88,90,91,93,94,95,98,99,100,102,103,105,106,107,109,110,112,113,114,115,116,117,119,120,121,122,123,124,125,126,127,128,129,130,131,132,133,136,137,138,140,141,143,144,145,147,148,150,151,152,154,155,157,158,159,161,162,164,165,166,168,169,171,172,173,175,176,178,179,180,182,183,185,186,187,189,190,192,193,194,196,197,199,200,201,203,204,206,207,208,210,211,213,214,215,217,218,220,221,222,224,225,227,228,229,231,232,234,235,236,239,240,241,243,244,246,247,248,250,251,253,254,255,257,258,260,261,269,271,272,274,275,276,278,279,281,282,283,285,286,288,289,290,292,293,295,296,297,299,300,302,303,304,306,307,309,310,311,313,314,316,317,318,320,321,323,324,325,326,327,328,329,332,334,335,337,338,339,341,342,344,345,346,348,349,351,352,353,355,356,358,359,360,362,363,365,366,367,370,371,372,374,375,377,378,379,381,382,384,385,386,388,389,391,392,393,395,396,398,399,400,403,404,405,408,409,410,413,414,415,418,419,420,423,424,425,427,428,430,431,432,434,435,437,438,439,441,442,444,445,446,448,449,451,452,453,455,456,458,459,460,463,464,465,467,468,470,471,472,474,475,477,478,479,481,482,484,485,486,489,490]
theorem hAs_eq:∀ P,hAs=(pack.heap_1 P).map (·.1):=fun _=>by kernel_rfl
def qv:Program:=view pw [1,2,4,5,6,8,9,10,11,12,13,14,16,17,18,19,20,21,22,23,24,26,27,28,29,30,31,32,33,34,35,36,37,38,39,40,41,42,43,44,45,46,47,48,49,50,51,52,54,55,56,57,58,60,61,62,63,64,65,66,67,68,69,70,71,72,73,74,75,76,77,78,79,80,82,83,84,85,86,87,88,89]
def Xv:Shared→Bool:=fun s=>xlAt qv [] s&&recOk (RowW.records (OpenRow.toRowW (OpenLaw.row lw))) s
abbrev N0:Nat:=5000
abbrev lo:List PySem.Str:=[PySem.Str.ofString "LENGTHS",PySem.Str.ofString "PART_PLACES"]
noncomputable def lhs1 (w:World)(os:OsState):=(tops pw N0 w os).map (fun s=>(look1 pw (boot_heap w.params) s.abs,s.abs.heap.bltView,tabsOk qv s.abs))
theorem lhs1_self:lhs1=lhs1:=rfl
name_quick hw1 for Hw.lhs1 by Hw.lhs1_self
set_option maxHeartbeats 0 in
theorem run1f:∀(w:World) (os:OsState),PySem.W.Fast.hw1 (w.withFollow "special-get-raises" false) os=some (true,bltViewBooted,true):=by
 intro w os
 kernel_rfl
set_option maxHeartbeats 0 in
theorem run1t:∀(w:World) (os:OsState),PySem.W.Fast.hw1 (w.withFollow "special-get-raises" true) os=some (true,bltViewBooted,true):=by
 intro w os
 kernel_rfl
theorem run1:∀ w os,PySem.W.Fast.hw1 w os=some (true,bltViewBooted,true):=fun w=>PySem.W.byRow2 "special-get-raises" (P:=fun w=>∀ os,PySem.W.Fast.hw1 w os=some (true,bltViewBooted,true)) run1f run1t w
noncomputable def lhs2 (w:World)(os:OsState):=(tops pw N0 w os).map (fun s=>seen ((recsOf qv).map (·.name)) (ownsOf qv) [] { s.abs with gens:=#[] })
theorem lhs2_self:lhs2=lhs2:=rfl
name_quick hw2 for Hw.lhs2 by Hw.lhs2_self
noncomputable def rhs2:=expectedOf qv
theorem rhs2_self:rhs2=rhs2:=rfl
name_quick hg2 for Hw.rhs2 by Hw.rhs2_self
set_option maxHeartbeats 0 in
theorem run2f:∀(w:World) (os:OsState),PySem.W.Fast.hw2 (w.withFollow "special-get-raises" false) os=some (PySem.W.Fast.hg2):=by
 intro w os
 kernel_rfl
set_option maxHeartbeats 0 in
theorem run2t:∀(w:World) (os:OsState),PySem.W.Fast.hw2 (w.withFollow "special-get-raises" true) os=some (PySem.W.Fast.hg2):=by
 intro w os
 kernel_rfl
theorem run2:∀ w os,PySem.W.Fast.hw2 w os=some (PySem.W.Fast.hg2):=fun w=>PySem.W.byRow2 "special-get-raises" (P:=fun w=>∀ os,PySem.W.Fast.hw2 w os=some (PySem.W.Fast.hg2)) run2f run2t w
noncomputable def lhs3 (w:World)(os:OsState):=(tops pw N0 w os).map (fun s=>look3 qv lo (importedModules pw.main.body) Xv true s.abs)
theorem lhs3_self:lhs3=lhs3:=rfl
name_quick hw3 for Hw.lhs3 by Hw.lhs3_self
set_option maxHeartbeats 0 in
theorem run3f:∀(w:World) (os:OsState),PySem.W.Fast.hw3 (w.withFollow "special-get-raises" false) os=some (true):=by
 intro w os
 kernel_rfl
set_option maxHeartbeats 0 in
theorem run3t:∀(w:World) (os:OsState),PySem.W.Fast.hw3 (w.withFollow "special-get-raises" true) os=some (true):=by
 intro w os
 kernel_rfl
theorem run3:∀ w os,PySem.W.Fast.hw3 w os=some (true):=fun w=>PySem.W.byRow2 "special-get-raises" (P:=fun w=>∀ os,PySem.W.Fast.hw3 w os=some (true)) run3f run3t w
noncomputable def lhs4 (w:World)(os:OsState):=(tops pw N0 w os).map (fun s=>(pinSeenD qv (drecsOf qv) s.abs,plainSeenE qv (looseW qv lo) s.abs,plainSeenD qv lo s.abs,wideSeen qv s.abs,clsSeenW qv lo s.abs))
theorem lhs4_self:lhs4=lhs4:=rfl
name_quick hw4 for Hw.lhs4 by Hw.lhs4_self
noncomputable def rhs4:=(pinGoodD (drecsOf qv),plainGoodE qv (looseW qv lo),plainGoodD qv lo,wideGood qv,clsGoodW qv lo)
theorem rhs4_self:rhs4=rhs4:=rfl
name_quick hg4 for Hw.rhs4 by Hw.rhs4_self
set_option maxHeartbeats 0 in
theorem run4f:∀(w:World) (os:OsState),PySem.W.Fast.hw4 (w.withFollow "special-get-raises" false) os=some (PySem.W.Fast.hg4):=by
 intro w os
 kernel_rfl
set_option maxHeartbeats 0 in
theorem run4t:∀(w:World) (os:OsState),PySem.W.Fast.hw4 (w.withFollow "special-get-raises" true) os=some (PySem.W.Fast.hg4):=by
 intro w os
 kernel_rfl
theorem run4:∀ w os,PySem.W.Fast.hw4 w os=some (PySem.W.Fast.hg4):=fun w=>PySem.W.byRow2 "special-get-raises" (P:=fun w=>∀ os,PySem.W.Fast.hw4 w os=some (PySem.W.Fast.hg4)) run4f run4t w
noncomputable def lhs5 (w:World)(os:OsState):=(tops pw N0 w os).map (fun s=>hAs.map s.abs.heap.get?)
theorem lhs5_self:lhs5=lhs5:=rfl
name_quick hw5 for Hw.lhs5 by Hw.lhs5_self
set_option maxHeartbeats 0 in
theorem run5f:∀(w:World) (os:OsState),PySem.W.Fast.hw5 (w.withFollow "special-get-raises" false) os=some ((pack.heap_1 (w.withFollow "special-get-raises" false).params).map fun p=>some p.2):=by
 intro w os
 kernel_rfl
set_option maxHeartbeats 0 in
theorem run5t:∀(w:World) (os:OsState),PySem.W.Fast.hw5 (w.withFollow "special-get-raises" true) os=some ((pack.heap_1 (w.withFollow "special-get-raises" true).params).map fun p=>some p.2):=by
 intro w os
 kernel_rfl
theorem run5:∀ w os,PySem.W.Fast.hw5 w os=some ((pack.heap_1 w.params).map fun p=>some p.2):=fun w=>PySem.W.byRow2 "special-get-raises" (P:=fun w=>∀ os,PySem.W.Fast.hw5 w os=some ((pack.heap_1 w.params).map fun p=>some p.2)) run5f run5t w
theorem q_open:opening pw=plainProg pw.main.scope.names:=by kernel_rfl
theorem q_fence:∀ s,fenceModules? pw s=some s:=fun s=>by kernel_rfl
theorem left:LeftO pw qv lo Xv (Hook.obs (kHook pack.heap_1 hAs hAs_eq)) (Hook.val (kHook pack.heap_1 hAs hAs_eq)) N0 true:=
 left_whole q_open rfl q_fence (fun w os=>(congrFun (congrFun PySem.W.Fast.hw1_eq w) os).trans (run1 w os))
  (fun w os=>((congrFun (congrFun PySem.W.Fast.hw2_eq w) os).trans (run2 w os)).trans (congrArg some PySem.W.Fast.hg2_eq.symm))
  (fun w os=>(congrFun (congrFun PySem.W.Fast.hw3_eq w) os).trans (run3 w os))
  (fun w os=>((congrFun (congrFun PySem.W.Fast.hw4_eq w) os).trans (run4 w os)).trans (congrArg some PySem.W.Fast.hg4_eq.symm))
  (fun w os=>(congrFun (congrFun PySem.W.Fast.hw5_eq w) os).trans (run5 w os))
end Hw
set_option Elab.async false
set_option linter.all false
set_option maxRecDepth 100000
local macro_rules | `(tactic| omega) => `(tactic| lia)
local macro_rules | `(tactic| nofun) => `(tactic| decide +kernel)
namespace L2
open PySem PySem.Spec PyProof.Rows
abbrev A9:=Sum Int Str
def IE:A9→Value→Bool
 | .inl k,v=>Value.isInt k v
 | .inr x,v=>Value.isStrOf x v
def Ue (w:World):A9→Int
 | .inl k=>hashInt k
 | .inr x=>hashStr w x
theorem BU:∀{k:A9} {v:Value},IE k v=true→(∃ i t,k=Sum.inl i∧v=Value.int i t)∨(∃ x t,k=Sum.inr x∧v=Value.str x t)
 | .inl i,v,h=>by
  obtain⟨t,e⟩:=Value.isInt_shape (k:=i) (v:=v) h
  exact .inl ⟨i,t,rfl,e⟩
 | .inr x,v,h=>by
  obtain⟨t,e⟩:=Value.isStrOf_shape (x:=x) (v:=v) h
  exact .inr ⟨x,t,rfl,e⟩
theorem Nz (i:Int)(t:Tok):IE (.inl i) (.int i t)=true:=by simp[IE,Value.isInt]
theorem N1 (x:Str)(t:Tok):IE (.inr x) (.str x t)=true:=by simp[IE,Value.isStrOf]
theorem Sw (a b:Int):decide ((Sum.inl a:A9)=Sum.inl b)=(a==b):=by
 by_cases e:a=b
 ·subst e;simp
 ·have h:¬ (Sum.inl a:A9)=Sum.inl b:=fun q=>e (Sum.inl.inj q)
  rw[decide_eq_false h]
  exact(beq_eq_false_iff_ne.mpr e).symm
theorem Sx (a b:Str):decide ((Sum.inr a:A9)=Sum.inr b)=decide (a=b):=by
 by_cases e:a=b
 ·subst e;simp
 ·have h:¬ (Sum.inr a:A9)=Sum.inr b:=fun q=>e (Sum.inr.inj q)
  rw[decide_eq_false h,decide_eq_false e]
theorem Sy (a:Int)(b:Str):decide ((Sum.inl a:A9)=Sum.inr b)=false:=decide_eq_false (fun q=>nomatch q)
theorem S0 (a:Str)(b:Int):decide ((Sum.inr a:A9)=Sum.inl b)=false:=decide_eq_false (fun q=>nomatch q)
def BA (prog:Program)(w:World):PySem.KeyKind prog w A9 where
 is:=IE
 hash:=Ue w
 inj:=fun v a b ha hb=>by
  rcases BU ha with⟨i,t,rfl,rfl⟩ | ⟨x,t,rfl,rfl⟩
  ·rcases BU hb with⟨j,u,rfl,e⟩ | ⟨y,u,rfl,e⟩
   ·injection e with e1 _;rw[e1]
   ·exact nomatch e
  ·rcases BU hb with⟨j,u,rfl,e⟩ | ⟨y,u,rfl,e⟩
   ·exact nomatch e
   ·injection e with e1 _;rw[e1]
 byValue:=fun k v h=>by
  rcases BU h with⟨i,t,rfl,rfl⟩ | ⟨x,t,rfl,rfl⟩ <;> rfl
 pyHash:=fun hv h=>by
  rcases BU hv with⟨i,t,rfl,rfl⟩ | ⟨x,t,rfl,rfl⟩
  ·exact wpAny_pyHash_int h
  ·exact wpAny_pyHash_str h
 eqBool:=fun hu hv h=>by
  rcases BU hu with⟨i,t,rfl,rfl⟩ | ⟨x,t,rfl,rfl⟩
  ·rcases BU hv with⟨j,u,rfl,rfl⟩ | ⟨y,u,rfl,rfl⟩
   ·rw[Sw]at h;exact wpAny_eqBool_int h
   ·rw[Sy]at h;exact SeqAt.EqAt.int_str i t y u _ _ _ _ h
  ·rcases BU hv with⟨j,u,rfl,rfl⟩ | ⟨y,u,rfl,rfl⟩
   ·rw[S0]at h;exact SeqAt.EqAt.str_int x t j u _ _ _ _ h
   ·rw[Sx]at h;exact wpAny_eqBool_str h
 «strs»:=fun k x t v h=>by
  rcases BU h with⟨i,u,rfl,e⟩ | ⟨y,u,rfl,e⟩
  ·exact nomatch e
  ·injection e with e1 _
   subst e1
   cases v <;> rfl
theorem Kt (prog:Program)(w:World)(i:Int)(t:Tok):(BA prog w).is (.inl i) (.int i t)=true:=Nz i t
theorem Ku (prog:Program)(w:World)(x:Str)(t:Tok):(BA prog w).is (.inr x) (.str x t)=true:=N1 x t
inductive V where
 | non | bl (b:Bool) | int (i:Int) | str (x:Str) | byt (b:Array UInt8) | flt (b:UInt64) | ref (a:Addr) | ty (n:String)
 deriving DecidableEq
def Ai:V→Value→Prop
 | .non,u=>u=Value.none
 | .bl b,u=>u=Value.bool b
 | .int i,u=>∃ t,u=Value.int i t
 | .str x,u=>∃ t,u=Value.str x t
 | .byt b,u=>∃ t,u=Value.bytes b t
 | .flt b,u=>∃ t,u=Value.float b t
 | .ref a,u=>u=Value.ref a
 | .ty n,u=>u=Value.type n
abbrev Am:List V→List Value→Prop:=Paired Ai
theorem Am.length {xs:List V}{us:List Value}(r:Am xs us):xs.length=us.length:=Paired.length r
theorem Am.get:∀{xs:List V} {us:List Value} {i:Nat} {x:V},Am xs us→xs[i]?=some x→∃ u,us[i]?=some u∧Ai x u:=by
 intro A B j x h
 induction h generalizing j with
 | nil=>
  intro e
  simp at e
 | cons r t ih=>
  intro e
  cases j with
  | zero=>
   simp at e
   subst e
   exact⟨_,rfl,r⟩
  | succ j=>
   obtain⟨y,h1,h2⟩:=ih (by simpa using e)
   exact⟨y,by simpa using h1,h2⟩
theorem Am.set {x:V}{u:Value}(r:Ai x u):∀{xs:List V} {us:List Value} (i:Nat),Am xs us→Am (xs.set i x) (us.set i u)
 | _,_,_,.nil=>.nil
 | _,_,0,.cons _ t=>.cons r t
 | _,_,i+1,.cons q t=>.cons q (Am.set r i t)
theorem Am.append:∀{xs ys:List V} {us ws:List Value},Am xs us→Am ys ws→Am (xs++ys) (us++ws):=by
 intro A B C D h g
 induction h with
 | nil=>exact g
 | cons r t ih=>exact .cons r ih
theorem Am.take:∀{xs:List V} {us:List Value} (n:Nat),Am xs us→Am (xs.take n) (us.take n)
 | _,_,0,_=>.nil
 | _,_,_+1,.nil=>.nil
 | _,_,n+1,.cons r t=>.cons r (Am.take n t)
theorem Am.drop:∀{xs:List V} {us:List Value} (n:Nat),Am xs us→Am (xs.drop n) (us.drop n)
 | _,_,0,r=>r
 | _,_,_+1,.nil=>.nil
 | _,_,n+1,.cons _ t=>Am.drop n t
def Dx:Option V→Option Value→Prop
 | some v,some u=>Ai v u
 | none,none=>True
 | _,_=>False
def KV {κ:Type}:List (κ×V)→List (κ×Value)→Prop:=Paired fun(p:κ×V) (q:κ×Value)=>p.1=q.1∧Ai p.2 q.2
def kV:A9→V
 | .inl i=>.int i
 | .inr x=>.str x
inductive HO where
 | lst (xs:List V)
 | tup (xs:List V)
 | dK (kvs:List (A9×V)) | dT (kvs:List (List A9×V))
 | set (S:Int→Bool) (n:Nat)
 | ins (C dx:Addr) (fs:List (Str×V))
 | own (x:Addr)
 | xd (fs:List (Str×V))
 | met (f x:Addr)
 | rng (lo hi:Int)
 | frz (o:Obj) (u:HO)
 | tbl (ps:Array Value)
 | ext (φ:Heap→Prop)
abbrev Hp:=Addr→Option HO
def upd (H:Hp)(a:Addr)(o:HO):Hp:=fun b=>if b=a then some o else H b
theorem AC {H:Hp}{a:Addr}{o:HO}:upd H a o a=some o:=by unfold upd;rw[if_pos rfl]
theorem AR {H:Hp}{a b:Addr}{o:HO}(h:b≠a):upd H a o b=H b:=by unfold upd;rw[if_neg h]
theorem F8 {H:Hp}{a:Addr}{o u:HO}:upd (upd H a o) a u=upd H a u:=by
 funext b;unfold upd;split <;> rfl
theorem Db {H:Hp}{a b:Addr}{o u:HO}(h:H a=some o)(h':H b=some u)(d:o≠u):a≠b:=by
 intro e;subst e;rw[h]at h';exact d (Option.some.inj h')
theorem AX {H:Hp}{a b:Addr}{o:HO}(h:H a=some o)(h':H b=none):a≠b:=by
 intro e;subst e;rw[h]at h';cases h'
section
variable (P:Program)(w:World)
def A6 (H:Hp)(h:Heap)(a:Addr):HO→Prop
 | .lst xs=>xs.length≤sizeLine∧∃(its:List Value) (n:Nat),Am xs its∧h.get? a=some { cls:=.type "list",data:=.seq its.toArray n }
 | .tup xs=>xs.length≤sizeLine∧∃ its:List Value,Am xs its∧IsTup h a its.toArray
 | .dK kvs=>kvs.length≤sizeLine∧(a==sysModules)=false∧∃ vs,KV kvs vs∧h.DictOf (BA P w) a vs
 | .dT kvs=>kvs.length≤sizeLine∧(a==sysModules)=false∧∃ xs:List (List A9×Addr×Value),
  Paired (fun(p:List A9×V) (q:List A9×Addr×Value)=>p.1=q.1∧H q.2.1=some (.tup (p.1.map kV))∧Ai p.2 q.2.2) kvs xs∧
  ∃ o es ep,h.get? a=some o∧o.ExactDict∧o.data=.dict es ep∧es.toList=xs.map (entryOfKey (tupleKind (BA P w)))∧(xs.map (·.1)).Nodup
 | .set S n=>h.SetOf (intKind P w) a S n
 | .ins C dx fs=>H dx=some (.own a)∧fs.length≤1000∧dx≠a∧h.get? a=some (PySem.W.instObj C dx)∧
  ∃ mA,h.Ns1 dx mA∧(∀ f,Dx (fs.lookup f) (mA f))∧PySem.Within mA (fs.map (·.1))
 | .own _=>∃ o,h.get? a=some o
 | .xd fs=>∃ mA,h.Ns1 a mA∧∀ f,Dx (fs.lookup f) (mA f)
 | .rng lo hi=>∃ t u v,h.get? a=some { cls:=.type "range",data:=.fields #[.int lo t,.int hi u,.int 1 v] }
 | .frz o u=>h.get? a=some o∧A6 H h a u
 | .tbl ps=>h.get? a=some { cls:=.none,data:=.fields ps }
 | .met f x=>h.get? a=some (PySem.W.methodObj (.ref f) (.ref x))
 | .ext φ=>φ h∧(∃ o,h.get? a=some o)∧∀ h1 h2:Heap,φ h1→(∀ o,h1.get? a=some o→h2.get? a=some o)→φ h2
def Eh (H:Hp)(h:Heap):Prop:=∀ a o,H a=some o→A6 P w H h a o
end
section
variable {P:Program}{w:World}{H H':Hp}{h h':Heap}{a:Addr}{o:HO}
theorem A6.lt (x:A6 P w H h a o):a<h.objs.size:=by
 cases o with
 | lst xs=>obtain⟨_,_,_,_,e⟩:=x;exact Heap.lt_size e
 | tup xs=>obtain⟨_,_,_,p⟩:=x;exact p.lt
 | dK kvs=>obtain⟨_,_,_,_,o,_,_,e,_⟩:=x;exact Heap.lt_size e
 | dT kvs=>obtain⟨_,_,_,_,o,_,_,e,_⟩:=x;exact Heap.lt_size e
 | set S n=>obtain⟨o,_,_,_,e,_⟩:=x;exact Heap.lt_size e
 | ins C dx fs=>obtain⟨_,_,_,e,_⟩:=x;exact Heap.lt_size e
 | own y=>obtain⟨_,e⟩:=x;exact Heap.lt_size e
 | xd fs=>obtain⟨_,⟨_,_,_,e,_⟩,_⟩:=x;exact Heap.lt_size e
 | rng lo hi=>obtain⟨_,_,_,e⟩:=x;exact Heap.lt_size e
 | frz ob u=>obtain⟨e,_⟩:=x;exact Heap.lt_size e
 | tbl ps=>exact Heap.lt_size (show h.get? a=some _ from x)
 | met f y=>exact Heap.lt_size (show h.get? a=some _ from x)
 | ext φ=>obtain⟨_,⟨_,e⟩,_⟩:=x;exact Heap.lt_size e
theorem Paired.mapP {α β:Type}{F G:α→β→Prop}:∀{l₁:List α} {l₂:List β},Paired F l₁ l₂→(∀ a b,F a b→G a b)→Paired G l₁ l₂:=by
 intro A B h f
 induction h with
 | nil=>exact .nil
 | cons r t ih=>exact .cons (f _ _ r) ih
theorem Paired.imp' {α β:Type}{F G:α→β→Prop}(f:∀ a b,F a b→G a b){l₁:List α}{l₂:List β}(r:Paired F l₁ l₂):Paired G l₁ l₂:=Paired.mapP r f
theorem A6.stay (x:A6 P w H h a o)(k:∀ b u,(b=a∨H b=some (.own a))→h.get? b=some u→h'.get? b=some u)
 (ho:∀ b,H b=some (.own a)→H' b=some (.own a)) (ht:∀ b xs,H b=some (.tup xs)→H' b=some (.tup xs)):A6 P w H' h' a o:=by
 induction o with
 | lst xs=>obtain⟨z,its,n,r,e⟩:=x;exact⟨z,its,n,r,k _ _ (.inl rfl) e⟩
 | tup xs=>obtain⟨z,its,r,ob,e,c⟩:=x;exact⟨z,its,r,ob,k _ _ (.inl rfl) e,c⟩
 | dK kvs=>obtain⟨z,y,vs,r,ob,es,ep,e,c⟩:=x;exact⟨z,y,vs,r,ob,es,ep,k _ _ (.inl rfl) e,c⟩
 | dT kvs=>
  obtain⟨z,y,xs,r,ob,es,ep,e,c⟩:=x
  exact⟨z,y,xs,Paired.mapP r fun p q z=>⟨z.1,ht _ _ z.2.1,z.2.2⟩,ob,es,ep,k _ _ (.inl rfl) e,c⟩
 | set S n=>obtain⟨ob,es,ep,t,e,c⟩:=x;exact⟨ob,es,ep,t,k _ _ (.inl rfl) e,c⟩
 | ins C dx fs=>
  obtain⟨d,z,ne,e,mA,⟨od,es,ep,e2,c⟩,r⟩:=x
  exact⟨ho _ d,z,ne,k _ _ (.inl rfl) e,mA,⟨od,es,ep,k _ _ (.inr d) e2,c⟩,r⟩
 | own y=>obtain⟨ob,e⟩:=x;exact⟨ob,k _ _ (.inl rfl) e⟩
 | xd fs=>obtain⟨mA,⟨od,es,ep,e,c⟩,r⟩:=x;exact⟨mA,⟨od,es,ep,k _ _ (.inl rfl) e,c⟩,r⟩
 | rng lo hi=>obtain⟨t,u,v,e⟩:=x;exact⟨t,u,v,k _ _ (.inl rfl) e⟩
 | frz ob u ih=>obtain⟨e,q⟩:=x;exact⟨k _ _ (.inl rfl) e,ih q⟩
 | tbl ps=>
  have e:h.get? a=some { cls:=.none,data:=.fields ps }:=x
  show h'.get? a=some { cls:=.none,data:=.fields ps }
  exact k a _ (.inl rfl) e
 | met f y=>
  have e:h.get? a=some (PySem.W.methodObj (.ref f) (.ref y)):=x
  show h'.get? a=some (PySem.W.methodObj (.ref f) (.ref y))
  exact k a _ (.inl rfl) e
 | ext φ=>obtain⟨p,⟨o,e⟩,st⟩:=x;exact⟨st _ _ p fun o q=>k _ _ (.inl rfl) q,⟨o,k _ _ (.inl rfl) e⟩,st⟩
theorem Eh.lt (x:Eh P w H h)(e:H a=some o):a<h.objs.size:=(x a o e).lt
theorem Eh.fresh (x:Eh P w H h)(e:h.objs.size≤a):H a=none:=by
 cases q:H a with
 | none=>rfl
 | some u=>exact absurd (Nat.lt_of_lt_of_le (x.lt q) e) (Nat.lt_irrefl _)
theorem Eh.kept (x:Eh P w H h)(k:∀ b u,h.get? b=some u→h'.get? b=some u):Eh P w H h':=fun a o e=>
 (x a o e).stay (fun b u _ q=>k b u q) (fun _ q=>q) fun _ _ q=>q
theorem Eh.laid (x:Eh P w H h)(k:∀ b u,h.get? b=some u→h'.get? b=some u)(hp:h.objs.size≤a)(new:A6 P w (upd H a o) h' a o):Eh P w (upd H a o) h':=fun b u e=>by
 have hn:=x.fresh hp
 by_cases hb:b=a
 ·subst hb;rw[AC]at e;cases e;exact new
 ·rw[AR hb]at e
  exact(x b u e).stay (fun c v _ q=>k c v q) (fun c q=>by rw[AR (AX q hn)];exact q) fun c xs q=>by rw[AR (AX q hn)];exact q
end
def Rd (H:Hp)(a:Addr)(u:HO):Prop:=H a=some u∨∃ o,H a=some (.frz o u)
theorem Rd.ok {P:Program}{w:World}{H:Hp}{h:Heap}{a:Addr}{u:HO}(r:Rd H a u)(x:Eh P w H h):A6 P w H h a u:=by
 rcases r with r | ⟨o,r⟩
 ·exact x a u r
 ·obtain⟨_,q⟩:=x a _ r
  exact q
def Uf:Option HO→Prop
 | some (.lst _)=>True
 | some (.dK _)=>True
 | some (.dT _)=>True
 | some (.set _ _)=>True
 | some (.ins _ _ _)=>True
 | some (.ext _)=>True
 | _=>False
section
variable {P:Program}{w:World}{H:Hp}{h h':Heap}{x e:Addr}{o':HO}
theorem Eh.write (ok:Eh P w H h)(mu:Uf (H x))(he:e=x∨H e=some (.own x))(k:∀ b u,b≠e→h.get? b=some u→h'.get? b=some u)(heo:∃ u,h'.get? e=some u)
 (new:A6 P w (upd H x o') h' x o'):Eh P w (upd H x o') h':=fun b u q=>by
 have nown:∀ c y,H c=some (.own y)→c≠x:=fun c y r z=>by subst z;rw[r]at mu;exact mu
 have ntup:∀ c xs,H c=some (.tup xs)→c≠x:=fun c xs r z=>by subst z;rw[r]at mu;exact mu
 by_cases hb:b=x
 ·subst hb;rw[AC]at q;cases q;exact new
 ·rw[AR hb]at q
  by_cases hbe:b=e
  ·have q':H b=some (.own x):=by
    rcases he with z | z
    ·exact absurd (hbe.trans z) hb
    ·rw[hbe];exact z
   rw[q]at q';cases q'
   obtain⟨v,hv⟩:=heo
   exact⟨v,by rw[hbe];exact hv⟩
  ·refine(ok b u q).stay (fun c v hc r=>k c v ?_ r) (fun c r=>by rw[AR (nown c b r)];exact r) fun c xs r=>by rw[AR (ntup c xs r)];exact r
   rcases hc with rfl | hc
   ·exact hbe
   ·rintro rfl
    rcases he with z | z
    ·exact nown c b hc z
    ·rw[hc]at z;cases z;exact hb rfl
end
structure Un (fs ex:List Addr)(H H':Hp)(h h':Heap):Prop where
 keep:∀ b o,h.get? b=some o→H b=none→b∉fs→b∉ex→h'.get? b=some o
 slot:∀ b o,h.get? b=some o→H b=none→b∈fs→b∉ex→∃ sl,h'.get? b=some { o with slots:=sl }
 free:∀ b o,h.get? b=some o→H b=none→b∉ex→H' b=none
 there:∀ b o,h.get? b=some o→b∉ex→∃ o',h'.get? b=some o'
 tups:∀ b xs,H b=some (.tup xs)→H' b=some (.tup xs)
 frzs:∀ b o u,H b=some (.frz o u)→H' b=some (.frz o u)
 tbls:∀ b ps,H b=some (.tbl ps)→∃ more,H' b=some (.tbl (ps++more))
section
variable {fs fs' ex ex':List Addr}{H H1 H2:Hp}{h h1 h2 h':Heap}{a x e:Addr}{o:HO}
theorem Un.any (u:Un fs ex H H1 h h1){b:Addr}{ob:Obj}(q:h.get? b=some ob)(n:H b=none)(hx:b∉ex):∃ sl,h1.get? b=some { ob with slots:=sl }:=by
 by_cases hb:b∈fs
 ·exact u.slot b ob q n hb hx
 ·exact⟨ob.slots,u.keep b ob q n hb hx⟩
theorem Un.kept (k:∀ b u,h.get? b=some u→h'.get? b=some u):Un fs ex H H h h':=
 ⟨fun b ob q _ _ _=>k b ob q,fun b ob q _ _ _=>⟨ob.slots,k b ob q⟩,fun _ _ _ n _=>n,fun b ob q _=>⟨ob,k b ob q⟩,fun _ _ q=>q,fun _ _ _ q=>q,fun _ ps q=>⟨#[],by rw[q];simp⟩⟩
theorem Un.refl:Un fs ex H H h h:=Un.kept fun _ _ q=>q
theorem Un.laid (k:∀ b u,h.get? b=some u→h'.get? b=some u)(hp:h.objs.size≤a)(hn:H a=none):Un fs ex H (upd H a o) h h' where
 keep:=fun b u q _ _ _=>k b u q
 slot:=fun b u q _ _ _=>⟨u.slots,k b u q⟩
 free:=fun b u q n _=>by rw[AR (Nat.ne_of_lt (Nat.lt_of_lt_of_le (Heap.lt_size q) hp))];exact n
 there:=fun b u q _=>⟨u,k b u q⟩
 tups:=fun b xs q=>by rw[AR (AX q hn)];exact q
 frzs:=fun b u xs q=>by rw[AR (AX q hn)];exact q
 tbls:=fun b ps q=>⟨#[],by rw[AR (AX q hn),q];simp⟩
theorem Un.write (mu:Uf (H x))(he:e=x∨H e=some (.own x))(k:∀ b u,b≠e→h.get? b=some u→h'.get? b=some u)(heo:∃ u,h'.get? e=some u):Un fs ex H (upd H x o) h h':=by
 have hx:∀ b,H b=none→b≠x:=fun b n z=>by subst z;rw[n]at mu;exact mu
 have hb:∀ b,H b=none→b≠e:=fun b n z=>by
  subst z
  rcases he with r | r
  ·exact hx b n r
  ·rw[n]at r;cases r
 have hm:∀ b u,H b=some u→¬ Uf (some u)→b≠x:=fun b u q nm z=>by subst z;rw[q]at mu;exact nm mu
 refine⟨fun b u q n _ _=>k b u (hb b n) q,fun b u q n _ _=>⟨u.slots,k b u (hb b n) q⟩,fun b u q n _=>by rw[AR (hx b n)];exact n,fun b u q _=>?_,
  fun b xs q=>by rw[AR (hm b _ q fun z=>z)];exact q,fun b u xs q=>by rw[AR (hm b _ q fun z=>z)];exact q,fun b ps q=>⟨#[],by rw[AR (hm b _ q fun z=>z),q];simp⟩⟩
 by_cases hbe:b=e
 ·subst hbe;exact heo
 ·exact⟨u,k b u hbe q⟩
end
def trk (h:Heap)(H:Hp):List Addr:=(List.range h.objs.size).filter fun a=>(H a).isSome
def HU (h:Heap)(H:Hp):Heap:=PySem.W.hideAll h (trk h H)
theorem JX (h:Heap)(H:Hp):(HU h H).objs.size=h.objs.size:=PySem.W.hideAll_size _ _
theorem Kv {h:Heap}{H:Hp}{b:Addr}{o:Obj}(e:h.get? b=some o)(n:H b=none):(HU h H).get? b=some o:=
 PySem.W.hideAll_get _ e fun hm=>by
  have q:(H b).isSome=true:=(List.mem_filter.mp hm).2
  rw[n]at q;simp at q
theorem M9 {h:Heap}{H:Hp}{b:Addr}{o:Obj}(e:(HU h H).get? b=some o):h.get? b=some o∧H b=none:=by
 have e':h.get? b=some o:=PySem.W.of_hideAll (trk h H) e
 refine⟨e',?_⟩
 cases q:H b with
 | none=>rfl
 | some x=>
  have hm:b∈trk h H:=List.mem_filter.mpr ⟨List.mem_range.mpr (Heap.lt_size e'),by simp[q]⟩
  have z:(HU h H).get? b=none:=PySem.W.hideAll_none (trk h H) hm
  rw[z]at e;cases e
def RG (g h:Heap)(L:Addr):List (Addr×Obj):=(List.range h.objs.size).filterMap fun a=>if a=L∨(g.get? a).isSome=true then none else(h.get? a).map fun o=>(a,o)
def BH (g h:Heap)(L d:Addr):List (Addr×Obj):=(RG g h L).filter fun p=>decide (p.1≠d)
structure Mod (K:PySem.W.Frag)(mg:Str→Option Value)(base:Heap):Prop where
 kin:K.In base
 glob:base.Ns mainGlobals mg
 blt:∃ mb,base.Ns builtinsNs mb∧∀ x:Str,x≠"__name__"→mb x=bootBuiltins x
 nolimit:base.NoLimit
structure Cx where
 prog:Program
 w:World
 K:PySem.W.Frag
 mg:Str→Option Value
 base:Heap
 A:Around
 N:List Str
 s₀:Shared
 H₀:Hp
 env:Env
 outer:List Env
 stack:List Env
 ex:List Addr
 fn:Str→Bool
 calm:Bool
 pn:List (Addr×Obj)
 xe:Value→Shared→Prop
def Hm (l:List Env):List Addr:=l.filterMap (·.frame)
abbrev Cx.fs (X:Cx):List Addr:=Hm X.outer
def Xg (sc:Scope)(x:Str):Prop:=sc.names.lookup x=some .local∨sc.names.lookup x=some .cell∨sc.names.lookup x=some .free
def WQ (sc:Scope)(x:Str):Prop:=sc.names.lookup x=some .local∨sc.names.lookup x=some .cell
def Wb (env:Env)(h:Heap)(m:Str→Option Value)(x:Str)(u:Value):Prop:=
 (env.kindOf x=some .local∧m x=some u)∨((env.kindOf x=some .cell∨env.kindOf x=some .free)∧∃ c,env.cells.lookup x=some c∧h.IsCell c (some u))
structure Cx.Ok (X:Cx):Prop where
 mod:Mod X.K X.mg X.base
 kind:X.env.scope.kind=.function
 glob:X.env.globals=mainGlobals
 blt:X.env.builtins=builtinsNs
 above:X.s₀.heap.objs.size≤X.env.locals
 inj:∀ x y c,X.env.cells.lookup x=some c→X.env.cells.lookup y=some c→x=y
 has:∀ x,(X.env.kindOf x=some .cell∨X.env.kindOf x=some .free)→∃ c,X.env.cells.lookup x=some c
 cab:∀ x c,X.fn x=true→X.env.cells.lookup x=some c→X.s₀.heap.objs.size≤c
 hd:X.calm=true→X.A.handled=none
 frames:X.A.frames=some X.stack
 stk:X.stack=X.outer∨(X.stack=X.env::X.outer∧X.env.frame=some X.env.locals)
 exf:∀ b∈X.ex,b≠X.env.locals∧∀ x c,X.env.cells.lookup x=some c→c≠b
 bs:∀ b o,X.base.get? b=some o→X.s₀.heap.get? b=some o∧X.H₀ b=none
 bsz:X.base.objs.size≤X.s₀.heap.objs.size
 noex:∀ b o,X.base.get? b=some o→b∉X.ex
 exfs:∀ b∈X.ex,b∉X.fs
 funs:X.s₀.heap.FunFrames X.base X.outer
 frf:∀ b∈X.fs,X.H₀ b=none
structure Af (X:Cx)(pins:List (Addr×Obj))(σ:List (Option V))(H:Hp)(s:Shared):Prop where
 ok:X.Ok
 os:s.os=X.s₀.os
 bare:AllBare s.gens
 base:Un X.fs X.ex X.H₀ H X.s₀.heap s.heap
 loc:∃ m,s.heap.Ns X.env.locals m∧∀(i:Nat) (x:Str) (v:V),X.N[i]?=some x→σ[i]?=some (some v)→Xg X.env.scope x→∃ u,Ai v u∧Wb X.env s.heap m x u
 cell:∀ x c,X.env.cells.lookup x=some c→∃ v,s.heap.IsCell c v
 free:H X.env.locals=none
 freeC:∀ x c,X.env.cells.lookup x=some c→H c=none
 pin:∀ p∈X.pn++pins,s.heap.get? p.1=some p.2∧H p.1=none∧p.1≠X.env.locals∧p.1∉X.fs∧∀ v,p.2.data≠.cell v
 hok:Eh X.prog X.w H s.heap
 len:σ.length=X.N.length
section
variable {X:Cx}{pins:List (Addr×Obj)}{σ:List (Option V)}{H H':Hp}{s:Shared}{h':Heap}
theorem Cx.Ok.nofr (ok:X.Ok){b:Addr}{o:Obj}(e:X.base.get? b=some o):b∉X.fs:=fun hb=>by
 have:=(ok.funs.mem hb).1
 rw[e]at this;cases this
theorem Af.bs (I:Af X pins σ H s):∀ b o,X.base.get? b=some o→s.heap.get? b=some o∧H b=none:=fun b o e=>
 ⟨I.base.keep b o (I.ok.bs b o e).1 (I.ok.bs b o e).2 (I.ok.nofr e) (I.ok.noex b o e),I.base.free b o (I.ok.bs b o e).1 (I.ok.bs b o e).2 (I.ok.noex b o e)⟩
theorem Af.bk (I:Af X pins σ H s):∀ b o,X.base.get? b=some o→s.heap.get? b=some o:=fun b o e=>(I.bs b o e).1
theorem Af.mod (I:Af X pins σ H s):Mod X.K X.mg X.base:=I.ok.mod
theorem Af.kIn (I:Af X pins σ H s):X.K.In s.heap:=I.ok.mod.kin.keeps I.bk
theorem Af.lt (I:Af X pins σ H s):X.env.locals<s.heap.objs.size:=by
 obtain⟨_,hn,_⟩:=I.loc
 exact hn.lt
theorem Af.sz (I:Af X pins σ H s):X.s₀.heap.objs.size≤s.heap.objs.size:=Nat.le_trans I.ok.above (Nat.le_of_lt I.lt)
theorem Af.nofs (I:Af X pins σ H s){a:Addr}(h:s.heap.objs.size≤a):a∉X.fs:=fun hb=>by
 obtain⟨_,o,ho,_⟩:=I.ok.funs.mem hb
 exact absurd (Nat.lt_of_lt_of_le (Heap.lt_size ho) (Nat.le_trans I.sz h)) (Nat.lt_irrefl _)
theorem Af.cne (I:Af X pins σ H s):∀ x c,X.env.cells.lookup x=some c→c≠X.env.locals:=fun x c e z=>by
 obtain⟨v,o,ho,hd⟩:=I.cell x c e
 obtain⟨m,⟨o',es,ep,ho',hd',_⟩,_⟩:=I.loc
 rw[z,ho']at ho;cases ho;rw[hd']at hd;cases hd
theorem Af.funs (I:Af X pins σ H s):s.heap.FunFrames X.base X.outer:=by
 have all:∀(l:List Env),(∀ b∈Hm l,b∈X.fs)→X.s₀.heap.FunFrames X.base l→s.heap.FunFrames X.base l:=by
  intro l
  induction l with
  | nil=>intro _ _;trivial
  | cons env r ih=>
   intro hs hl
   obtain⟨hk,⟨L,o,hf,hn,ho,hd⟩,hr⟩:=hl
   have hL:L∈X.fs:=hs L (by unfold Hm;rw[List.filterMap_cons,hf];exact List.mem_cons_self)
   obtain⟨sl,e⟩:=I.base.slot L o ho (I.ok.frf L hL) hL fun z=>I.ok.exfs L z hL
   exact⟨hk,⟨L,_,hf,hn,e,hd⟩,ih (fun b hb=>hs b (by unfold Hm;rw[List.filterMap_cons,hf];exact List.mem_cons_of_mem _ hb)) hr⟩
 exact all X.outer (fun _ hb=>hb) I.ok.funs
theorem Af.stack (I:Af X pins σ H s):s.heap.FunFrames X.base X.stack:=by
 rcases I.ok.stk with e | ⟨e,hf⟩
 ·rw[e];exact I.funs
 ·rw[e]
  obtain⟨m,hn,_⟩:=I.loc
  refine .cons (by rw[I.ok.kind];decide) hf hn ?_ I.funs
  exact Heap.get?_none_of_le (Nat.le_trans I.ok.bsz I.ok.above)
theorem Af.stkSub (I:Af X pins σ H s):∀ b∈Hm X.stack,b∈X.env.locals::X.fs:=fun b hb=>by
 rcases I.ok.stk with e | ⟨e,hf⟩
 ·rw[e]at hb;exact List.mem_cons_of_mem _ hb
 ·rw[e]at hb
  unfold Hm at hb
  rw[List.filterMap_cons,hf]at hb
  exact hb
theorem Af.stkFree (I:Af X pins σ H s):∀ b∈Hm X.stack,H b=none:=fun b hb=>by
 rcases List.mem_cons.mp (I.stkSub b hb)with e | hb
 ·rw[e];exact I.free
 ·obtain⟨_,o,ho,_⟩:=I.ok.funs.mem hb
  exact I.base.free b o ho (I.ok.frf b hb) fun z=>I.ok.exfs b z hb
theorem Af.step {g':Array GenState}{t':Nat}{d':Drawn}{ch:List Addr}(I:Af X pins σ H s)
 (hch:∀ b∈ch,(b∈X.ex∨X.s₀.heap.objs.size≤b)∧b≠X.env.locals∧(∀ x c,X.env.cells.lookup x=some c→c≠b)∧∀ p∈X.pn++pins,p.1≠b)
 (keep:∀ b o,b≠X.env.locals→b∉X.fs→b∉ch→s.heap.get? b=some o→H b=none→h'.get? b=some o)
 (slot:∀ b o,b≠X.env.locals→b∈X.fs→b∉ch→s.heap.get? b=some o→H b=none→∃ sl,h'.get? b=some { o with slots:=sl }) (free:∀ b o,b∉ch→s.heap.get? b=some o→H b=none→H' b=none)
 (there:∀ b o,b∉ch→s.heap.get? b=some o→∃ o',h'.get? b=some o')
 (tups:∀ b xs,H b=some (.tup xs)→H' b=some (.tup xs)) (frzs:∀ b o u,H b=some (.frz o u)→H' b=some (.frz o u)) (tbls:∀ b ps,H b=some (.tbl ps)→∃ more,H' b=some (.tbl (ps++more)))
 (ns:∀ m,s.heap.Ns X.env.locals m→h'.Ns X.env.locals m) (hok:Eh X.prog X.w H' h') (hg:AllBare g'):
 Af X pins σ H' { s with heap:=h',gens:=g',drawn:=d',toks:=t' }:=by
 have neL:∀ b o,X.s₀.heap.get? b=some o→b≠X.env.locals:=fun b o e=>Nat.ne_of_lt (Nat.lt_of_lt_of_le (Heap.lt_size e) I.ok.above)
 have neC:∀ b o,X.s₀.heap.get? b=some o→b∉X.ex→b∉ch:=fun b o e hx hb=>by
  rcases(hch b hb).1 with z | z
  ·exact hx z
  ·exact absurd (Nat.lt_of_lt_of_le (Heap.lt_size e) z) (Nat.lt_irrefl _)
 have cellK:∀ x c,X.env.cells.lookup x=some c→∀ v,s.heap.IsCell c v→h'.IsCell c v:=fun x c e v ⟨o,ho,hd⟩=>by
  have nch:c∉ch:=fun z=>(hch c z).2.2.1 x c e rfl
  by_cases hc:c∈X.fs
  ·obtain⟨sl,q⟩:=slot c o (I.cne x c e) hc nch ho (I.freeC x c e)
   exact⟨_,q,hd⟩
  ·exact⟨o,keep c o (I.cne x c e) hc nch ho (I.freeC x c e),hd⟩
 refine⟨I.ok,I.os,hg,⟨fun b o e n hb hx=>?_,fun b o e n hb hx=>?_,fun b o e n hx=>?_,fun b o e hx=>?_,fun b xs e=>tups b xs (I.base.tups b xs e),fun b o xs e=>frzs b o xs (I.base.frzs b o xs e),fun b ps e=>?_⟩,?_,fun x c e=>?_,?_,fun x c e=>?_,fun p hp=>?_,hok,I.len⟩
 ·exact keep b o (neL b o e) hb (neC b o e hx) (I.base.keep b o e n hb hx) (I.base.free b o e n hx)
 ·obtain⟨sl,e1⟩:=I.base.slot b o e n hb hx
  obtain⟨sl',e2⟩:=slot b _ (neL b o e) hb (neC b o e hx) e1 (I.base.free b o e n hx)
  exact⟨sl',e2⟩
 ·obtain⟨o',e1⟩:=I.base.there b o e hx
  exact free b o' (neC b o e hx) e1 (I.base.free b o e n hx)
 ·obtain⟨o',e1⟩:=I.base.there b o e hx
  exact there b o' (neC b o e hx) e1
 ·obtain⟨m1,e1⟩:=I.base.tbls b ps e
  obtain⟨m2,e2⟩:=tbls b _ e1
  exact⟨m1++m2,by rw[e2,Array.append_assoc]⟩
 ·obtain⟨m,hn,hl⟩:=I.loc
  refine⟨m,ns m hn,fun i x v e1 e2 e3=>?_⟩
  obtain⟨u,r,l⟩:=hl i x v e1 e2 e3
  refine⟨u,r,?_⟩
  rcases l with l | ⟨k,c,e,z⟩
  ·exact .inl l
  ·exact .inr ⟨k,c,e,cellK x c e _ z⟩
 ·obtain⟨v,z⟩:=I.cell x c e
  exact⟨v,cellK x c e v z⟩
 ·obtain⟨m,⟨o,_,_,ho,_⟩,_⟩:=I.loc
  exact free _ o (fun z=>(hch _ z).2.1 rfl) ho I.free
 ·obtain⟨v,o,ho,hd⟩:=I.cell x c e
  exact free c o (fun z=>(hch c z).2.2.1 x c e rfl) ho (I.freeC x c e)
 ·obtain⟨e,n,ne,nf,d⟩:=I.pin p hp
  have nch:p.1∉ch:=fun z=>(hch p.1 z).2.2.2 p hp rfl
  exact⟨keep p.1 p.2 ne nf nch e n,free p.1 p.2 nch e n,ne,nf,d⟩
theorem Af.un {t':Nat}(I:Af X pins σ H s)(u:Un X.fs [] H H' s.heap h')(hok:Eh X.prog X.w H' h'):Af X pins σ H' { s with heap:=h',toks:=t' }:=by
 obtain⟨m,⟨o,es,ep,ho,r⟩,_⟩:=id I.loc
 obtain⟨sl,hL⟩:=u.any ho I.free (by simp)
 exact I.step (g':=s.gens) (d':=s.drawn) (ch:=[]) (fun _ z=>nomatch z) (fun b o _ hb _ e n=>u.keep b o e n hb (by simp)) (fun b o _ hb _ e n=>u.slot b o e n hb (by simp)) (fun b o _ e n=>u.free b o e n (by simp)) (fun b o _ e=>u.there b o e (by simp)) u.tups u.frzs u.tbls (fun m' hm=>by
  obtain⟨o',es',ep',ho',r'⟩:=hm
  rw[ho]at ho';cases ho'
  exact⟨_,es',ep',hL,r'⟩) hok I.bare
theorem Af.call {g':Array GenState}{t':Nat}{d':Drawn}{ch:List Addr}(I:Af X pins σ H s)(u:Un (Hm X.stack) ch H H' s.heap h')(hok:Eh X.prog X.w H' h')(hg:AllBare g')
 (hch:∀ b∈ch,(b∈X.ex∨X.s₀.heap.objs.size≤b)∧b≠X.env.locals∧(∀ x c,X.env.cells.lookup x=some c→c≠b)∧∀ p∈X.pn++pins,p.1≠b):
 Af X pins σ H' { s with heap:=h',gens:=g',drawn:=d',toks:=t' }:=by
 obtain⟨m,⟨o,es,ep,ho,r⟩,_⟩:=id I.loc
 obtain⟨sl,hL⟩:=u.any ho I.free fun z=>(hch _ z).2.1 rfl
 exact I.step (ch:=ch) hch (fun b o hL hb hc e n=>u.keep b o e n (fun z=>(List.mem_cons.mp (I.stkSub b z)).elim hL hb) hc) (fun b o _ _ hc e n=>u.any e n hc) (fun b o hc e n=>u.free b o e n hc) (fun b o hc e=>u.there b o e hc) u.tups u.frzs u.tbls (fun m' hm=>by
  obtain⟨o',es',ep',ho',r'⟩:=hm
  rw[ho]at ho';cases ho'
  exact⟨_,es',ep',hL,r'⟩) hok hg
theorem Af.turned {t':Nat}{it:Addr}(I:Af X pins σ H s)(k:∀ b o,b≠it→s.heap.get? b=some o→h'.get? b=some o)(hn:H it=none)(hL:it≠X.env.locals)
 (h1:it∈X.ex∨X.s₀.heap.objs.size≤it) (h2:∀ x c,X.env.cells.lookup x=some c→c≠it) (h3:∀ p∈X.pn++pins,p.1≠it):Af X pins σ H { s with heap:=h',toks:=t' }:=by
 have nit:∀ b u,H b=some u→b≠it:=fun b u e z=>by rw[z,hn]at e;cases e
 refine I.step (g':=s.gens) (d':=s.drawn) (ch:=[it]) (fun b hb=>?_) (fun b o _ _ hc e _=>k b o (fun z=>hc (by simp[z])) e) (fun b o _ _ hc e _=>⟨o.slots,k b o (fun z=>hc (by simp[z])) e⟩) (fun _ _ _ _ n=>n)
  (fun b o hc e=>⟨o,k b o (fun z=>hc (by simp[z])) e⟩) (fun _ _ e=>e) (fun _ _ _ e=>e) (fun b ps e=>⟨#[],by rw[e];simp⟩) (fun m hm=>?_) (fun b u e=>?_) I.bare
 ·have e:b=it:=by simpa using hb
  subst e
  exact⟨h1,hL,h2,h3⟩
 ·obtain⟨o,es,ep,ho,r⟩:=hm
  exact⟨o,es,ep,k _ o (Ne.symm hL) ho,r⟩
 ·refine(I.hok b u e).stay (fun c v hc q=>k c v ?_ q) (fun _ q=>q) fun _ _ q=>q
  rcases hc with z | z
  ·rw[z];exact nit b u e
  ·exact nit c _ z
theorem Af.tok (I:Af X pins σ H s)(t:Nat):Af X pins σ H { s with toks:=t }:=I.un (h':=s.heap) (t':=t) Un.refl I.hok
theorem Af.kept {t':Nat}(I:Af X pins σ H s)(k:∀ b u,s.heap.get? b=some u→h'.get? b=some u):Af X pins σ H { s with heap:=h',toks:=t' }:=I.un (Un.kept k) (I.hok.kept k)
theorem Af.laid {a:Addr}{o:HO}{t':Nat}(I:Af X pins σ H s)(k:∀ b u,s.heap.get? b=some u→h'.get? b=some u)(hp:s.heap.objs.size≤a)(new:A6 X.prog X.w (upd H a o) h' a o):
 Af X pins σ (upd H a o) { s with heap:=h',toks:=t' }:=I.un (Un.laid k hp (I.hok.fresh hp)) (I.hok.laid k hp new)
theorem Af.write {x e:Addr}{o:HO}{t':Nat}(I:Af X pins σ H s)(mu:Uf (H x))(he:e=x∨H e=some (.own x))(k:∀ b u,b≠e→s.heap.get? b=some u→h'.get? b=some u)(heo:∃ u,h'.get? e=some u)
 (new:A6 X.prog X.w (upd H x o) h' x o):Af X pins σ (upd H x o) { s with heap:=h',toks:=t' }:=I.un (Un.write mu he k heo) (I.hok.write mu he k heo new)
theorem Af.pins_of {pins':List (Addr×Obj)}(I:Af X pins σ H s)(h:∀ p∈pins',s.heap.get? p.1=some p.2∧H p.1=none∧p.1≠X.env.locals∧p.1∉X.fs∧∀ v,p.2.data≠.cell v):Af X pins' σ H s:=
 ⟨I.ok,I.os,I.bare,I.base,I.loc,I.cell,I.free,I.freeC,fun p hp=>(List.mem_append.mp hp).elim (fun z=>I.pin p (List.mem_append_left _ z)) (h p),I.hok,I.len⟩
theorem Kw {N:List Str}(hN:N.Nodup){i j:Nat}{x:Str}(a:N[i]?=some x)(b:N[j]?=some x):i=j:=by
 obtain⟨h1,e1⟩:=List.getElem?_eq_some_iff.mp a
 obtain⟨h2,e2⟩:=List.getElem?_eq_some_iff.mp b
 exact(List.getElem_inj hN).mp (e1.trans e2.symm)
theorem JY {M:Model}{A:Around}{E:Value→Shared→Prop}{i:Nat}{x:Str}{v:V}{u:Value}{Q:Unit→Shared→Prop}(I:Af X pins σ H s)(hN:X.N.Nodup)(hi:X.N[i]?=some x)(hx:WQ X.env.scope x)(r:Ai v u)
 (h:∀ s',Af X pins (σ.set i (some v)) H s'→(∃ a,Heap.SameBut a s.heap s'.heap∧(a=X.env.locals∨X.env.cells.lookup x=some a))→Q () s') (hf:X.fn x=true∨X.env.scope.names.lookup x=some .local:=by first | exact .inl rfl | exact .inr rfl | assumption):wpAny M A (storeName X.env x u) Q E s:=by
 obtain⟨m,hn,hl⟩:=id I.loc
 have hcls:(X.env.scope.kind==.class||(X.env.scope.kind==.module&&X.env.locals != X.env.globals))=false:=by rw[I.ok.kind];rfl
 have hiσ:i<σ.length:=by rw[I.len];exact(List.getElem?_eq_some_iff.mp hi).1
 have cne:=I.cne
 have tracked:∀{a:Addr} {h':Heap},(∃ o,s.heap.get? a=some o∧H a=none)→Heap.SameBut a s.heap h'→Eh X.prog X.w H h':=fun {a h'} ha hs b ob e=>by
  obtain⟨_,_,hfree⟩:=ha
  refine(I.hok b ob e).stay (fun c w' hc q=>(hs.2 c ?_).trans q) (fun _ q=>q) fun _ _ q=>q
  rintro rfl
  rcases hc with rfl | hc
  ·rw[hfree]at e;cases e
  ·rw[hfree]at hc;cases hc
 rcases hx with hk | hk
 ·refine wpAny_storeName_local hk hn (fun h' hn' hs=>?_) hcls
  obtain⟨oL,_,_,hoL,_⟩:=id hn
  refine h _ ⟨I.ok,I.os,I.bare,⟨fun b o e n hb hx=>?_,fun b o e n hb hx=>?_,I.base.free,fun b o e hx=>?_,I.base.tups,I.base.frzs,I.base.tbls⟩,⟨_,hn',fun j y v' e1 e2 e3=>?_⟩,fun y c e=>?_,I.free,I.freeC,fun p hp=>?_,tracked ⟨oL,hoL,I.free⟩ hs,by simpa using I.len⟩ ⟨_,hs,.inl rfl⟩
  ·exact(hs.2 b (Nat.ne_of_lt (Nat.lt_of_lt_of_le (Heap.lt_size e) I.ok.above))).trans (I.base.keep b o e n hb hx)
  ·obtain⟨sl,e1⟩:=I.base.slot b o e n hb hx
   exact⟨sl,(hs.2 b (Nat.ne_of_lt (Nat.lt_of_lt_of_le (Heap.lt_size e) I.ok.above))).trans e1⟩
  ·obtain⟨o',e1⟩:=I.base.there b o e hx
   exact⟨o',(hs.2 b (Nat.ne_of_lt (Nat.lt_of_lt_of_le (Heap.lt_size e) I.ok.above))).trans e1⟩
  ·by_cases hj:j=i
   ·subst hj
    rw[hi]at e1;cases e1
    rw[List.getElem?_set_self hiσ]at e2
    cases e2
    exact⟨u,r,.inl ⟨hk,by simp⟩⟩
   ·rw[List.getElem?_set_ne (Ne.symm hj)]at e2
    obtain⟨u',r',q⟩:=hl j y v' e1 e2 e3
    refine⟨u',r',?_⟩
    rcases q with⟨k,e⟩ | ⟨k,c,e,z⟩
    ·refine .inl ⟨k,?_⟩
     have:y≠x:=fun e=>hj (Kw hN e1 (e▸hi))
     simp[this,e]
    ·exact .inr ⟨k,c,e,z.sameBut hs (cne y c e)⟩
  ·obtain⟨w',z⟩:=I.cell y c e
   exact⟨w',z.sameBut hs (cne y c e)⟩
  ·obtain⟨e,n,ne,nf,d⟩:=I.pin p hp
   exact⟨(hs.2 p.1 ne).trans e,n,ne,nf,d⟩
 ·have hfn:X.fn x=true:=by
   rcases hf with z | z
   ·exact z
   ·rw[z]at hk;cases hk
  obtain⟨c,hc⟩:=I.ok.has x (.inl hk)
  obtain⟨w',z⟩:=I.cell x c hc
  refine wpAny_storeName_cell I.ok.kind hk hc z (fun h' hc' hs=>?_)
  obtain⟨oc,hoc,hocd⟩:=id z
  refine h { s with heap:=h' } ⟨I.ok,I.os,I.bare,⟨fun b o e n hb hx=>?_,fun b o e n hb hx=>?_,I.base.free,fun b o e hx=>?_,I.base.tups,I.base.frzs,I.base.tbls⟩,⟨m,hn.sameBut hs (Ne.symm (cne x c hc)),fun j y v' e1 e2 e3=>?_⟩,fun y c' e=>?_,I.free,I.freeC,fun p hp=>?_,tracked ⟨oc,hoc,I.freeC x c hc⟩ hs,by simpa using I.len⟩ ⟨c,hs,.inr hc⟩
  ·exact(hs.2 b (Nat.ne_of_lt (Nat.lt_of_lt_of_le (Heap.lt_size e) (I.ok.cab x c hfn hc)))).trans (I.base.keep b o e n hb hx)
  ·obtain⟨sl,e1⟩:=I.base.slot b o e n hb hx
   exact⟨sl,(hs.2 b (Nat.ne_of_lt (Nat.lt_of_lt_of_le (Heap.lt_size e) (I.ok.cab x c hfn hc)))).trans e1⟩
  ·obtain⟨o',e1⟩:=I.base.there b o e hx
   exact⟨o',(hs.2 b (Nat.ne_of_lt (Nat.lt_of_lt_of_le (Heap.lt_size e) (I.ok.cab x c hfn hc)))).trans e1⟩
  ·by_cases hj:j=i
   ·subst hj
    rw[hi]at e1;cases e1
    rw[List.getElem?_set_self hiσ]at e2
    cases e2
    exact⟨u,r,.inr ⟨.inl hk,c,hc,hc'⟩⟩
   ·rw[List.getElem?_set_ne (Ne.symm hj)]at e2
    obtain⟨u',r',q⟩:=hl j y v' e1 e2 e3
    refine⟨u',r',?_⟩
    rcases q with q | ⟨k,c',e,z'⟩
    ·exact .inl q
    ·refine .inr ⟨k,c',e,z'.sameBut hs ?_⟩
     rintro rfl
     exact hj (Kw hN e1 (I.ok.inj _ _ _ e hc▸hi))
  ·by_cases hcc:c'=c
   ·subst hcc;exact⟨_,hc'⟩
   ·obtain⟨w2,z2⟩:=I.cell y c' e
    exact⟨w2,z2.sameBut hs hcc⟩
  ·obtain⟨e,n,ne,nf,d⟩:=I.pin p hp
   refine⟨(hs.2 p.1 ?_).trans e,n,ne,nf,d⟩
   intro q
   rw[q,hoc]at e
   have q':oc=p.2:=Option.some.inj e
   exact d w' (by rw[← q'];exact hocd)
theorem Kx {M:Model}{A:Around}{E:Value→Shared→Prop}{i:Nat}{x:Str}{v:V}{u:Value}{Q:Unit→Shared→Prop}(I:Af X pins σ H s)(hN:X.N.Nodup)(hi:X.N[i]?=some x)(hx:WQ X.env.scope x)(r:Ai v u)
 (h:∀ s',Af X pins (σ.set i (some v)) H s'→Q () s') (hf:X.fn x=true∨X.env.scope.names.lookup x=some .local:=by first | exact .inl rfl | exact .inr rfl | assumption):wpAny M A (storeName X.env x u) Q E s:=
 JY I hN hi hx r (fun s' I' _=>h s' I') hf
theorem Af.call' {s':Shared}{ch:List Addr}(I:Af X pins σ H s)(ho:s'.os=s.os)(u:Un (Hm X.stack) ch H H' s.heap s'.heap)(hok:Eh X.prog X.w H' s'.heap)(hg:AllBare s'.gens)
 (hch:∀ b∈ch,(b∈X.ex∨X.s₀.heap.objs.size≤b)∧b≠X.env.locals∧(∀ x c,X.env.cells.lookup x=some c→c≠b)∧∀ p∈X.pn++pins,p.1≠b):Af X pins σ H' s':=by
 obtain⟨h',g',d',t',o'⟩:=s'
 have e:o'=s.os:=ho
 subst e
 exact I.call (g':=g') (t':=t') (d':=d') u hok hg hch
end
abbrev XK:=Value→Option Addr→Hp→Prop
abbrev St:=List (Option V)
abbrev VK:=V→Hp→Prop
abbrev TE:=St→Hp→VK→Prop
abbrev TT:=St→Hp→(Bool→Hp→Prop)→Prop
abbrev TA:=St→Hp→(List V→Hp→Prop)→Prop
structure IF where
 nx:St→Hp→Prop
 rt:VK
 bk:St→Hp→Prop:=fun _ _=>False
 ct:St→Hp→Prop:=fun _ _=>False
abbrev TS:=IF→St→Hp→Prop
def EP (X:Cx)(pins:List (Addr×Obj))(σ:St)(Q:VK)(u:Value)(s':Shared):Prop:=∃ v H',Af X pins σ H' s'∧Ai v u∧Q v H'
def TP (X:Cx)(pins:List (Addr×Obj))(σ:St)(Q:Bool→Hp→Prop)(b:Bool)(s':Shared):Prop:=∃ H',Af X pins σ H' s'∧Q b H'
def AP (X:Cx)(pins:List (Addr×Obj))(σ:St)(Q:List V→Hp→Prop)(us:List Value)(s':Shared):Prop:=∃ vs H',Af X pins σ H' s'∧Am vs us∧Q vs H'
def SP (X:Cx)(pins:List (Addr×Obj))(D:IF)(f:Flow)(s':Shared):Prop:=
 match f with
 | .next=>∃ σ' H',Af X pins σ' H' s'∧D.nx σ' H'
 | .brk=>∃ σ' H',Af X pins σ' H' s'∧D.bk σ' H'
 | .cont=>∃ σ' H',Af X pins σ' H' s'∧D.ct σ' H'
 | .ret u=>∃ v σ' H',Af X pins σ' H' s'∧Ai v u∧D.rt v H'
def PE (X:Cx)(e:Expr)(t:TE):Prop:=
 ∀(pins:List (Addr×Obj)) (s:Shared) (σ:St) (H:Hp) (Q:VK),Af X pins σ H s→t σ H Q→wpAny (model X.prog X.w) X.A (eval e X.env) (EP X pins σ Q) X.xe s
def PT (X:Cx)(e:Expr)(t:TT):Prop:=
 ∀(pins:List (Addr×Obj)) (s:Shared) (σ:St) (H:Hp) (Q:Bool→Hp→Prop),Af X pins σ H s→t σ H Q→wpAny (model X.prog X.w) X.A (isTrue e X.env (eval e X.env)) (TP X pins σ Q) X.xe s
def PW (X:Cx)(e:Expr)(t:TT):Prop:=
 ∀(whole:Sem Value) (pins:List (Addr×Obj)) (s:Shared) (σ:St) (H:Hp) (Q:Bool→Hp→Prop),Af X pins σ H s→t σ H Q→wpAny (model X.prog X.w) X.A (isTrue e X.env whole) (TP X pins σ Q) X.xe s
theorem PW.pt {X:Cx}{e:Expr}{t:TT}(h:PW X e t):PT X e t:=h _
def PA (X:Cx)(es:List Expr)(t:TA):Prop:=
 ∀(pos:Pos) (pins:List (Addr×Obj)) (s:Shared) (σ:St) (H:Hp) (Q:List V→Hp→Prop),Af X pins σ H s→t σ H Q→wpAny (model X.prog X.w) X.A (spliced (backTo pos (starEach es X.env))) (AP X pins σ Q) X.xe s
def PS (X:Cx)(st:Stmt)(t:TS):Prop:=
 ∀(pins:List (Addr×Obj)) (s:Shared) (σ:St) (H:Hp) (D:IF),Af X pins σ H s→t D σ H→wpAny (model X.prog X.w) X.A (exec st X.env) (SP X pins D) X.xe s
def Ky (X:Cx)(st:List Stmt)(t:TS):Prop:=
 ∀(pins:List (Addr×Obj)) (s:Shared) (σ:St) (H:Hp) (D:IF),Af X pins σ H s→t D σ H→wpAny (model X.prog X.w) X.A (execs st X.env) (SP X pins D) X.xe s
theorem BI {α:Type}{t:Sem α}{Q Q':α→Shared→Prop}{M:Model}{A:Around}{E:Value→Shared→Prop}{s:Shared}(h:wpAny M A t Q E s)(hQ:∀ a s,Q a s→Q' a s):wpAny M A t Q' E s:=wpAny_mono h hQ fun _ _ x=>x
section
variable {X:Cx}
def S1 (i:Nat):TE:=fun σ H Q=>∃ v,σ[i]?=some (some v)∧Q v H
def tC (v:V):TE:=fun _ H Q=>Q v H
theorem S2 {i:Nat}{x:Str}{pos:Pos}(hN:X.N[i]?=some x)(hv:Xg X.env.scope x)(hd:(x==("__debug__":Str))=false:=by decide)(hcd:(x==("__classdict__":Str))=false:=by decide):PE X (.Name x pos) (S1 i):=by
 intro pins s σ H Q I h
 obtain⟨v,e,h⟩:=h
 obtain⟨m,hn,hl⟩:=I.loc
 obtain⟨u,r,l⟩:=hl i x v hN e hv
 have fin:EP X pins σ Q u s:=⟨v,H,I,r,h⟩
 rcases l with⟨hk,hm⟩ | ⟨hk,c,hc,hcell⟩
 ·exact wpAny_Name (wpAny_loadName_local I.ok.kind hk hn hm fin) hd
 ·rcases hk with hk | hk
  ·exact wpAny_Name (wpAny_loadName_cell I.ok.kind hk hc hcell fin) hd
  ·exact wpAny_Name (wpAny_loadName_free I.ok.kind hk hc hcell fin hcd) hd
theorem AD {i j pos}:PE X (.Constant (.int i) j pos) (tC (.int i)):=fun _ _ _ H _ I h=>wpAny_Constant_int ⟨.int i,H,I.tok _,⟨_,rfl⟩,h⟩
theorem BJ {b j pos}:PE X (.Constant (.bool b) j pos) (tC (.bl b)):=fun _ _ _ H _ I h=>Constant_bool ⟨.bl b,H,I,rfl,h⟩
theorem Co {j pos}:PE X (.Constant .none j pos) (tC .non):=fun _ _ _ H _ I h=>Constant_none ⟨.non,H,I,rfl,h⟩
theorem AS {x j pos}:PE X (.Constant (.str x) j pos) (tC (.str x)):=fun _ _ _ H _ I h=>Calls.Constant_str ⟨.str x,H,I.tok _,⟨_,rfl⟩,h⟩
def Gl (X:Cx)(x:Str):Prop:=X.env.kindOf x=some .globalImplicit
theorem FL {E:Value→Shared→Prop}{pins:List (Addr×Obj)}{s:Shared}{σ:St}{H:Hp}{x:Str}{u:Value}{pos:Pos}{Q:Value→Shared→Prop}(I:Af X pins σ H s)(hg:Gl X x)(hm:X.mg x=some u)(h:Q u s)
 (hd:(x==("__debug__":Str))=false:=by decide):wpAny (model X.prog X.w) X.A (eval (.Name x pos) X.env) Q E s:=
 Calls.Name_function_global I.ok.kind hg (Calls.loadGlobal_global (by rw[I.ok.glob];exact I.mod.glob.keeps I.bk) hm h) hd
theorem Dp {E:Value→Shared→Prop}{pins:List (Addr×Obj)}{s:Shared}{σ:St}{H:Hp}{x:Str}{u:Value}{pos:Pos}{Q:Value→Shared→Prop}(I:Af X pins σ H s)(hg:Gl X x)(hm:X.mg x=none)(hv:bootBuiltins x=some u)(h:Q u s)
 (hn:x≠"__name__":=by decide) (hd:(x==("__debug__":Str))=false:=by decide):wpAny (model X.prog X.w) X.A (eval (.Name x pos) X.env) Q E s:=by
 obtain⟨mb,h1,h2⟩:=I.mod.blt
 exact Calls.Name_function_global I.ok.kind hg (Calls.loadGlobal_builtin (by rw[I.ok.glob];exact I.mod.glob.keeps I.bk) hm (by rw[I.ok.blt];exact h1.keeps I.bk) ((h2 x hn).trans hv) h) hd
theorem Jx {x:Str}{v:V}{u:Value}{pos:Pos}(hg:Gl X x)(hm:X.mg x=some u)(r:Ai v u)(hd:(x==("__debug__":Str))=false:=by decide):PE X (.Name x pos) (tC v):=
 fun _ _ _ H _ I h=>FL I hg hm ⟨v,H,I,r,h⟩ hd
theorem RH {x:Str}{v:V}{u:Value}{pos:Pos}(hg:Gl X x)(hm:X.mg x=none)(hv:bootBuiltins x=some u)(r:Ai v u)(hn:x≠"__name__":=by decide)(hd:(x==("__debug__":Str))=false:=by decide):PE X (.Name x pos) (tC v):=
 fun _ _ _ H _ I h=>Dp I hg hm hv ⟨v,H,I,r,h⟩ hn hd
variable {a b:Expr}{ta tb:TE}{pos:Pos}
def tB (t:TE):TT:=fun σ H Q=>t σ H fun x H1=>∃ c,x=.bl c∧Q c H1
theorem Az {e:Expr}{t:TE}(h:PE X e t)(he:∀ whole,isTrue e X.env whole=(do let v ← whole;standAt e.pos;holding [v] (truthy v)):=by intro _;rfl):PT X e (tB t):=by
 intro pins s σ H Q I hw
 refine isTrue_plain (BI (h pins s σ H _ I hw) fun v s1 zq=>?_) (he _)
 obtain⟨x,H1,I1,r1,q1⟩:=zq
 obtain⟨d,rfl,q⟩:=q1
 cases r1
 exact wpAny_truthy_bool ⟨H1,I1,q⟩
variable {tA tB':TT}{BH:List Expr}
def X1 (t u:TT):TT:=fun σ H Q=>t σ H fun c H1=>if c=true then Q true H1 else u σ H1 Q
def Wc (t:TT):TT:=fun σ H Q=>t σ H fun c H1=>Q (!c) H1
theorem Bf (ha:PT X a tA):PW X (.BoolOp .Or [a] pos) tA:=by
 intro wh pins s σ H Q I h
 refine isTrue_or (BI (ha pins s σ H Q I h) fun c s1 e=>?_)
 cases c with
 | false=>exact isTrue_or_nil e
 | true=>exact e
theorem Be (ha:PT X a tA)(hb:PW X (.BoolOp .Or (b::BH) pos) tB'):PW X (.BoolOp .Or (a::b::BH) pos) (X1 tA tB'):=by
 intro wh pins s σ H Q I h
 refine isTrue_or (BI (ha pins s σ H _ I h) fun c s1 zq=>?_)
 obtain⟨H1,I1,q1⟩:=zq
 cases c with
 | true=>exact⟨H1,I1,q1⟩
 | false=>exact hb wh pins s1 σ H1 Q I1 q1
theorem A2 (ha:PT X a tA):PT X (.UnaryOp .Not a pos) (Wc tA):=by
 intro pins s σ H Q I h
 exact isTrue_not (ha pins s σ H (fun c H1=>Q (!c) H1) I h)
def Ug (ta tb:TE):TE:=fun σ H Q=>ta σ H fun x H1=>∃ c,x=.bl c∧if c=true then tb σ H1 Q else Q (.bl false) H1
def Wd (ta tb:TE):TE:=fun σ H Q=>ta σ H fun x H1=>∃ c,x=.bl c∧if c=true then Q (.bl true) H1 else tb σ H1 Q
def Uh (ta:TE):TE:=fun σ H Q=>ta σ H fun x H1=>∃ c,x=.bl c∧Q (.bl (!c)) H1
theorem As {op}{t:TE}(h:PE X a t):PE X (.BoolOp op [a] pos) t:=fun pins s σ H Q I hw=>BoolOp_one (h pins s σ H Q I hw)
theorem An (ha:PE X a ta)(hb:PE X (.BoolOp .And (b::BH) pos) tb):PE X (.BoolOp .And (a::b::BH) pos) (Ug ta tb):=by
 intro pins s σ H Q I h
 refine BoolOp_and (BI (ha pins s σ H _ I h) fun v s1 zq=>?_)
 obtain⟨x,H1,I1,r1,q1⟩:=zq
 obtain⟨c,rfl,q1⟩:=q1
 cases r1
 refine wpAny_truthy_bool ?_
 cases c with
 | true=>exact hb pins s1 σ H1 Q I1 q1
 | false=>exact⟨.bl false,H1,I1,rfl,q1⟩
theorem SR (ha:PE X a ta)(hb:PE X (.BoolOp .Or (b::BH) pos) tb):PE X (.BoolOp .Or (a::b::BH) pos) (Wd ta tb):=by
 intro pins s σ H Q I h
 refine BoolOp_or (BI (ha pins s σ H _ I h) fun v s1 zq=>?_)
 obtain⟨x,H1,I1,r1,q1⟩:=zq
 obtain⟨c,rfl,q1⟩:=q1
 cases r1
 refine wpAny_truthy_bool ?_
 cases c with
 | false=>exact hb pins s1 σ H1 Q I1 q1
 | true=>exact⟨.bl true,H1,I1,rfl,q1⟩
theorem Oz (ha:PE X a ta):PE X (.UnaryOp .Not a pos) (Uh ta):=by
 intro pins s σ H Q I h
 refine UnaryOp_ (BI (ha pins s σ H _ I h) fun v s1 zq=>?_)
 obtain⟨x,H1,I1,r1,q1⟩:=zq
 obtain⟨c,rfl,q1⟩:=q1
 cases r1
 exact not_of (wpAny_truthy_bool ⟨.bl (!c),H1,I1,rfl,q1⟩)
def X2 (t:TT)(ta tb:TE):TE:=fun σ H Q=>t σ H fun c H1=>if c=true then ta σ H1 Q else tb σ H1 Q
theorem Ej {c:Expr}(hc:PT X c tA)(ha:PE X a ta)(hb:PE X b tb):PE X (.IfExp c a b pos) (X2 tA ta tb):=by
 intro pins s σ H Q I h
 refine wpAny_IfExp (BI (hc pins s σ H _ I h) fun d s1 zq=>?_)
 obtain⟨H1,I1,q1⟩:=zq
 cases d with
 | true=>exact ha pins s1 σ H1 Q I1 q1
 | false=>exact hb pins s1 σ H1 Q I1 q1
end
def At (K:PySem.W.Frag)(H:Hp)(a:Addr)(xs:List V):Prop:=
 Rd H a (.lst xs)∨
  ∃(o:Obj) (its:Array Value) (n:Nat),K.lookup a=some o∧o.cls=.type "list"∧o.dict=none∧o.data=.seq its n∧its.size≤sizeLine∧Am xs its.toList
def Ae (K:PySem.W.Frag)(H:Hp)(a:Addr)(xs:List V):Prop:=
 Rd H a (.tup xs)∨
  ∃(o:Obj) (its:Array Value) (n:Nat),K.lookup a=some o∧o.cls=.type "tuple"∧o.data=.seq its n∧its.size≤sizeLine∧Am xs its.toList
def We:Value→Option V
 | .none=>some .non
 | .bool b=>some (.bl b)
 | .int i _=>some (.int i)
 | .str x _=>some (.str x)
 | .bytes b _=>some (.byt b)
 | .float b _=>some (.flt b)
 | .ref a=>some (.ref a)
 | .type n=>some (.ty n)
 | _=>none
theorem Ai.abs {x:V}{u:Value}(r:Ai x u):We u=some x:=by
 cases x with
 | non=>cases r;rfl
 | bl _=>cases r;rfl
 | int _=>obtain⟨t,rfl⟩:=r;rfl
 | str _=>obtain⟨t,rfl⟩:=r;rfl
 | byt _=>obtain⟨t,rfl⟩:=r;rfl
 | flt _=>obtain⟨t,rfl⟩:=r;rfl
 | ref _=>cases r;rfl
 | ty _=>cases r;rfl
theorem Ai.inj {x y:V}{u:Value}(r:Ai x u)(q:Ai y u):x=y:=Option.some.inj (r.abs.symm.trans q.abs)
theorem Am.inj:∀{xs ys:List V} {us:List Value},Am xs us→Am ys us→xs=ys:=by
 intro A B C h g
 induction h generalizing B with
 | nil=>
  cases g
  rfl
 | cons r t ih=>
  cases g with
  | cons r' t'=>rw[r.inj r',ih t']
section
variable {X:Cx}{pins:List (Addr×Obj)}{σ:St}{H:Hp}{s:Shared}{a:Addr}{xs ys:List V}
theorem At.of {K:PySem.W.Frag}(h:H a=some (.lst xs)):At K H a xs:=.inl (.inl h)
theorem Ae.of {K:PySem.W.Frag}(h:H a=some (.tup xs)):Ae K H a xs:=.inl (.inl h)
theorem Af.list (I:Af X pins σ H s)(h:At X.K H a xs):∃ its:List Value,Am xs its∧PlainL s.heap a its.toArray∧xs.length≤sizeLine:=by
 rcases h with h | ⟨o,its,n,hk,hc,hd,hs,hz,r⟩
 ·obtain⟨z,its,n,r,e⟩:=h.ok I.hok
  exact⟨its,r,⟨_,n,e,rfl,rfl,rfl⟩,z⟩
 ·refine⟨its.toList,r,⟨o,n,I.kIn a o hk,hc,hd,by simpa using hs⟩,?_⟩
  have e:=r.length
  simp only[Array.length_toList]at e
  omega
theorem Af.tuple (I:Af X pins σ H s)(h:Ae X.K H a xs):∃ its:List Value,Am xs its∧IsTup s.heap a its.toArray∧xs.length≤sizeLine:=by
 rcases h with h | ⟨o,its,n,hk,hc,hs,hz,r⟩
 ·obtain⟨z,its,r,p⟩:=h.ok I.hok
  exact⟨its,r,p,z⟩
 ·refine⟨its.toList,r,⟨o,I.kIn a o hk,hc,n,by simpa using hs⟩,?_⟩
  have e:=r.length
  simp only[Array.length_toList]at e
  omega
theorem Af.list_inj (I:Af X pins σ H s)(h:At X.K H a xs)(h':At X.K H a ys):xs=ys:=by
 obtain⟨its,r,⟨o,n,e,_,_,d⟩,_⟩:=I.list h
 obtain⟨its',r',⟨o',n',e',_,_,d'⟩,_⟩:=I.list h'
 rw[e]at e';cases e'
 rw[d]at d'
 injection d' with d1 _
 have:its=its':=by simpa using congrArg Array.toList d1
 subst this
 exact r.inj r'
theorem Af.tuple_inj (I:Af X pins σ H s)(h:Ae X.K H a xs)(h':Ae X.K H a ys):xs=ys:=by
 obtain⟨its,r,⟨o,e,_,n,d⟩,_⟩:=I.tuple h
 obtain⟨its',r',⟨o',e',_,n',d'⟩,_⟩:=I.tuple h'
 rw[e]at e';cases e'
 rw[d]at d'
 injection d' with d1 _
 have:its=its':=by simpa using congrArg Array.toList d1
 subst this
 exact r.inj r'
end
abbrev Cx.wish (X:Cx)(E:Value→Shared→Prop):Cx:={ X with xe:=E }
abbrev Cx.nox (X:Cx):Cx:=X.wish fun _ _=>False
theorem Cx.Ok.wish {X:Cx}(ok:X.Ok)(E:Value→Shared→Prop):(X.wish E).Ok:=
 ⟨ok.mod,ok.kind,ok.glob,ok.blt,ok.above,ok.inj,ok.has,ok.cab,ok.hd,ok.frames,ok.stk,ok.exf,ok.bs,ok.bsz,ok.noex,ok.exfs,ok.funs,ok.frf⟩
theorem Cx.Ok.unwish {X:Cx}{E:Value→Shared→Prop}(ok:(X.wish E).Ok):X.Ok:=
 ⟨ok.mod,ok.kind,ok.glob,ok.blt,ok.above,ok.inj,ok.has,ok.cab,ok.hd,ok.frames,ok.stk,ok.exf,ok.bs,ok.bsz,ok.noex,ok.exfs,ok.funs,ok.frf⟩
section
variable {X:Cx}{pins:List (Addr×Obj)}{σ:St}{H:Hp}{s:Shared}{E:Value→Shared→Prop}
theorem Af.wish (I:Af X pins σ H s)(E:Value→Shared→Prop):Af (X.wish E) pins σ H s:=⟨I.ok.wish E,I.os,I.bare,I.base,I.loc,I.cell,I.free,I.freeC,I.pin,I.hok,I.len⟩
theorem Af.unwish (I:Af (X.wish E) pins σ H s):Af X pins σ H s:=⟨I.ok.unwish,I.os,I.bare,I.base,I.loc,I.cell,I.free,I.freeC,I.pin,I.hok,I.len⟩
theorem SP.unwish {D:IF}{f:Flow}{s':Shared}(h:SP (X.wish E) pins D f s'):SP X pins D f s':=by
 cases f with
 | next=>obtain⟨σ',H',I,q⟩:=h;exact⟨σ',H',I.unwish,q⟩
 | brk=>obtain⟨σ',H',I,q⟩:=h;exact⟨σ',H',I.unwish,q⟩
 | cont=>obtain⟨σ',H',I,q⟩:=h;exact⟨σ',H',I.unwish,q⟩
 | ret u=>obtain⟨v,σ',H',I,r,q⟩:=h;exact⟨v,σ',H',I.unwish,r,q⟩
theorem Ky.nox {st:List Stmt}{t:TS}(h:Ky X.nox st t):Ky X st t:=fun pins s σ H D I hw=>
 wpAny_mono (h pins s σ H D (I.wish _) hw) (fun _ _ q=>q.unwish) fun _ _ z=>False.elim z
end
section
variable {X:Cx}{st:Stmt}{BH:List Stmt}{t u:TS}{e:Expr}{te:TE}{pos:Pos}
def Ui:TS:=fun D σ H=>D.nx σ H
def Uj (t u:TS):TS:=fun D σ H=>t { D with nx:=u D } σ H
theorem AY:Ky X [] Ui:=fun _ _ σ H _ I h=>wpAny_execs_nil ⟨σ,H,I,h⟩
theorem AE (h1:PS X st t)(h2:Ky X BH u):Ky X (st::BH) (Uj t u):=by
 intro pins s σ H D I h
 refine wpAny_execs_cons (BI (h1 pins s σ H { D with nx:=u D } I h) fun f s1 q=>?_)
 cases f with
 | next=>
  obtain⟨σ',H',I',q⟩:=q
  exact h2 pins s1 σ' H' D I' q
 | ret v=>exact q
 | brk=>exact q
 | cont=>exact q
theorem AG (h1:PS X st t):Ky X [st] t:=by
 intro pins s σ H D I h
 refine wpAny_execs_cons (BI (h1 pins s σ H D I h) fun f s1 q=>?_)
 cases f with
 | next=>exact wpAny_execs_nil q
 | ret v=>exact q
 | brk=>exact q
 | cont=>exact q
theorem Af.quiet {pins:List (Addr×Obj)}{σ:St}{H:Hp}{s:Shared}(I:Af X pins σ H s):interactive X.env=false:=by simp[interactive,I.ok.kind]
def Uk (te:TE):TS:=fun D σ H=>te σ H fun _ H1=>D.nx σ H1
theorem Dc (he:PE X e te)(hs:swapsWith e none pos.line X.env=pure false:=by rfl):PS X (.Expr e pos) (Uk te):=by
 intro pins s σ H D I h
 exact wpAny_Expr_any (BI (he pins s σ H _ I h) fun v s1 ⟨x,H1,I1,r1,q1⟩=>⟨σ,H1,I1,q1⟩) I.quiet hs
def Wf (te:TE):TS:=fun D σ H=>te σ H D.rt
theorem AK (he:PE X e te):PS X (.Return (some e) pos) (Wf te):=by
 intro pins s σ H D I h
 exact wpAny_Return_some (BI (he pins s σ H _ I h) fun v s1 ⟨x,H1,I1,r1,q1⟩=>⟨x,σ,H1,I1,r1,q1⟩)
def Wg (c:TT)(t u:TS):TS:=fun D σ H=>c σ H fun b H1=>if b=true then t D σ H1 else u D σ H1
theorem Ak {c:Expr}{a b:List Stmt}{tc:TT}(hc:PT X c tc)(ha:Ky X a t)(hb:Ky X b u):PS X (.If c a b pos) (Wg tc t u):=by
 intro pins s σ H D I h
 refine wpAny_If (BI (hc pins s σ H _ I h) fun d s1 zq=>?_)
 obtain⟨H1,I1,q1⟩:=zq
 cases d with
 | true=>exact ha pins s1 σ H1 D I1 q1
 | false=>exact hb pins s1 σ H1 D I1 q1
def S3:TS:=fun _ _ _=>False
theorem Dy:PS X st S3:=fun _ _ _ _ _ _ h=>h.elim
end
abbrev TG:=V→St→Hp→(St→Hp→Prop)→Prop
abbrev RI:=List V→St→Hp→(St→Hp→Prop)→Prop
def PG (X:Cx)(target:Expr)(t:TG):Prop:=
 ∀(pins:List (Addr×Obj)) (s:Shared) (σ:St) (H:Hp) (v:V) (u:Value) (Q:St→Hp→Prop),Af X pins σ H s→Ai v u→t v σ H Q→
  wpAny (model X.prog X.w) X.A (assign target X.env u) (fun _ s'=>∃ σ' H',Af X pins σ' H' s'∧Q σ' H') X.xe s
def UX (X:Cx)(ts:List Expr)(t:RI):Prop:=
 ∀(pins:List (Addr×Obj)) (s:Shared) (σ:St) (H:Hp) (vs:List V) (us:List Value) (Q:St→Hp→Prop),Af X pins σ H s→Am vs us→t vs σ H Q→
  wpAny (model X.prog X.w) X.A (assignInOrder ((assignEach ts X.env).map (·.2)) us) (fun _ s'=>∃ σ' H',Af X pins σ' H' s'∧Q σ' H') X.xe s
abbrev S4:=V→V→V→Hp→(Hp→Prop)→Prop
def Ul (X:Cx)(t:S4):Prop:=
 ∀(pins:List (Addr×Obj)) (s:Shared) (σ:St) (H:Hp) (o i v:V) (ov iv u:Value) (Q:Hp→Prop),Af X pins σ H s→Ai o ov→Ai i iv→Ai v u→t o i v H Q→
  wpAny (model X.prog X.w) X.A (setItem ov iv u) (fun _ s'=>∃ H',Af X pins σ H' s'∧Q H') X.xe s
section
variable {X:Cx}{pos:Pos}
def JZ (i:Nat):TG:=fun v σ H Q=>Q (σ.set i (some v)) H
theorem Bg {i:Nat}{x:Str}(hN:X.N.Nodup)(hi:X.N[i]?=some x)(hx:WQ X.env.scope x)(hf:X.fn x=true∨X.env.scope.names.lookup x=some .local:=by first | exact .inl rfl | exact .inr rfl | assumption):PG X (.Name x pos) (JZ i):=by
 intro pins s σ H v u Q I r h
 exact wpAny_assign_Name (Kx I hN hi hx r (fun s' I'=>⟨_,H,I',h⟩) hf)
def Wh:RI:=fun vs σ H Q=>vs=[]∧Q σ H
def Um (t:TG)(u:RI):RI:=fun vs σ H Q=>∃ v r,vs=v::r∧t v σ H fun σ' H'=>u r σ' H' Q
theorem NA:UX X [] Wh:=by
 intro pins s σ H vs us Q I r h
 obtain⟨e,h⟩:=h
 subst e
 cases r
 exact assignInOrder_nil ⟨σ,H,I,h⟩
theorem Ek {e:Expr}{es:List Expr}{t:TG}{u:RI}(h1:PG X e t)(h2:UX X es u)
 (hs:(assignEach (e::es) X.env).map (·.2)=assign e X.env::(assignEach es X.env).map (·.2):=by rfl):UX X (e::es) (Um t u):=by
 intro pins s σ H vs us Q I r h
 obtain⟨v,vr,e1,h⟩:=h
 subst e1
 cases r with
 | cons r rr=>
  rw[hs]
  refine assignInOrder_cons (BI (h1 pins s σ H _ _ _ I r h) fun _ s1 zq=>?_)
  obtain⟨σ1,H1,I1,q1⟩:=zq
  exact h2 pins s1 σ1 H1 _ _ Q I1 rr q1
def Wi (K:PySem.W.Frag)(n:Nat)(t:RI):TG:=fun v σ H Q=>∃ a xs,v=.ref a∧Ae K H a xs∧xs.length=n∧t xs σ H Q
theorem S5 {es:List Expr}{k:Nat}{t:RI}{n:Nat}(hc:X.calm=true)(h:UX X es t)
 (hn:(assignEach es X.env).length=n:=by rfl) (hst:(assignEach es X.env).findIdx? (·.1)=none:=by rfl):PG X (.Tuple es k pos) (Wi X.K n t):=by
 intro pins s σ H v u Q I r hw
 obtain⟨a,xs,e1,hq,hl,hw⟩:=hw
 subst e1
 cases r
 obtain⟨its,rv,ht,hz⟩:=I.tuple hq
 refine assign_Tuple_tuple (I.ok.hd hc) ht (by simp[hn,← hl,rv.length]) hst fun h' hx=>?_
 have I1:Af X pins σ H { s with heap:=h' }:=I.kept (t':=s.toks) fun b o e=>hx b o (Nat.ne_of_lt (Heap.lt_size e)) e
 exact h pins _ σ H xs _ Q I1 (by simpa using rv) hw
def Wj (to ti:TE)(t:S4):TG:=fun v σ H Q=>to σ H fun o H1=>ti σ H1 fun i H2=>t o i v H2 fun H3=>Q σ H3
theorem L4 {o i:Expr}{to ti:TE}{t:S4}(ho:PE X o to)(hi:PE X i ti)(hs:Ul X t)
 (ha:∀ v,assign (.Subscript o i pos) X.env v=(do
  let ov ← holding [v] (eval o X.env)
  let iv ← holding [v,ov] (eval i X.env)
  standAt pos
  holding [v,ov,iv] (setItem ov iv v)
  release [v,ov,iv] []):=by intro _;rfl):PG X (.Subscript o i pos) (Wj to ti t):=by
 intro pins s σ H v u Q I r h
 rw[ha]
 refine wpAny_bind (wpAny_holding (BI (ho pins s σ H _ I h) fun ov s1 zq=>?_))
 obtain⟨x,H1,I1,r1,q1⟩:=zq
 refine wpAny_bind (wpAny_holding (BI (hi pins s1 σ H1 _ I1 q1) fun iv s2 zq=>?_))
 obtain⟨y,H2,I2,r2,q2⟩:=zq
 refine wpAny_bind (wpAny_standAt (wpAny_bind (wpAny_holding (BI (hs pins s2 σ H2 x y v ov iv u _ I2 r1 r2 r q2) fun _ s3 zq=>?_))))
 obtain⟨H3,I3,q3⟩:=zq
 exact wpAny_release ⟨σ,H3,I3,q3⟩
def S6 (te:TE)(g:TG):TS:=fun D σ H=>te σ H fun x H1=>g x σ H1 D.nx
theorem Jy {tg e:Expr}{te:TE}{g:TG}(he:PE X e te)(hg:PG X tg g)(hs:swapsWithSole [tg] e pos.line X.env=pure false:=by rfl)(hw:swappedStores [tg] e X.env=pure none:=by rfl)
 (h1:(assignEach [tg] X.env).map (·.2)=[assign tg X.env]:=by rfl):PS X (.Assign [tg] e pos) (S6 te g):=by
 intro pins s σ H D I h
 refine wpAny_Assign_stores (BI (he pins s σ H _ I h) fun v s1 zq=>?_) hs hw
 obtain⟨x,H1,I1,r1,q1⟩:=zq
 rw[h1]
 exact BI (hg pins s1 σ H1 x v _ I1 r1 q1) fun _ s2 q=>q
theorem Ag {i:Nat}{x:Str}{e:Expr}{te:TE}{pos':Pos}(hN:X.N.Nodup)(hi:X.N[i]?=some x)(hx:WQ X.env.scope x)(he:PE X e te)(hs:swapsWith e (some (.Name x pos')) pos.line X.env=pure false:=by rfl)(hf:X.fn x=true∨X.env.scope.names.lookup x=some .local:=by first | exact .inl rfl | exact .inr rfl | assumption):
 PS X (.Assign [.Name x pos'] e pos) (S6 te (JZ i)):=by
 intro pins s σ H D I h
 refine wpAny_Assign_Name (BI (he pins s σ H _ I h) fun v s1 zq=>?_) hs
 obtain⟨y,H1,I1,r1,q1⟩:=zq
 exact Kx I1 hN hi hx r1 (fun s2 I2=>⟨_,H1,I2,q1⟩) hf
end
section
variable {X:Cx}{pos:Pos}
def O0 (c:TT)(tb:TS):TS:=fun D σ H=>∃ W:Nat→St→Hp→Prop,(∃ m,W m σ H)∧∀ m σ H,W m σ H→
 c σ H fun b H1=>if b=true then ∃ N:St→Hp→Prop,(∀ σ' H',N σ' H'→∃ m',m'<m∧W m' σ' H')∧tb { D with nx:=N,ct:=N,bk:=D.nx } σ H1 else D.nx σ H1
theorem Kz {c:Expr}{body:List Stmt}{tc:TT}{tb:TS}(hp:PassesOwn (model X.prog X.w) X.A X.env X.xe)(hc:PT X c tc)(hb:Ky X body tb):PS X (.While c body [] pos) (O0 tc tb):=by
 intro pins s σ H D I h
 obtain⟨W,⟨m0,w0⟩,turn⟩:=h
 refine wpAny_While (codeAny_whileLoop (fun n s'=>∃ σ' H',Af X pins σ' H' s'∧W n σ' H') ?_ m0 ⟨σ,H,I,w0⟩)
 rintro n s1 ⟨σ1,H1,I1,w1⟩
 refine wpAny_passesOwn hp (BI (hc pins s1 σ1 H1 _ I1 (turn n σ1 H1 w1)) fun b s2 zq=>?_)
 obtain⟨H2,I2,q2⟩:=zq
 cases b with
 | true=>
  obtain⟨N,hN,q2⟩:=q2
  rw[if_pos rfl]
  refine wpAny_passesOwn hp (BI (hb pins s2 σ1 H2 _ I2 q2) fun f s3 q3=>?_)
  cases f with
  | next=>
   obtain⟨σ3,H3,I3,n3⟩:=q3
   obtain⟨m',hm,w3⟩:=hN σ3 H3 n3
   exact⟨m',hm,σ3,H3,I3,w3⟩
  | cont=>
   obtain⟨σ3,H3,I3,n3⟩:=q3
   obtain⟨m',hm,w3⟩:=hN σ3 H3 n3
   exact⟨m',hm,σ3,H3,I3,w3⟩
  | brk=>exact q3
  | ret v=>exact q3
 | false=>
  rw[if_neg Bool.false_ne_true]
  exact wpAny_execs_nil ⟨σ1,H2,I2,q2⟩
end
structure It where
 go:Nat→Hp→Prop
 yld:Nat→Hp→V→Hp→Prop
 stop:Nat→Hp→Prop
def EK (X:Cx)(pins:List (Addr×Obj))(H:Hp)(b:Addr):Prop:=
 H b=none∧b≠X.env.locals∧b∉X.fs∧(b∈X.ex∨X.s₀.heap.objs.size≤b)∧(∀ x c,X.env.cells.lookup x=some c→c≠b)∧∀ p∈X.pn++pins,p.1≠b
theorem Af.fpOk {X:Cx}{pins:List (Addr×Obj)}{σ:St}{H H':Hp}{s:Shared}{b:Addr}(I:Af X pins σ H s)(hb:s.heap.objs.size≤b)(hn:H' b=none):EK X pins H' b:=by
 refine⟨hn,Nat.ne_of_gt (Nat.lt_of_lt_of_le I.lt hb),I.nofs hb,.inr (Nat.le_trans I.sz hb),fun x c e z=>?_,fun p hp z=>?_⟩
 ·obtain⟨v,q⟩:=I.cell x c e
  exact absurd (Nat.lt_of_lt_of_le q.lt (by rw[z];exact hb)) (Nat.lt_irrefl _)
 ·exact absurd (Nat.lt_of_lt_of_le (Heap.lt_size (I.pin p hp).1) (by rw[z];exact hb)) (Nat.lt_irrefl _)
structure N2 (P:Program)(w:World)(K:PySem.W.Frag)(tg:Expr)(J:It)(fp:List Addr)(it:Addr)(tn:Nat→Heap→Prop):Prop where
 mem:it∈fp
 obj:∀ i h,tn i h→∀ b∈fp,∃ o,h.get? b=some o∧∀ v,o.data≠.cell v
 keep:∀ i h h',tn i h→(∀ b∈fp,∀ o,h.get? b=some o→h'.get? b=some o)→tn i h'
 item:∀(X:Cx),X.prog=P→X.w=w→X.K=K→X.calm=true→∀(i:Nat) (pins:List (Addr×Obj)) (s:Shared) (σ:St) (H:Hp) (E:Value→Shared→Prop),Af X pins σ H s→(∀ b∈fp,EK X pins H b)→tn i s.heap→J.go i H→
  wpAny (model P w) X.A (pyNext (.ref it)) (fun r s1=>∃ u,r=some u∧
   wpAny (model P w) X.A (letOwnedTupleGo tg (.ref it) u) (fun _ s2=>∃ x H',Af X pins σ H' s2∧Ai x u∧J.yld i H x H'∧tn (i+1) s2.heap∧∀ b∈fp,H' b=none) E s1) E s
 done:∀(X:Cx),X.prog=P→X.w=w→X.K=K→X.calm=true→∀(i:Nat) (pins:List (Addr×Obj)) (s:Shared) (σ:St) (H:Hp) (E:Value→Shared→Prop),Af X pins σ H s→(∀ b∈fp,EK X pins H b)→tn i s.heap→J.stop i H→
  wpAny (model P w) X.A (pyNext (.ref it)) (fun r s1=>r=none∧Af X pins σ H s1) E s
 self:∀(A:Around) (i:Nat) (s:Shared) (Q:Value→Shared→Prop) (E:Value→Shared→Prop),tn i s.heap→Q (.ref it) s→wpAny (model P w) A (pyIter (.ref it)) Q E s
abbrev TI:=St→Hp→(It→Hp→Prop)→Prop
def Xh (X:Cx)(pins:List (Addr×Obj))(σ:St)(tg:Expr)(R:It→Hp→Prop)(itv:Value)(s2:Shared):Prop:=
 ∃(it:Addr) (fp:List Addr) (tn:Nat→Heap→Prop) (J:It) (H':Hp),itv=.ref it∧Af X pins σ H' s2∧N2 X.prog X.w X.K tg J fp it tn∧tn 0 s2.heap∧(∀ b∈fp,EK X pins H' b)∧R J H'
def PI (X:Cx)(tg iter:Expr)(wi:TI):Prop:=
 ∀(pins:List (Addr×Obj)) (s:Shared) (σ:St) (H:Hp) (R:It→Hp→Prop),Af X pins σ H s→wi σ H R→
  wpAny (model X.prog X.w) X.A (eval iter X.env) (fun v s1=>wpAny (model X.prog X.w) X.A (pyIter v) (Xh X pins σ tg R) X.xe s1) X.xe s
theorem NB {M:Model}{A:Around}{E:Value→Shared→Prop}{s:Shared}{tg:Expr}{it:Addr}{u:Value}{o:Obj}{n:String}{vs:Array Value}{Q:Unit→Shared→Prop}(ho:s.heap.get? it=some o)(hc:o.cls=.type n)(hd:o.data=.fields vs)
 (hn:["enumerate","zip","dict_itemiterator","dict_reverseitemiterator","odict_iterator","itertools.zip_longest","itertools.pairwise"].contains n=false) (hQ:Q () s):wpAny M A (letOwnedTupleGo tg (.ref it) u) Q E s:=by
 unfold letOwnedTupleGo
 cases tg <;> first
  | exact wpAny_pure hQ
  | (cases u <;> first
   | exact wpAny_pure hQ
   | (refine wpAny_bind (wpAny_load ho ?_)
      rw[hc,hd]
      show wpAny M A (if(["enumerate","zip","dict_itemiterator","dict_reverseitemiterator","odict_iterator","itertools.zip_longest","itertools.pairwise"].contains n&&vs[0]?==some (rawInt _))=true then _ else _) Q E s
      rw[if_neg (by intro h;rw[hn,Bool.false_and]at h;cases h)]
      exact wpAny_pure hQ))
def Uo (K:PySem.W.Frag)(a:Addr):It:=
 ⟨fun i H=>∃ xs x,At K H a xs∧xs[i]?=some x,fun i H x H'=>H'=H∧∀ xs,At K H a xs→xs[i]?=some x,fun i H=>∃ xs,At K H a xs∧xs.length≤i⟩
def Uq (K:PySem.W.Frag)(a:Addr):It:=
 ⟨fun i H=>∃ xs x,Ae K H a xs∧xs[i]?=some x,fun i H x H'=>H'=H∧∀ xs,Ae K H a xs→xs[i]?=some x,fun i H=>∃ xs,Ae K H a xs∧xs.length≤i⟩
def UY (lo:Int)(n:Nat):It:=⟨fun i _=>i<n,fun i H x H'=>H'=H∧x=.int (lo+i),fun i _=>n≤i⟩
theorem N3 {P:Program}{w:World}{K:PySem.W.Frag}{tg:Expr}(a it:Addr):N2 P w K tg (Uo K a) [it] it (fun i h=>h.IsListIter it a i) where
 mem:=by simp
 obj:=fun i h st b hb=>by
  have e:b=it:=by simpa using hb
  subst e
  obtain⟨o,e,c,d⟩:=st
  exact⟨o,e,fun v z=>by rw[d]at z;cases z⟩
 keep:=fun i h h' st k=>st.at fun o e=>k it (by simp) o e
 item:=by
  intro X hP hw hK hc i pins s σ H E I hf st hg
  subst hP hw hK
  obtain⟨xs,x,hq,hx⟩:=hg
  obtain⟨its,rv,p,hz⟩:=I.list hq
  obtain⟨u,hu,ru⟩:=rv.get hx
  obtain⟨f0,f1,f2,f3,f4,f5⟩:=hf it (by simp)
  refine wpAny_pyNext_list_item st p.isList (x:=u) (by simpa using hu) fun h' st' sb=>?_
  have I1:Af X pins σ H { s with heap:=h' }:=I.turned (t':=s.toks) (fun b o hb e=>(sb.2 b hb).trans e) f0 f1 f3 f4 f5
  obtain⟨o,e,c,d⟩:=id st'
  exact⟨u,rfl,NB (s:={ s with heap:=h' }) e c d (by decide) ⟨x,H,I1,ru,⟨rfl,fun ys hy=>by rw[I.list_inj hy hq];exact hx⟩,st',fun b hb=>(hf b hb).1⟩⟩
 done:=by
  intro X hP hw hK hc i pins s σ H E I hf st hg
  subst hP hw hK
  obtain⟨xs,hq,hx⟩:=hg
  obtain⟨its,rv,p,hz⟩:=I.list hq
  obtain⟨f0,f1,f2,f3,f4,f5⟩:=hf it (by simp)
  have hl:=rv.length
  exact wpAny_pyNext_list_end (I.ok.hd hc) st p.isList (by simp;omega) fun h' eb=>⟨rfl,I.turned (t':=s.toks) (fun b o hb e=>eb b o hb e) f0 f1 f3 f4 f5⟩
 self:=fun _ _ _ _ _ st h=>wpAny_pyIter_listiter st h
theorem L5 {P:Program}{w:World}{K:PySem.W.Frag}{tg:Expr}(a it:Addr):N2 P w K tg (Uq K a) [it] it (fun i h=>h.IsTupleIter it a i) where
 mem:=by simp
 obj:=fun i h st b hb=>by
  have e:b=it:=by simpa using hb
  subst e
  obtain⟨o,e,c,d⟩:=st
  exact⟨o,e,fun v z=>by rw[d]at z;cases z⟩
 keep:=fun i h h' st k=>st.at fun o e=>k it (by simp) o e
 item:=by
  intro X hP hw hK hc i pins s σ H E I hf st hg
  subst hP hw hK
  obtain⟨xs,x,hq,hx⟩:=hg
  obtain⟨its,rv,p,hz⟩:=I.tuple hq
  obtain⟨u,hu,ru⟩:=rv.get hx
  obtain⟨f0,f1,f2,f3,f4,f5⟩:=hf it (by simp)
  refine wpAny_pyNext_tuple_item st (show s.heap.IsTuple a its.toArray from p) (x:=u) (by simpa using hu) fun h' st' sb=>?_
  have I1:Af X pins σ H { s with heap:=h' }:=I.turned (t':=s.toks) (fun b o hb e=>(sb.2 b hb).trans e) f0 f1 f3 f4 f5
  obtain⟨o,e,c,d⟩:=id st'
  exact⟨u,rfl,NB (s:={ s with heap:=h' }) e c d (by decide) ⟨x,H,I1,ru,⟨rfl,fun ys hy=>by rw[I.tuple_inj hy hq];exact hx⟩,st',fun b hb=>(hf b hb).1⟩⟩
 done:=by
  intro X hP hw hK hc i pins s σ H E I hf st hg
  subst hP hw hK
  obtain⟨xs,hq,hx⟩:=hg
  obtain⟨its,rv,p,hz⟩:=I.tuple hq
  obtain⟨f0,f1,f2,f3,f4,f5⟩:=hf it (by simp)
  have hl:=rv.length
  exact wpAny_pyNext_tuple_end (I.ok.hd hc) st (show s.heap.IsTuple a its.toArray from p) (by simp;omega) fun h' eb=>⟨rfl,I.turned (t':=s.toks) (fun b o hb e=>eb b o hb e) f0 f1 f3 f4 f5⟩
 self:=fun _ _ _ _ _ st h=>wpAny_pyIter_tupleiter st h
theorem L6 {P:Program}{w:World}{K:PySem.W.Frag}{tg:Expr}(it:Addr)(lo:Int)(n:Nat):N2 P w K tg (UY lo n) [it] it (fun i h=>IsRangeIter h it (lo+(i:Nat)*1) ((n:Int)-(i:Nat)) 1) where
 mem:=by simp
 obj:=fun i h st b hb=>by
  have e:b=it:=by simpa using hb
  subst e
  exact⟨_,st,fun v z=>by
   have z':Data.fields _=Data.cell v:=z
   cases z'⟩
 keep:=fun i h h' st k=>k it (by simp) _ st
 item:=by
  intro X hP hw hK hc i pins s σ H E I hf st hg
  subst hP hw hK
  obtain⟨f0,f1,f2,f3,f4,f5⟩:=hf it (by simp)
  have W:=Walks.range (prog:=X.prog) (w:=X.w) (I.ok.hd hc) it lo 1 n
  refine W.item i s _ _ hg st fun v h' tk hv st' kk=>?_
  obtain⟨t,rfl⟩:=hv
  have I1:Af X pins σ H { s with heap:=h',toks:=tk }:=I.turned (fun b o hb e=>kk b o (by simpa using hb) e) f0 f1 f3 f4 f5
  refine⟨_,rfl,NB (s:={ s with heap:=h',toks:=tk }) (n:="range_iterator") st' rfl rfl (by decide) ⟨.int (lo+i),H,I1,⟨t,?_⟩,⟨rfl,rfl⟩,st',fun b hb=>(hf b hb).1⟩⟩
  rw[Int.mul_one]
 done:=by
  intro X hP hw hK hc i pins s σ H E I hf st hg
  subst hP hw hK
  obtain⟨f0,f1,f2,f3,f4,f5⟩:=hf it (by simp)
  exact wpAny_pyNext_range_end (I.ok.hd hc) st (by have:n≤i:=hg;omega) fun h' eb=>⟨rfl,I.turned (t':=s.toks) (fun b o hb e=>eb b o hb e) f0 f1 f3 f4 f5⟩
 self:=fun _ _ _ _ _ st h=>wpAny_pyIter_rangeiter st h
section
variable {X:Cx}{tg:Expr}
def Ur (K:PySem.W.Frag)(tl:TE):TI:=fun σ H R=>tl σ H fun x H1=>∃ a,x=.ref a∧(∃ xs,At K H1 a xs)∧R (Uo K a) H1
def Wk (K:PySem.W.Frag)(tl:TE):TI:=fun σ H R=>tl σ H fun x H1=>∃ a,x=.ref a∧(∃ xs,Ae K H1 a xs)∧R (Uq K a) H1
theorem Bt {l:Expr}{tl:TE}(hl:PE X l tl):PI X tg l (Ur X.K tl):=by
 intro pins s σ H R I h
 refine BI (hl pins s σ H _ I h) fun v s1 zq=>?_
 obtain⟨x,H1,I1,r1,q1⟩:=zq
 obtain⟨a,e,⟨xs,hq⟩,q⟩:=q1
 subst e
 cases r1
 obtain⟨its,rv,p,hz⟩:=I1.list hq
 refine wpAny_pyIter_list p.isList ?_
 refine⟨s1.heap.objs.size,[s1.heap.objs.size],_,_,H1,rfl,I1.kept (t':=s1.toks) fun b o e=>Heap.get?_push_of_some _ e,N3 a _,⟨_,Heap.get?_push_size _ rfl,rfl,rfl⟩,fun b hb=>?_,q⟩
 have e:b=s1.heap.objs.size:=by simpa using hb
 subst e
 exact I1.fpOk (Nat.le_refl _) (I1.hok.fresh (Nat.le_refl _))
theorem IG {l:Expr}{tl:TE}(hl:PE X l tl):PI X tg l (Wk X.K tl):=by
 intro pins s σ H R I h
 refine BI (hl pins s σ H _ I h) fun v s1 zq=>?_
 obtain⟨x,H1,I1,r1,q1⟩:=zq
 obtain⟨a,e,⟨xs,hq⟩,q⟩:=q1
 subst e
 cases r1
 obtain⟨its,rv,p,hz⟩:=I1.tuple hq
 refine wpAny_pyIter_tuple (show s1.heap.IsTuple a its.toArray from p) ?_
 refine⟨s1.heap.objs.size,[s1.heap.objs.size],_,_,H1,rfl,I1.kept (t':=s1.toks) fun b o e=>Heap.get?_push_of_some _ e,L5 a _,⟨_,Heap.get?_push_size _ rfl,rfl,rfl⟩,fun b hb=>?_,q⟩
 have e:b=s1.heap.objs.size:=by simpa using hb
 subst e
 exact I1.fpOk (Nat.le_refl _) (I1.hok.fresh (Nat.le_refl _))
theorem O1 {pins:List (Addr×Obj)}{σ:St}{H:Hp}{s:Shared}{R:It→Hp→Prop}{E:Value→Shared→Prop}{lo hi:Int}{t u v:Tok}{tk:Nat}(I:Af X pins σ H s)(h1:-(2 ^ 62)≤lo)(h2:lo<2 ^ 62)(h3:-(2 ^ 62)≤hi)(h4:hi<2 ^ 62)
 (q:R (UY lo (hi-lo).toNat) H):wpAny (model X.prog X.w) X.A (pyIter (.ref s.heap.objs.size)) (Xh X pins σ tg R) E { s with heap:=s.heap.push { cls:=.type "range",data:=.fields #[.int lo t,.int hi u,.int 1 v] },toks:=tk }:=by
 refine wpAny_pyIter_range (IsRange.new ..) (small_one h1 h2 h3 h4) ?_
 have I1:Af X pins σ H { s with heap:=s.heap.push { cls:=.type "range",data:=.fields #[.int lo t,.int hi u,.int 1 v] },toks:=tk }:=I.kept fun b o e=>Heap.get?_push_of_some _ e
 refine⟨(s.heap.push { cls:=.type "range",data:=.fields #[.int lo t,.int hi u,.int 1 v] }).objs.size,[(s.heap.push { cls:=.type "range",data:=.fields #[.int lo t,.int hi u,.int 1 v] }).objs.size],_,_,H,rfl,
  I1.kept (t':=tk) fun b o e=>Heap.get?_push_of_some _ e,L6 _ lo (hi-lo).toNat,?_,fun b hb=>?_,q⟩
 ·have e1:lo+((0:Nat):Int)*1=lo:=by simp
  have e2:(((hi-lo).toNat:Nat):Int)-((0:Nat):Int)=Builtin.Range.rangeSize lo hi 1:=by rw[rangeSize_one];split <;> omega
  show IsRangeIter _ _ (lo+((0:Nat):Int)*1) ((((hi-lo).toNat:Nat):Int)-((0:Nat):Int)) 1
  rw[e1,e2]
  exact Heap.get?_push_size _ rfl
 ·have e:b=(s.heap.push { cls:=.type "range",data:=.fields #[.int lo t,.int hi u,.int 1 v] }).objs.size:=by simpa using hb
  subst e
  exact I1.fpOk (Nat.le_refl _) (I1.hok.fresh (Nat.le_refl _))
def Us (ta:TA):TI:=fun σ H R=>ta σ H fun vs H1=>∃ j:Int,vs=[.int j]∧-(2 ^ 62)≤j∧j<2 ^ 62∧R (UY 0 j.toNat) H1
theorem Ja {a:Expr}{ta:TA}{p pos:Pos}(hg:Gl X "range")(hm:X.mg "range"=none)(ha:PA X [a] ta)(hs:starEach [a] X.env=[(false,eval a X.env)]:=by rfl):PI X tg (.Call (.Name "range" p) [a] [] pos) (Us ta):=by
 intro pins s σ H R I h
 refine Call_ (Dp I hg hm boot_range (PyProof.Rows.callWith_type1 (BI (ha pos pins s σ H _ I h) fun us s1 zq=>?_) hs rfl))
 obtain⟨vs,H1,I1,r1,q1⟩:=zq
 obtain⟨j,e,q1,q2,q⟩:=q1
 subst e
 cases r1 with
 | cons r rr=>
  cases rr
  obtain⟨t,rfl⟩:=r
  exact call_range_1 (O1 I1 (by omega) (by omega) q1 q2 (by simpa using q))
def Wl (wi:TI)(g:TG)(tb:TS):TS:=fun D σ H=>wi σ H fun J H1=>∃ W:Nat→Nat→St→Hp→Prop,(∃ m,W 0 m σ H1)∧∀ i m σ H,W i m σ H→
 (J.stop i H∧D.nx σ H)∨(J.go i H∧∃ N:St→Hp→Prop,(∀ σ' H',N σ' H'→∃ m',m'<m∧W (i+1) m' σ' H')∧∀ x H',J.yld i H x H'→g x σ H' fun σ2 H2=>tb { D with nx:=N,ct:=N,bk:=D.nx } σ2 H2)
def GY (fp:List Addr)(h:Heap):List (Addr×Obj):=fp.filterMap fun b=>(h.get? b).map fun o=>(b,o)
theorem CZ {fp:List Addr}{h:Heap}{b:Addr}{o:Obj}(hb:b∈fp)(e:h.get? b=some o):(b,o)∈GY fp h:=List.mem_filterMap.mpr ⟨b,hb,by rw[e];rfl⟩
theorem N4 {fp:List Addr}{h:Heap}{p:Addr×Obj}(hp:p∈GY fp h):p.1∈fp∧h.get? p.1=some p.2:=by
 obtain⟨b,hb,e⟩:=List.mem_filterMap.mp hp
 cases q:h.get? b with
 | none=>rw[q]at e;cases e
 | some o=>
  rw[q]at e
  have e':(b,o)=p:=Option.some.inj e
  subst e'
  exact⟨hb,q⟩
theorem Af.pinned {pins:List (Addr×Obj)}{σ:St}{H:Hp}{s:Shared}{fp:List Addr}(I:Af X pins σ H s)(hf:∀ b∈fp,EK X pins H b)(ho:∀ b∈fp,∃ o,s.heap.get? b=some o∧∀ v,o.data≠.cell v):Af X (pins++GY fp s.heap) σ H s:=
 I.pins_of fun p hp=>(List.mem_append.mp hp).elim (fun z=>I.pin p (List.mem_append_right _ z)) fun z=>by
  obtain⟨hb,e⟩:=N4 z
  obtain⟨f0,f1,f2,_⟩:=hf p.1 hb
  obtain⟨o,e',d⟩:=ho p.1 hb
  rw[e]at e';cases e'
  exact⟨e,f0,f1,f2,d⟩
theorem Af.unpinned {pins pl:List (Addr×Obj)}{σ:St}{H:Hp}{s:Shared}(I:Af X (pins++pl) σ H s):Af X pins σ H s:=I.pins_of fun p hp=>I.pin p (List.mem_append_right _ (List.mem_append_left _ hp))
theorem EL {iter:Expr}{body:List Stmt}{wi:TI}{g:TG}{tb:TS}{pos:Pos}(hp:PassesOwn (model X.prog X.w) X.A X.env X.xe)(hc:X.calm=true)(hi:PI X tg iter wi)(hg:PG X tg g)(hb:Ky X body tb)
 (hs:∀ x,foldedSetIterable iter X.env x=pure x:=by intro _;rfl):PS X (.For tg iter body [] pos) (Wl wi g tb):=by
 intro pins s σ H D I h
 refine wpAny_For (BI (hi pins s σ H _ I h) fun v s1 h1=>BI h1 fun itv s2 h2=>?_) hs
 obtain⟨it,fp,tn,J,H2,e,I2,T,st2,f2,W,⟨m0,w0⟩,turn⟩:=h2
 subst e
 have stat:∀{H':Hp},(∀ b∈fp,H' b=none)→∀ b∈fp,EK X pins H' b:=fun hn b hb=>⟨hn b hb,(f2 b hb).2⟩
 refine codeAny_forLoop_any (fun n s'=>∃ i σ' H',Af X pins σ' H' s'∧tn i s'.heap∧(∀ b∈fp,H' b=none)∧W i n σ' H') ?_ m0 ⟨0,σ,H2,I2,st2,fun b hb=>(f2 b hb).1,w0⟩
 rintro n s3 ⟨i,σ3,H3,I3,st3,fr3,w3⟩
 rcases turn i n σ3 H3 w3 with⟨stop,qn⟩ | ⟨go,N,hN,step⟩
 ·refine wpAny_passesOwn hp (BI (T.done X rfl rfl rfl hc i pins s3 σ3 H3 X.xe I3 (stat fr3) st3 stop) fun r s4 zq=>?_)
  obtain⟨hr,I4⟩:=zq
  subst hr
  exact wpAny_execs_nil ⟨σ3,H3,I4,qn⟩
 ·refine wpAny_passesOwn hp (BI (T.item X rfl rfl rfl hc i pins s3 σ3 H3 X.xe I3 (stat fr3) st3 go) fun r s4 zq=>?_)
  obtain⟨u,hr,h4⟩:=zq
  subst hr
  refine wpAny_passesOwn hp (BI h4 fun _ s5 zq=>?_)
  obtain⟨x,H5,I5,r5,y5,st5,fr5⟩:=zq
  have I5':=I5.pinned (stat fr5) (T.obj _ _ st5)
  refine wpAny_passesOwn hp (BI (hg _ s5 σ3 H5 x u _ I5' r5 (step x H5 y5)) fun _ s6 zq=>?_)
  obtain⟨σ6,H6,I6,q6⟩:=zq
  refine wpAny_passesOwn hp (BI (hb _ s6 σ6 H6 _ I6 q6) fun f s7 q7=>?_)
  have again:∀{σ7:St} {H7:Hp},Af X (pins++GY fp s5.heap) σ7 H7 s7→N σ7 H7→∃ m,m<n∧∃ i σ' H',Af X pins σ' H' s7∧tn i s7.heap∧(∀ b∈fp,H' b=none)∧W i m σ' H':=fun {σ7 H7} I7 n7=>by
   obtain⟨m',hm,w7⟩:=hN σ7 H7 n7
   refine⟨m',hm,i+1,σ7,H7,I7.unpinned,T.keep _ _ _ st5 fun b hb o e=>(I7.pin (b,o) (List.mem_append_right _ (List.mem_append_right _ (CZ hb e)))).1,fun b hb=>?_,w7⟩
   obtain⟨o,e,d⟩:=T.obj _ _ st5 b hb
   exact(I7.pin (b,o) (List.mem_append_right _ (List.mem_append_right _ (CZ hb e)))).2.1
  cases f with
  | next=>obtain⟨σ7,H7,I7,n7⟩:=q7;exact again I7 n7
  | cont=>obtain⟨σ7,H7,I7,n7⟩:=q7;exact again I7 n7
  | brk=>obtain⟨σ7,H7,I7,q7⟩:=q7;exact⟨σ7,H7,I7.unpinned,q7⟩
  | ret v=>obtain⟨x7,σ7,H7,I7,r7,q7⟩:=q7;exact⟨x7,σ7,H7,I7.unpinned,r7,q7⟩
end
theorem El {K:PySem.W.Frag}{a:Addr}{xs:List V}{g:TG}{tb:TS}{D:IF}{σ:St}{H:Hp}(Pv:Nat→St→Hp→Prop)(h0:Pv 0 σ H)(hl:∀ i σ H,i≤xs.length→Pv i σ H→At K H a xs)
 (hs:∀ i x σ H,xs[i]?=some x→Pv i σ H→g x σ H fun σ2 H2=>tb { D with nx:=Pv (i+1),ct:=Pv (i+1),bk:=D.nx } σ2 H2) (hd:∀ σ H,Pv xs.length σ H→D.nx σ H):
 ∃ W:Nat→Nat→St→Hp→Prop,(∃ m,W 0 m σ H)∧∀ i m σ H,W i m σ H→
  ((Uo K a).stop i H∧D.nx σ H)∨((Uo K a).go i H∧∃ N:St→Hp→Prop,(∀ σ' H',N σ' H'→∃ m',m'<m∧W (i+1) m' σ' H')∧∀ x H',(Uo K a).yld i H x H'→g x σ H' fun σ2 H2=>tb { D with nx:=N,ct:=N,bk:=D.nx } σ2 H2):=by
 refine⟨fun i m σ H=>m=xs.length-i∧i≤xs.length∧Pv i σ H,⟨xs.length,by simp,Nat.zero_le _,h0⟩,?_⟩
 rintro i m σ H ⟨rfl,hi,p⟩
 have q:=hl i σ H hi p
 by_cases hlt:i<xs.length
 ·refine .inr ⟨⟨xs,xs[i],q,by simp[hlt]⟩,Pv (i+1),fun σ' H' p'=>⟨xs.length-(i+1),by omega,rfl,hlt,p'⟩,fun x H' y=>?_⟩
  obtain⟨e,y⟩:=y
  subst e
  exact hs i x σ _ (y xs q) p
 ·have e:i=xs.length:=by omega
  subst e
  exact .inl ⟨⟨xs,q,Nat.le_refl _⟩,hd σ H p⟩
theorem NC {K:PySem.W.Frag}{a:Addr}{xs:List V}{g:TG}{tb:TS}{D:IF}{σ:St}{H:Hp}(Pv:Nat→St→Hp→Prop)(h0:Pv 0 σ H)(hl:∀ i σ H,i≤xs.length→Pv i σ H→Ae K H a xs)
 (hs:∀ i x σ H,xs[i]?=some x→Pv i σ H→g x σ H fun σ2 H2=>tb { D with nx:=Pv (i+1),ct:=Pv (i+1),bk:=D.nx } σ2 H2) (hd:∀ σ H,Pv xs.length σ H→D.nx σ H):
 ∃ W:Nat→Nat→St→Hp→Prop,(∃ m,W 0 m σ H)∧∀ i m σ H,W i m σ H→
  ((Uq K a).stop i H∧D.nx σ H)∨((Uq K a).go i H∧∃ N:St→Hp→Prop,(∀ σ' H',N σ' H'→∃ m',m'<m∧W (i+1) m' σ' H')∧∀ x H',(Uq K a).yld i H x H'→g x σ H' fun σ2 H2=>tb { D with nx:=N,ct:=N,bk:=D.nx } σ2 H2):=by
 refine⟨fun i m σ H=>m=xs.length-i∧i≤xs.length∧Pv i σ H,⟨xs.length,by simp,Nat.zero_le _,h0⟩,?_⟩
 rintro i m σ H ⟨rfl,hi,p⟩
 have q:=hl i σ H hi p
 by_cases hlt:i<xs.length
 ·refine .inr ⟨⟨xs,xs[i],q,by simp[hlt]⟩,Pv (i+1),fun σ' H' p'=>⟨xs.length-(i+1),by omega,rfl,hlt,p'⟩,fun x H' y=>?_⟩
  obtain⟨e,y⟩:=y
  subst e
  exact hs i x σ _ (y xs q) p
 ·have e:i=xs.length:=by omega
  subst e
  exact .inl ⟨⟨xs,q,Nat.le_refl _⟩,hd σ H p⟩
theorem N5 {lo:Int}{n:Nat}{g:TG}{tb:TS}{D:IF}{σ:St}{H:Hp}(Pv:Nat→St→Hp→Prop)(h0:Pv 0 σ H)
 (hs:∀ i σ H,i<n→Pv i σ H→g (.int (lo+i)) σ H fun σ2 H2=>tb { D with nx:=Pv (i+1),ct:=Pv (i+1),bk:=D.nx } σ2 H2) (hd:∀ σ H,Pv n σ H→D.nx σ H):
 ∃ W:Nat→Nat→St→Hp→Prop,(∃ m,W 0 m σ H)∧∀ i m σ H,W i m σ H→
  ((UY lo n).stop i H∧D.nx σ H)∨((UY lo n).go i H∧∃ N:St→Hp→Prop,(∀ σ' H',N σ' H'→∃ m',m'<m∧W (i+1) m' σ' H')∧∀ x H',(UY lo n).yld i H x H'→g x σ H' fun σ2 H2=>tb { D with nx:=N,ct:=N,bk:=D.nx } σ2 H2):=by
 refine⟨fun i m σ H=>m=n-i∧i≤n∧Pv i σ H,⟨n,by simp,Nat.zero_le _,h0⟩,?_⟩
 rintro i m σ H ⟨rfl,hi,p⟩
 by_cases hlt:i<n
 ·refine .inr ⟨hlt,Pv (i+1),fun σ' H' p'=>⟨n-(i+1),by omega,rfl,hlt,p'⟩,fun x H' y=>?_⟩
  obtain⟨e,y⟩:=y
  subst e y
  exact hs i σ _ hlt p
 ·have e:i=n:=by omega
  subst e
  exact .inl ⟨Nat.le_refl _,hd σ H p⟩
theorem O2 {c:TT}{tb:TS}{D:IF}{σ:St}{H:Hp}(Pv:St→Hp→Prop)(μ:St→Hp→Nat)(h0:Pv σ H)
 (hs:∀ σ H,Pv σ H→c σ H fun b H1=>if b=true then tb { D with nx:=fun σ' H'=>Pv σ' H'∧μ σ' H'<μ σ H,ct:=fun σ' H'=>Pv σ' H'∧μ σ' H'<μ σ H,bk:=D.nx } σ H1 else D.nx σ H1)
 (mono:∀ σ H Q Q',(∀ b H1,Q b H1→Q' b H1)→c σ H Q→c σ H Q'):O0 c tb D σ H:=by
 refine⟨fun m σ H=>m=μ σ H∧Pv σ H,⟨_,rfl,h0⟩,?_⟩
 rintro m σ H ⟨rfl,p⟩
 refine mono σ H _ _ (fun b H1 q=>?_) (hs σ H p)
 cases b with
 | true=>exact⟨_,fun σ' H' ⟨p',l⟩=>⟨_,l,rfl,p'⟩,q⟩
 | false=>exact q
abbrev R2:=V→V→Hp→VK→Prop
def FR (X:Cx)(f:Value→Value→Sem Value)(r:R2):Prop:=
 ∀(pins:List (Addr×Obj)) (s:Shared) (σ:St) (H:Hp) (x y:V) (v u:Value) (Q:VK),Af X pins σ H s→Ai x v→Ai y u→r x y H Q→
  wpAny (model X.prog X.w) X.A (f v u) (EP X pins σ Q) X.xe s
def Ci (X:Cx)(f:Value)(r:List V→Hp→VK→Prop):Prop:=
 ∀(pins:List (Addr×Obj)) (s:Shared) (σ:St) (H:Hp) (xs:List V) (us:List Value) (Q:VK),Af X pins σ H s→Am xs us→r xs H Q→
  wpAny (model X.prog X.w) X.A (call f us) (EP X pins σ Q) X.xe s
def Ut (r:R2)(ta tb:TE):TE:=fun σ H Q=>ta σ H fun x H1=>tb σ H1 fun y H2=>r x y H2 Q
def rI (C:Int→Int→Prop)(g:Int→Int→V):R2:=fun x y H Q=>∃ i j,x=.int i∧y=.int j∧C i j∧Q (g i j) H
def SS (g:Int→Int→V):R2:=fun x y H Q=>∃ i j,x=.int i∧y=.int j∧Q (g i j) H
section
variable {X:Cx}{a b c:Expr}{ta tb tc:TE}{pos:Pos}
theorem S7 (ha:PE X a ta)(hb:PE X b tb){pins:List (Addr×Obj)}{s:Shared}{σ:St}{H:Hp}{R:V→V→Hp→Prop}(I:Af X pins σ H s)
 (h:ta σ H fun x H1=>tb σ H1 fun y H2=>R x y H2) {Q:Value→Shared→Prop} {f:Value→Value→Sem Value}
 (hf:∀ v u s2 x y H2,Af X pins σ H2 s2→Ai x v→Ai y u→R x y H2→wpAny (model X.prog X.w) X.A (f v u) Q X.xe s2):
 wpAny (model X.prog X.w) X.A (eval a X.env) (fun v s₁=>wpAny (model X.prog X.w) X.A (eval b X.env) (fun u s₂=>wpAny (model X.prog X.w) X.A (f v u) Q X.xe s₂) X.xe s₁) X.xe s:=by
 refine BI (ha pins s σ H _ I h) fun v s1 zq=>?_
 obtain⟨x,H1,I1,r1,q1⟩:=zq
 refine BI (hb pins s1 σ H1 _ I1 q1) fun u s2 zq=>?_
 obtain⟨y,H2,I2,r2,q2⟩:=zq
 exact hf v u s2 x y H2 I2 r1 r2 q2
theorem Ar {op:Operator}{r:R2}(ho:FR X (binaryOp op) r)(ha:PE X a ta)(hb:PE X b tb):PE X (.BinOp a op b pos) (Ut r ta tb):=by
 intro pins s σ H Q I h
 exact wpAny_BinOp (S7 ha hb I h fun v u s2 x y H2 I2 rx ry q=>ho pins s2 σ H2 x y v u Q I2 rx ry q)
theorem WR {f:Value→Value→Sem Value}{C:Int→Int→Prop}{g:Int→Int→Int}
 (rule:∀(i j:Int) (t u:Tok) (s:Shared) (Q:Value→Shared→Prop) (E:Value→Shared→Prop),C i j→Q (.int (g i j) s.toks) { s with toks:=s.toks+1 }→wpAny (model X.prog X.w) X.A (f (.int i t) (.int j u)) Q E s):
 FR X f (rI C fun i j=>.int (g i j)):=by
 intro pins s σ H x y v u Q I rx ry h
 obtain⟨i,j,rfl,rfl,hc,q⟩:=h
 obtain⟨t,rfl⟩:=rx
 obtain⟨t',rfl⟩:=ry
 exact rule i j t t' s _ _ hc ⟨.int (g i j),H,I.tok _,⟨_,rfl⟩,q⟩
theorem Uu {f:Value→Value→Sem Value}{g:Int→Int→Int}
 (rule:∀(i j:Int) (t u:Tok) (s:Shared) (Q:Value→Shared→Prop) (E:Value→Shared→Prop),Q (.int (g i j) s.toks) { s with toks:=s.toks+1 }→wpAny (model X.prog X.w) X.A (f (.int i t) (.int j u)) Q E s):
 FR X f (SS fun i j=>.int (g i j)):=by
 intro pins s σ H x y v u Q I rx ry h
 obtain⟨i,j,rfl,rfl,q⟩:=h
 obtain⟨t,rfl⟩:=rx
 obtain⟨t',rfl⟩:=ry
 exact rule i j t t' s _ _ ⟨.int (g i j),H,I.tok _,⟨_,rfl⟩,q⟩
theorem RJ {f:Value→Value→Sem Value}{g:Int→Int→Bool}
 (rule:∀(i j:Int) (t u:Tok) (s:Shared) (Q:Value→Shared→Prop) (E:Value→Shared→Prop),Q (.bool (g i j)) s→wpAny (model X.prog X.w) X.A (f (.int i t) (.int j u)) Q E s):
 FR X f (SS fun i j=>.bl (g i j)):=by
 intro pins s σ H x y v u Q I rx ry h
 obtain⟨i,j,rfl,rfl,q⟩:=h
 obtain⟨t,rfl⟩:=rx
 obtain⟨t',rfl⟩:=ry
 exact rule i j t t' s _ _ ⟨.bl (g i j),H,I,rfl,q⟩
def Wm (i j:Int):Prop:=0<j∧j<1073741824
theorem Bk:FR X (binaryOp .Add) (SS fun i j=>.int (i+j)):=Uu fun _ _ _ _ _ _ _ q=>add_int q
theorem IH:FR X (binaryOp .Sub) (SS fun i j=>.int (i-j)):=Uu fun _ _ _ _ _ _ _ q=>sub_int q
theorem Hn:FR X (binaryOp .FloorDiv) (rI Wm fun i j=>.int (i / j)):=WR fun i j _ _ _ _ _ hc q=>by
 have h1:(0:Int)<j:=hc.1
 have h2:j<1073741824:=hc.2
 exact floordiv_int (by omega) (by rw[Int.fdiv_eq_ediv_of_nonneg i (by omega)];exact q) (.inl (PyProof.noPylong_small (by omega)))
theorem Dr:FR X (binaryOp .Mod) (rI (fun _ j=>0<j) fun i j=>.int (i%j)):=WR fun i j _ _ _ _ _ hc q=>by
 have h1:(0:Int)<j:=hc
 exact mod_int' (by omega) (by rw[Int.fmod_eq_emod_of_nonneg i (by omega)];exact q)
end
def Uv:V→V→Bool
 | .non,.non=>true | .non,.int _=>true | .int _,.non=>true | .non,.bl _=>true | .bl _,.non=>true | .non,.str _=>true | .str _,.non=>true
 | .int _,.int _=>true | .bl _,.bl _=>true | .str _,.str _=>true | .byt _,.byt _=>true
 | .int _,.str _=>true | .str _,.int _=>true | .bl _,.str _=>true | .str _,.bl _=>true
 | _,_=>false
def X3:R2:=fun x y H Q=>Uv x y=true∧Q (.bl (decide (x=y))) H
def X4:R2:=fun x y H Q=>Uv x y=true∧Q (.bl (!decide (x=y))) H
theorem ND {i j:Int}:decide (V.int i=V.int j)=(i==j):=by
 rw[Bool.eq_iff_iff]
 simp
theorem O3 {i j:Bool}:decide (V.bl i=V.bl j)=(i==j):=by
 rw[Bool.eq_iff_iff]
 simp
theorem NE {i j:Str}:decide (V.str i=V.str j)=(i==j):=by
 rw[Bool.eq_iff_iff]
 simp
theorem NF {i j:Array UInt8}:decide (V.byt i=V.byt j)=(i.toList==j.toList):=by
 rw[Bool.eq_iff_iff]
 cases i
 cases j
 simp
section
variable {X:Cx}{a b c:Expr}{ta tb tc:TE}{pos:Pos}
theorem Ax {pins:List (Addr×Obj)}{σ:St}{H:Hp}{s:Shared}{Q:VK}{k k':Bool}(I:Af X pins σ H s)(q:Q (.bl k) H)(e:k=k'):EP X pins σ Q (.bool k') s:=by
 subst e
 exact⟨.bl k,H,I,rfl,q⟩
theorem Aq:FR X (compareOp .Eq) X3:=by
 intro pins s σ H x y v u Q I rx ry h
 obtain⟨hs,q⟩:=h
 cases x with
 | non=>
  cases rx
  cases y with
  | non=>cases ry;exact PySem.EqNone.eq_none_none (Ax I q (by simp))
  | bl j=>cases ry;exact PySem.EqNone.eq_none_bool (Ax I q (by simp))
  | int j=>obtain⟨t',rfl⟩:=ry;exact PySem.EqNone.eq_none_int (Ax I q (by simp))
  | str j=>obtain⟨t',rfl⟩:=ry;exact PySem.EqNone.eq_none_str (Ax I q (by simp))
  | _=>exact absurd (show false=true from hs) Bool.false_ne_true
 | bl i=>
  cases rx
  cases y with
  | non=>cases ry;exact PySem.EqNone.eq_bool_none (Ax I q (by simp))
  | bl j=>cases ry;exact eq_bool (Ax I q O3)
  | str j=>obtain⟨t',rfl⟩:=ry;exact PySem.EqMixed.eq_bool_str (Ax I q (by simp))
  | _=>exact absurd (show false=true from hs) Bool.false_ne_true
 | int i=>
  obtain⟨t,rfl⟩:=rx
  cases y with
  | non=>cases ry;exact PySem.EqNone.eq_int_none (Ax I q (by simp))
  | int j=>obtain⟨t',rfl⟩:=ry;exact eq_int (Ax I q ND)
  | str j=>obtain⟨t',rfl⟩:=ry;exact PySem.EqMixed.eq_int_str (Ax I q (by simp))
  | _=>exact absurd (show false=true from hs) Bool.false_ne_true
 | str i=>
  obtain⟨t,rfl⟩:=rx
  cases y with
  | non=>cases ry;exact PySem.EqNone.eq_str_none (Ax I q (by simp))
  | bl j=>cases ry;exact PySem.EqMixed.eq_str_bool (Ax I q (by simp))
  | int j=>obtain⟨t',rfl⟩:=ry;exact PySem.EqMixed.eq_str_int (Ax I q (by simp))
  | str j=>obtain⟨t',rfl⟩:=ry;exact eq_str (Ax I q NE)
  | _=>exact absurd (show false=true from hs) Bool.false_ne_true
 | byt i=>
  obtain⟨t,rfl⟩:=rx
  cases y with
  | byt j=>obtain⟨t',rfl⟩:=ry;exact PySem.W.eq_bytes (Ax I q NF)
  | _=>exact absurd (show false=true from hs) Bool.false_ne_true
 | _=>cases y <;> exact absurd (show false=true from hs) Bool.false_ne_true
theorem II:FR X (compareOp .NotEq) X4:=by
 intro pins s σ H x y v u Q I rx ry h
 obtain⟨hs,q⟩:=h
 cases x with
 | non=>
  cases rx
  cases y with
  | non=>cases ry;exact PySem.EqNone.ne_none_none (Ax I q (by simp))
  | bl j=>cases ry;exact PySem.EqNone.ne_none_bool (Ax I q (by simp))
  | int j=>obtain⟨t',rfl⟩:=ry;exact PySem.EqNone.ne_none_int (Ax I q (by simp))
  | str j=>obtain⟨t',rfl⟩:=ry;exact PySem.EqNone.ne_none_str (Ax I q (by simp))
  | _=>exact absurd (show false=true from hs) Bool.false_ne_true
 | bl i=>
  cases rx
  cases y with
  | non=>cases ry;exact PySem.EqNone.ne_bool_none (Ax I q (by simp))
  | bl j=>cases ry;exact ne_bool (Ax I q (congrArg not O3))
  | str j=>obtain⟨t',rfl⟩:=ry;exact PySem.EqMixed.ne_bool_str (Ax I q (by simp))
  | _=>exact absurd (show false=true from hs) Bool.false_ne_true
 | int i=>
  obtain⟨t,rfl⟩:=rx
  cases y with
  | non=>cases ry;exact PySem.EqNone.ne_int_none (Ax I q (by simp))
  | int j=>obtain⟨t',rfl⟩:=ry;exact ne_int (Ax I q (congrArg not ND))
  | str j=>obtain⟨t',rfl⟩:=ry;exact PySem.EqMixed.ne_int_str (Ax I q (by simp))
  | _=>exact absurd (show false=true from hs) Bool.false_ne_true
 | str i=>
  obtain⟨t,rfl⟩:=rx
  cases y with
  | non=>cases ry;exact PySem.EqNone.ne_str_none (Ax I q (by simp))
  | bl j=>cases ry;exact PySem.EqMixed.ne_str_bool (Ax I q (by simp))
  | int j=>obtain⟨t',rfl⟩:=ry;exact PySem.EqMixed.ne_str_int (Ax I q (by simp))
  | str j=>obtain⟨t',rfl⟩:=ry;exact ne_str (Ax I q (congrArg not NE))
  | _=>exact absurd (show false=true from hs) Bool.false_ne_true
 | byt i=>
  obtain⟨t,rfl⟩:=rx
  cases y with
  | byt j=>obtain⟨t',rfl⟩:=ry;exact PySem.W.ne_bytes (Ax I q (congrArg not NF))
  | _=>exact absurd (show false=true from hs) Bool.false_ne_true
 | _=>cases y <;> exact absurd (show false=true from hs) Bool.false_ne_true
theorem O4:FR X (compareOp .Lt) (SS fun i j=>.bl (decide (i<j))):=RJ fun _ _ _ _ _ _ _ q=>lt_int q
theorem DC:FR X (compareOp .LtE) (SS fun i j=>.bl (decide (i≤j))):=RJ fun _ _ _ _ _ _ _ q=>le_int q
theorem K0:FR X (compareOp .Gt) (SS fun i j=>.bl (decide (j<i))):=RJ fun _ _ _ _ _ _ _ q=>gt_int q
theorem Uw:FR X (compareOp .GtE) (SS fun i j=>.bl (decide (j≤i))):=RJ fun _ _ _ _ _ _ _ q=>ge_int q
theorem N6:FR X (compareOp .In) (fun x y H Q=>∃ i j,x=.str i∧y=.str j∧Q (.bl (!(Builtin.Str.occurrences j i 0 j.length 1).isEmpty)) H):=by
 intro pins s σ H x y v u Q I rx ry h
 obtain⟨i,j,rfl,rfl,q⟩:=h
 obtain⟨t,rfl⟩:=rx
 obtain⟨t',rfl⟩:=ry
 exact in_str (Ax I q rfl)
theorem GZ:FR X (compareOp .Is) (fun x y H Q=>y=.non∧Q (.bl (decide (x=.non))) H):=by
 intro pins s σ H x y v u Q I rx ry h
 obtain⟨rfl,q⟩:=h
 cases ry
 refine is_none_gen (Ax I q ?_)
 cases x <;> first
  | (cases rx;rfl)
  | (obtain⟨t,rfl⟩:=rx;rfl)
theorem RK:FR X (compareOp .IsNot) (fun x y H Q=>y=.non∧Q (.bl (!decide (x=.non))) H):=by
 intro pins s σ H x y v u Q I rx ry h
 obtain⟨rfl,q⟩:=h
 cases ry
 refine isnot_none_gen (Ax I q ?_)
 cases x <;> first
  | (cases rx;rfl)
  | (obtain⟨t,rfl⟩:=rx;rfl)
theorem AQ (b:Expr){op:CmpOp}(h:op≠.In:=by decide)(h2:op≠.NotIn:=by decide):behindInMarks op b=false:=by
 have e1:(op==CmpOp.In)=false:=by cases op <;> first | rfl | exact absurd rfl h
 have e2:(op==CmpOp.NotIn)=false:=by cases op <;> first | rfl | exact absurd rfl h2
 cases b <;> simp[behindInMarks,e1,e2]
theorem Al {op:CmpOp}{r:R2}(ho:FR X (compareOp op) r)(ha:PE X a ta)(hb:PE X b tb)(hm:behindInMarks op b=false):PE X (.Compare a [op] [b] pos) (Ut r ta tb):=by
 intro pins s σ H Q I h
 exact wpAny_Compare1 (S7 ha hb I h fun v u s2 x y H2 I2 rx ry q=>ho pins s2 σ H2 x y v u Q I2 rx ry q) hm
def Ux (t:TE):TT:=fun σ H Q=>t σ H fun x H'=>∃ k,x=.bl k∧Q k H'
theorem AV {op:CmpOp}{r:R2}(ho:FR X (compareOp op) r)(ha:PE X a ta)(hb:PE X b tb)(hm:behindInMarks op b=false):PT X (.Compare a [op] [b] pos) (Ux (Ut r ta tb)):=by
 intro pins s σ H Q I h
 refine wpAny_isTrue_Compare1 (BI (ha pins s σ H _ I h) fun v s1 ⟨x,H1,I1,r1,q1⟩=>BI (hb pins s1 σ H1 _ I1 q1) fun u s2 ⟨y,H2,I2,r2,q2⟩=>
  BI (ho pins s2 σ H2 x y v u _ I2 r1 r2 q2) fun c s3 ⟨z,H3,I3,r3,k,e,q3⟩=>?_) hm
 subst e
 cases r3
 exact wpAny_truthy_bool ⟨H3,I3,q3⟩
theorem IJ:(sizeLine:Nat)<2 ^ 63:=by rw[sizeLine_eq];decide
theorem Fd {x:V}{us:List Value}(r:Am [x] us):∃ u,us=[u]∧Ai x u:=by
 cases r with
 | cons r1 r2=>cases r2;exact⟨_,rfl,r1⟩
theorem O5 {x y:V}{us:List Value}(r:Am [x,y] us):∃ u w',us=[u,w']∧Ai x u∧Ai y w':=by
 cases r with
 | cons r1 r2=>
  cases r2 with
  | cons r3 r4=>cases r4;exact⟨_,_,rfl,r1,r3⟩
theorem IK:Ci X (.builtin "abs") (fun xs H Q=>∃ i,xs=[.int i]∧Q (.int (if i<0 then -i else i)) H):=by
 intro pins s σ H xs us Q I r h
 obtain⟨i,rfl,q⟩:=h
 obtain⟨u,rfl,t,rfl⟩:=Fd r
 exact call_abs_int fun u tk=>⟨.int (if i<0 then -i else i),H,I.tok _,⟨_,rfl⟩,q⟩
theorem N7 (hc:X.calm=true):Ci X (.builtin "min") (fun xs H Q=>∃ i j,xs=[.int i,.int j]∧Q (.int (if j<i then j else i)) H):=by
 intro pins s σ H xs us Q I r h
 obtain⟨i,j,rfl,q⟩:=h
 obtain⟨u,w',rfl,⟨t,rfl⟩,⟨t',rfl⟩⟩:=O5 r
 refine min_two_ints (I.ok.hd hc) fun h' tk k=>⟨_,H,I.kept k,?_,q⟩
 by_cases hj:j<i
 ·rw[if_pos hj,if_pos hj];exact⟨_,rfl⟩
 ·rw[if_neg hj,if_neg hj];exact⟨_,rfl⟩
end
structure L7 (h:Heap)(x dx C:Addr)(mA:Str→Option Value):Prop where
 obj:h.get? x=some (PySem.W.instObj C dx)
 ns:h.Ns1 dx mA
 ne:dx≠x
theorem N8 {h:Heap}{dx:Addr}{mA:Str→Option Value}(n:h.Ns1 dx mA):∃ od,h.get? dx=some od∧∀ name,PySem.W.lookIn name od=some (mA name):=by
 obtain⟨o,es,ep,ho,hd,hk,_,hm⟩:=n
 refine⟨o,ho,fun name=>?_⟩
 have e:=hm name
 unfold nsFind findBy at e
 rw[← Array.find?_toList]at e
 unfold PySem.W.lookIn
 rw[hd]
 dsimp only
 split
 ·rename_i y q
  rw[q]at e
  exact congrArg some e
 ·rename_i q
  rw[q]at e
  have a:es.toList.any (·.refKey)=false:=by
   rw[List.any_eq_false]
   intro y hy
   obtain⟨z,t,hkey⟩:=hk y (Array.mem_toList_iff.mp hy)
   simp[DictEntry.refKey,hkey]
  have a':¬ es.toList.any (·.refKey)=true:=by rw[a];exact Bool.false_ne_true
  rw[if_neg a']
  exact congrArg some e
theorem L7.look {h:Heap}{x dx C:Addr}{mA:Str→Option Value}(I:L7 h x dx C mA):∃ od,PySem.W.InstAt h x (PySem.W.instObj C dx) C (some od)∧∀ name,PySem.W.lookIn name od=some (mA name):=
 let ⟨od,ho,hl⟩:=N8 I.ns
 ⟨od,⟨I.obj,rfl,rfl,ho⟩,hl⟩
section
variable {prog:Program}{w:World}{A:Around}{E:Value→Shared→Prop}{s:Shared}{K:PySem.W.Frag}{x dx C f:Addr}{mA:Str→Option Value}{name:Str}{v:Value}
theorem RL {expr:Bool}{Q:Value→Shared→Prop}(X:K.In s.heap)(I:L7 s.heap x dx C mA)(hg:PySem.W.plainGet K C name=true)(hh:PySem.W.hasDictIn K C=true)
 (ha:PySem.W.findIn K (.ref C) name=some none) (hv:mA name=some v) (hv':PySem.W.handedIn v=true) (h:Q v { s with toks:=s.toks+1 }):
 wpAny (model prog w) A (getAttr (.ref x) name expr) Q E s:=by
 obtain⟨od,J,hl⟩:=I.look
 exact PySem.W.get_value X J (PySem.W.plainGet_of hg).1 (PySem.W.findObj_own hh ha rfl (by rw[hl,hv])) hv' h
theorem O6 {pl:Sem Bool}{Q:Value×List Value→Shared→Prop}(X:K.In s.heap)(I:L7 s.heap x dx C mA)(hg:PySem.W.plainGet K C name=true)
 (hf:PySem.W.findIn K (.ref C) name=some (some (.ref f))) (ht:PySem.W.isFn K (.ref f)=true) (hv:mA name=none) (h:Q (.ref f,[.ref x]) s):
 wpAny (model prog w) A (getMethod (.ref x) name pl) Q E s:=by
 obtain⟨od,J,hl⟩:=I.look
 exact PySem.W.method_fn X J (PySem.W.plainGet_of hg).1 (PySem.W.plainGet_of hg).2 hf (beq_iff_eq.mp ht) (by show(PySem.W.lookIn name od).map (·.isSome)=some false;rw[hl,hv];rfl) h
theorem RM {ns:List Str}{Q:Unit→Shared→Prop}(X:K.In s.heap)(I:L7 s.heap x dx C mA)
 (hs:PySem.W.findIn K (.ref C) "__setattr__"=some (some (.builtin "object.__setattr__"))) (hp:PySem.W.plainOver K C=true) (ht:PySem.W.takerIn K C name=some none) (hh:PySem.W.hasDictIn K C=true)
 (hw:PySem.Within mA ns) (hsz:ns.length≤sizeLine)
 (h:∀ h',L7 h' x dx C (fun y=>if y=name then some v else mA y)→Heap.SameBut dx s.heap h'→Q () { s with heap:=h',toks:=s.toks+2 }):
 wpAny (model prog w) A (setAttr (.ref x) name v) Q E s:=by
 obtain⟨od,J,hl⟩:=I.look
 refine PySem.W.set_plain X J hs (PySem.W.osa_open (s:={ s with toks:=s.toks+1 }) (r:=none) X J hp ht fun b=>?_)
 obtain⟨cd,hc,hd'⟩:=PySem.W.any_some hh
 have hx:s.heap.get? x=some ⟨.ref C,some dx,.plain,#[]⟩:=I.obj
 refine wpAny_bind (wpAny_pure (wpAny_bind (wpAny_bind (wpAny_loadPart hx (wpAny_bind (PySem.W.Looks.here (s:={ s with toks:=s.toks+1 }) (PySem.W.looks_clsIn X hc) ?_))))))
 rw[hd']
 refine wpAny_pure (a:=some dx) (wpAny_bind (wpAny_pure (wpAny_bind ?_)))
 refine wpAny_nsSet1 (s:={ s with toks:=s.toks+1 }) I.ns fun h' hn2 hs2=>?_
 obtain⟨oD,esD,epD,hoD,hdD,hcD⟩:=hn2.count (PySem.Within.cons name v hw)
 refine wpAny_bind (wpAny_lookBehind hoD (by rw[hdD];exact pastItsLine_dict (Nat.le_trans hcD (by rw[List.length_cons];omega))) ?_)
 exact wpAny_pure (h _ ⟨(hs2.2 _ (Ne.symm I.ne)).trans I.obj,hn2,I.ne⟩ hs2)
theorem O7 {R:Result→Shared→Prop}{vs:List Value}{kw:List (Str×Value)}(X:K.In s.heap)(hm:PySem.W.makesIn K C=true)
 (hi:PySem.W.findIn K (.ref C) "__init__"=some (some (.ref f))) (hf:PySem.W.typeIn K (.ref f)=some (.type "function"))
 (h:codeAny (model prog w) (A.under (.builtin "type.__call__" ⟨.ref C::vs,kw⟩)) (.call (.ref f) ⟨.ref (s.heap.objs.size+1)::vs,kw⟩) (PySem.W.InitBack (s.heap.objs.size+1) R)
  { s with heap:=(s.heap.push PySem.W.emptyDict).push (PySem.W.instObj C s.heap.objs.size) }):
 codeAny (model prog w) A (.call (.ref C) ⟨vs,kw⟩) R s:=by
 obtain⟨hh,g,d,t,os⟩:=s
 exact PySem.W.make_core (PySem.W.makes_of X hm) (PySem.W.looks_findIn X hi) (fun self=>PySem.W.bind_fn X self hf) (.inl rfl) h
end
def Em (f:Str)(v:V):List (Str×V)→List (Str×V)
 | []=>[(f,v)]
 | (g,x)::r=>if g=f then(g,v)::r else(g,x)::Em f v r
theorem HD (f g:Str)(v:V):∀ fs:List (Str×V),(Em f v fs).lookup g=if g=f then some v else fs.lookup g
 | []=>by
  show List.lookup g [(f,v)]=_
  by_cases h:g=f
  ·have hb:(g==f)=true:=beq_iff_eq.mpr h
   simp only[List.lookup,hb,if_pos h]
  ·have hb:(g==f)=false:=beq_eq_false_iff_ne.mpr h
   simp only[List.lookup,hb,if_neg h]
 | (k,x)::r=>by
  have ih:=HD f g v r
  rw[show Em f v ((k,x)::r)=(if k=f then(k,v)::r else(k,x)::Em f v r)from rfl]
  by_cases hk:k=f
  ·rw[if_pos hk]
   by_cases h:g=k
   ·have hb:(g==k)=true:=beq_iff_eq.mpr h
    simp only[List.lookup,hb,if_pos (h.trans hk)]
   ·have hb:(g==k)=false:=beq_eq_false_iff_ne.mpr h
    simp only[List.lookup,hb,if_neg (fun e:g=f=>h (e.trans hk.symm))]
  ·rw[if_neg hk]
   by_cases h:g=k
   ·have hb:(g==k)=true:=beq_iff_eq.mpr h
    simp only[List.lookup,hb,if_neg (fun e:g=f=>hk (h.symm.trans e))]
   ·have hb:(g==k)=false:=beq_eq_false_iff_ne.mpr h
    simp only[List.lookup,hb]
    exact ih
theorem Ga (f:Str)(v:V):∀ fs:List (Str×V),f∈(Em f v fs).map (·.1)∧∀ g,g∈fs.map (·.1)→g∈(Em f v fs).map (·.1)
 | []=>⟨by simp[Em],fun g h=>by simp at h⟩
 | (k,x)::r=>by
  obtain⟨i1,i2⟩:=Ga f v r
  rw[show Em f v ((k,x)::r)=(if k=f then(k,v)::r else(k,x)::Em f v r)from rfl]
  by_cases hk:k=f
  ·rw[if_pos hk]
   subst hk
   exact⟨by simp,fun g h=>by simpa using h⟩
  ·rw[if_neg hk]
   refine⟨?_,fun g h=>?_⟩
   ·rw[List.map_cons]
    exact List.mem_cons_of_mem _ i1
   ·rw[List.map_cons]at h ⊢
    rcases List.mem_cons.mp h with e | e
    ·exact List.mem_cons.mpr (.inl e)
    ·exact List.mem_cons_of_mem _ (i2 g e)
theorem HE (f:Str)(v:V):∀ fs:List (Str×V),(Em f v fs).length≤fs.length+1
 | []=>by simp[Em]
 | (k,x)::r=>by
  have ih:=HE f v r
  rw[show Em f v ((k,x)::r)=(if k=f then(k,v)::r else(k,x)::Em f v r)from rfl]
  by_cases hk:k=f
  ·rw[if_pos hk,List.length_cons,List.length_cons];omega
  ·rw[if_neg hk,List.length_cons,List.length_cons];omega
theorem Dx.some_of {v:V}{o:Option Value}(r:Dx (some v) o):∃ u,o=some u∧Ai v u:=by
 cases o with
 | none=>exact(show False from r).elim
 | some u=>exact⟨u,rfl,r⟩
theorem Dx.none_of {o:Option Value}(r:Dx none o):o=none:=by
 cases o with
 | none=>rfl
 | some u=>exact(show False from r).elim
theorem N9 {v:V}{u:Value}(r:Ai v u):PySem.W.handedIn u=true:=by
 cases v with
 | non=>cases (show u=Value.none from r);rfl
 | bl b=>cases (show u=Value.bool b from r);rfl
 | int i=>obtain⟨t,e⟩:=(show ∃ t,u=Value.int i t from r);cases e;rfl
 | str x=>obtain⟨t,e⟩:=(show ∃ t,u=Value.str x t from r);cases e;rfl
 | byt b=>obtain⟨t,e⟩:=(show ∃ t,u=Value.bytes b t from r);cases e;rfl
 | flt b=>obtain⟨t,e⟩:=(show ∃ t,u=Value.float b t from r);cases e;rfl
 | ref a=>cases (show u=Value.ref a from r);rfl
 | ty n=>cases (show u=Value.type n from r);rfl
section
variable {P:Program}{w:World}{H H':Hp}{h h':Heap}{a C dx:Addr}{fs fs':List (Str×V)}
theorem Ho (hok:Eh P w H h)(e:H a=some (.ins C dx fs)):∃ mA,L7 h a dx C mA∧(∀ f,Dx (fs.lookup f) (mA f))∧PySem.Within mA (fs.map (·.1))∧fs.length≤1000∧H dx=some (.own a):=by
 obtain⟨d,z,ne,ob,mA,n,r,q⟩:=(show A6 P w H h a (.ins C dx fs)from hok a _ e)
 exact⟨mA,⟨ob,n,ne⟩,r,q,z,d⟩
end
structure RC (K:PySem.W.Frag)(C:Addr):Prop where
 pg:PySem.W.plainGet K C Str.empty=true
 hd:PySem.W.hasDictIn K C=true
 po:PySem.W.plainOver K C=true
 sa:PySem.W.findIn K (.ref C) "__setattr__"=some (some (.builtin "object.__setattr__"))
theorem RC.get {K:PySem.W.Frag}{C:Addr}(c:RC K C)(f:Str):PySem.W.plainGet K C f=true:=c.pg
def Ds (K:PySem.W.Frag)(C:Addr)(f:Str):Prop:=PySem.W.findIn K (.ref C) f=some none
theorem Ds.taker {K:PySem.W.Frag}{C:Addr}{f:Str}(n:Ds K C f):PySem.W.takerIn K C f=some none:=by
 unfold PySem.W.takerIn
 rw[show PySem.W.findIn K (.ref C) f=some none from n]
 rfl
structure YJ (K:PySem.W.Frag)(C:Addr)(f:Str)(v:V)(u:Value):Prop where
 at_:PySem.W.findIn K (.ref C) f=some (some u)
 rel:Ai v u
 get:PySem.W.specialIn K u "__get__"=some none
 cp:PySem.W.copiedNames.contains f=false
structure Jz (K:PySem.W.Frag)(C:Addr)(m:Str)(f:Addr):Prop where
 at_:PySem.W.findIn K (.ref C) m=some (some (.ref f))
 fn:PySem.W.isFn K (.ref f)=true
 kp:PySem.W.keepIn K (.ref f)=true
section
variable {X:Cx}{pins:List (Addr×Obj)}{σ:St}{H:Hp}{s:Shared}{a C dx:Addr}{fs:List (Str×V)}{f:Str}{v:V}{A:Around}{E:Value→Shared→Prop}
theorem L8 {b:Bool}{Q:Value→Shared→Prop}(I:Af X pins σ H s)(e:H a=some (.ins C dx fs))(c:RC X.K C)(n:Ds X.K C f)(l:fs.lookup f=some v)
 (h:∀ u s',Af X pins σ H s'→Ai v u→Q u s'):wpAny (model X.prog X.w) A (getAttr (.ref a) f b) Q E s:=by
 obtain⟨mA,O,r,_,_,_⟩:=Ho I.hok e
 obtain⟨u,hu,ru⟩:=Dx.some_of (v:=v) (o:=mA f) (by rw[← l];exact r f)
 exact RL I.kIn O (c.get f) c.hd n hu (N9 ru) (h u _ (I.tok _) ru)
theorem L9 {m:Str}{g:Addr}{pl:Sem Bool}{Q:Value×List Value→Shared→Prop}(I:Af X pins σ H s)(e:H a=some (.ins C dx fs))(c:RC X.K C)(k:Jz X.K C m g)(l:fs.lookup m=none)
 (h:Q (.ref g,[.ref a]) s):wpAny (model X.prog X.w) A (getMethod (.ref a) m pl) Q E s:=by
 obtain⟨mA,O,r,_,_,_⟩:=Ho I.hok e
 have hn:mA m=none:=Dx.none_of (by rw[← l];exact r m)
 exact O6 I.kIn O (c.get m) k.at_ k.fn hn h
theorem MA {y:V}{u:Value}{Q:Unit→Shared→Prop}(I:Af X pins σ H s)(e:H a=some (.ins C dx fs))(c:RC X.K C)(n:Ds X.K C f)(hl:fs.length<1000)(ry:Ai y u)
 (h:∀ s',Af X pins σ (upd H a (.ins C dx (Em f y fs))) s'→Q () s'):wpAny (model X.prog X.w) A (setAttr (.ref a) f u) Q E s:=by
 obtain⟨mA,O,r,wi,_,ho⟩:=Ho I.hok e
 have hz:(fs.map (·.1)).length≤sizeLine:=by rw[List.length_map,sizeLine_eq];omega
 refine RM I.kIn O c.sa c.po n.taker c.hd wi hz fun h' O' sb=>h _ ?_
 have hd:∃ o,h'.get? dx=some o:=let ⟨o,_,_,e',_⟩:=O'.ns;⟨o,e'⟩
 refine I.write (x:=a) (e:=dx) (by rw[e];exact True.intro) (.inr ho) (fun b q hb z=>(sb.2 b hb).trans z) hd ?_
 refine⟨by rw[AR O.ne];exact ho,?_,O.ne,O'.obj,_,O'.ns,fun g=>?_,fun g hg=>?_⟩
 ·have:=HE f y fs;omega
 ·show Dx ((Em f y fs).lookup g) (if g=f then some u else mA g)
  rw[HD]
  by_cases q:g=f
  ·rw[if_pos q,if_pos q];exact ry
  ·rw[if_neg q,if_neg q];exact r g
 ·by_cases q:g=f
  ·rw[q];exact(Ga f y fs).1
  ·refine(Ga f y fs).2 g (wi g fun z=>hg ?_)
   show(if g=f then some u else mA g)=none
   rw[if_neg q];exact z
theorem Af.made (I:Af X pins σ H s):Af X pins σ (upd (upd H s.heap.objs.size (.own (s.heap.objs.size+1))) (s.heap.objs.size+1) (.ins C s.heap.objs.size []))
 { s with heap:=(s.heap.push PySem.W.emptyDict).push (PySem.W.instObj C s.heap.objs.size) }:=by
 have e1:(s.heap.push PySem.W.emptyDict).get? s.heap.objs.size=some PySem.W.emptyDict:=Heap.get?_push_size s.heap rfl
 have e2:((s.heap.push PySem.W.emptyDict).push (PySem.W.instObj C s.heap.objs.size)).get? (s.heap.objs.size+1)=some (PySem.W.instObj C s.heap.objs.size):=by
  have:=Heap.get?_push_size (s.heap.push PySem.W.emptyDict) (o:=PySem.W.instObj C s.heap.objs.size) rfl
  rwa [Heap.size_push]at this
 have e3:(s.heap.push PySem.W.emptyDict).Ns s.heap.objs.size (fun _=>none):=⟨PySem.W.emptyDict,#[],_,e1,rfl,(fun e he=>absurd he (by simp)),fun _=>rfl⟩
 have I1:=I.laid (a:=s.heap.objs.size) (o:=.own (s.heap.objs.size+1)) (h':=s.heap.push PySem.W.emptyDict) (t':=s.toks) (fun b u q=>Heap.get?_push_of_some _ q) (Nat.le_refl _) ⟨_,e1⟩
 refine I1.laid (a:=s.heap.objs.size+1) (o:=.ins C s.heap.objs.size []) (t':=s.toks) (fun b u q=>Heap.get?_push_of_some _ q) (Nat.le_of_eq (Heap.size_push _ _)) ?_
 have ne:s.heap.objs.size≠s.heap.objs.size+1:=Nat.ne_of_lt (Nat.lt_succ_self _)
 refine⟨by rw[AR ne,AC],Nat.zero_le _,ne,e2,fun _=>none,(Heap.Ns1.of_empty e3).at fun o q=>Heap.get?_push_of_some _ q,fun _=>True.intro,fun y hy=>absurd rfl hy⟩
theorem RP {prog:Program}{w:World}{env:Env}{e:Expr}{f:Str}{pos:Pos}{s:Shared}{Q:Value→Shared→Prop}(hb:attributeBase e f env (eval e env)=eval e env)
 (h:wpAny (model prog w) A (eval e env) (fun o s₁=>wpAny (model prog w) A (getAttr o f true) Q E s₁) E s):wpAny (model prog w) A (eval (.Attribute e f pos) env) Q E s:=
 Attribute_any_ h (by rw[arm_eval_Attribute,hb])
end
def Wn (K:PySem.W.Frag)(ta:TE)(f:Str):TE:=fun σ H Q=>ta σ H fun x H1=>∃ a C dx fs v,x=.ref a∧H1 a=some (.ins C dx fs)∧RC K C∧Ds K C f∧fs.lookup f=some v∧Q v H1
def Wo (K:PySem.W.Frag)(ta tv:TE)(f:Str):TS:=fun D σ H=>tv σ H fun y H1=>ta σ H1 fun x H2=>∃ a C dx fs,x=.ref a∧H2 a=some (.ins C dx fs)∧RC K C∧Ds K C f∧fs.length<1000∧
 D.nx σ (upd H2 a (.ins C dx (Em f y fs)))
section
variable {X:Cx}{o e value:Expr}{f:Str}{pos pos' tpos:Pos}{ta tv:TE}
theorem En (he:PE X e ta)(hb:attributeBase e f X.env (eval e X.env)=eval e X.env):PE X (.Attribute e f pos) (Wn X.K ta f):=by
 intro pins s σ H Q I h
 refine RP hb (BI (he pins s σ H _ I h) fun u s1 zq=>?_)
 obtain⟨x,H1,I1,rx,a,C,dx,fs,v,ex,ea,c,n,l,q⟩:=zq
 subst ex
 obtain rfl:u=Value.ref a:=rx
 exact L8 I1 ea c n l fun u' s2 I2 ru=>⟨v,H1,I2,ru,q⟩
theorem J0 (ha:PE X o ta)(hv:PE X value tv)(hs:swapsWith value (some (.Attribute o f pos')) pos.line X.env=pure false):PS X (.Assign [.Attribute o f pos'] value pos) (Wo X.K ta tv f):=by
 intro pins s σ H D I h
 refine plainObj_wpAny_Assign_Attribute (BI (hv pins s σ H _ I h) fun u s1 ⟨y,H1,I1,ry,q⟩=>BI (ha pins s1 σ H1 _ I1 q) fun ov s2 zq=>?_) hs
 obtain⟨x,H2,I2,rx,a,C,dx,fs,ex,ea,c,n,l,q2⟩:=zq
 subst ex
 obtain rfl:ov=Value.ref a:=rx
 exact MA I2 ea c n l ry fun s3 I3=>⟨σ,_,I3,q2⟩
end
section
variable {X:Cx}{pins:List (Addr×Obj)}{σ:St}{H:Hp}{s:Shared}{A:Around}{E:Value→Shared→Prop}{Q:Value→Shared→Prop}{c:Value}{b:Bool}
inductive F9 (K:PySem.W.Frag)(H:Hp):V→Value→Prop where
 | non:F9 K H .non (.type "NoneType")
 | bl (x:Bool):F9 K H (.bl x) (.type "bool")
 | int (i:Int):F9 K H (.int i) (.type "int")
 | str (x:Str):F9 K H (.str x) (.type "str")
 | flt (x:UInt64):F9 K H (.flt x) (.type "float")
 | lst {a:Addr} {xs:List V} (e:H a=some (.lst xs)):F9 K H (.ref a) (.type "list")
 | frz {a:Addr} {o:Obj} {xs:List V} (e:H a=some (.frz o (.lst xs))):F9 K H (.ref a) (.type "list")
 | tup {a:Addr} {xs:List V} (e:H a=some (.tup xs)):F9 K H (.ref a) (.type "tuple")
 | dK {a:Addr} {kvs:List (A9×V)} (e:H a=some (.dK kvs)):F9 K H (.ref a) (.type "dict")
 | dT {a:Addr} {kvs:List (List A9×V)} (e:H a=some (.dT kvs)):F9 K H (.ref a) (.type "dict")
 | ins {a C dx:Addr} {fs:List (Str×V)} (e:H a=some (.ins C dx fs)) (cl:RC K C) (ha:PySem.W.findIn K (.ref C) "__class__"=some (some (.builtin "object.__class__")))
  (hn:PySem.W.specialIn K (.builtin "object.__class__") "__get__"=some (some (.builtin "getset_descriptor.__get__"))) (htk:PySem.W.takesIn K (.builtin "object.__class__")=some true)
  (hm:PySem.W.mroIn K C (.type "object")=some true):F9 K H (.ref a) (.ref C)
theorem Jb {x:V}{u t:Value}(I:Af X pins σ H s)(rx:Ai x u)(ty:F9 X.K H x t)(e:PySem.W.kitOne X.K t c=some b)(h:∀ tk,Q (.bool b) { s with toks:=tk }):
 wpAny (model X.prog X.w) A (call (.builtin "isinstance") [u,c]) Q E s:=by
 cases ty with
 | non=>cases (show u=Value.none from rx);exact PySem.W.kia_one PySem.W.kitx_none I.kIn True.intro e (fun z=>nomatch z) h
 | bl y=>cases (show u=Value.bool y from rx);exact PySem.W.kia_one PySem.W.kitx_bool I.kIn True.intro e (fun z=>nomatch z) h
 | int i=>obtain⟨t,q⟩:=(show ∃ t,u=Value.int i t from rx);cases q;exact PySem.W.kia_one PySem.W.kitx_int I.kIn True.intro e (fun z=>nomatch z) h
 | str y=>obtain⟨t,q⟩:=(show ∃ t,u=Value.str y t from rx);cases q;exact PySem.W.kia_one PySem.W.kitx_str I.kIn True.intro e (fun z=>nomatch z) h
 | flt y=>obtain⟨t,q⟩:=(show ∃ t,u=Value.float y t from rx);cases q;exact PySem.W.kia_one PySem.W.kitx_float I.kIn True.intro e (fun z=>nomatch z) h
 | @lst a xs ea=>
  cases (show u=Value.ref a from rx)
  obtain⟨_,_,n,_,h1⟩:=(show A6 X.prog X.w H s.heap a (.lst xs)from I.hok a _ ea)
  exact PySem.W.kia_one PySem.W.kitx_list I.kIn ⟨_,h1,rfl⟩ e (fun z=>nomatch z) h
 | @frz a ob xs ea=>
  cases (show u=Value.ref a from rx)
  obtain⟨_,_,_,n,_,h1⟩:=(show A6 X.prog X.w H s.heap a (.frz ob (.lst xs))from I.hok a _ ea)
  exact PySem.W.kia_one PySem.W.kitx_list I.kIn ⟨_,h1,rfl⟩ e (fun z=>nomatch z) h
 | @tup a xs ea=>
  cases (show u=Value.ref a from rx)
  obtain⟨_,_,_,p⟩:=(show A6 X.prog X.w H s.heap a (.tup xs)from I.hok a _ ea)
  obtain⟨o,h1,h2,_⟩:=p
  exact PySem.W.kia_one PySem.W.kitx_tuple I.kIn ⟨o,h1,h2⟩ e (fun z=>nomatch z) h
 | @dK a kvs ea=>
  cases (show u=Value.ref a from rx)
  obtain⟨_,_,vs,_,p⟩:=(show A6 X.prog X.w H s.heap a (.dK kvs)from I.hok a _ ea)
  obtain⟨o,es,ep,h1,h2,_⟩:=p
  exact PySem.W.kia_one PySem.W.kitx_dict I.kIn ⟨o,h1,h2.1⟩ e (fun z=>nomatch z) h
 | @dT a kvs ea=>
  cases (show u=Value.ref a from rx)
  obtain⟨_,_,xs,_,o,es,ep,h1,h2,_⟩:=(show A6 X.prog X.w H s.heap a (.dT kvs)from I.hok a _ ea)
  exact PySem.W.kia_one PySem.W.kitx_dict I.kIn ⟨o,h1,h2.1⟩ e (fun z=>nomatch z) h
 | @ins a C dx fs ea cl ha hn htk hm=>
  cases (show u=Value.ref a from rx)
  obtain⟨mA,O,_⟩:=Ho I.hok ea
  obtain⟨od,J,_⟩:=O.look
  exact PySem.W.kia_one (PySem.W.kitx_own (cl.get _) cl.hd ha hn htk hm) I.kIn J e (fun z=>nomatch z) h
end
structure BY (k:Nat)(A:Around):Prop where
 hd:A.handled=none
 dp:A.depth+3*k+5<recursionLimit
 un:A.units+16*k+200<cLine
theorem BY.mono {j k:Nat}{A:Around}(r:BY k A)(h:j≤k):BY j A:=⟨r.hd,by have:=r.dp;omega,by have:=r.un;omega⟩
theorem BY.deeper {k:Nat}{A:Around}(r:BY (k+1) A)(env:Env):BY k (A.deeper env):=
 ⟨r.hd,by have:=r.dp;show A.depth+1+3*k+5<_;omega,by have:=r.un;show A.units+3+16*k+200<_;omega⟩
theorem BY.in1 {k:Nat}{A:Around}(r:BY (k+1) A):BY k A.in1:=
 ⟨r.hd,by have:=r.dp;show A.depth+3*k+5<_;omega,by have:=r.un;show A.units+1+16*k+200<_;omega⟩
theorem MB {A:Around}{C:Addr}{us:List Value}{kw:List (Str×Value)}:(A.under (.builtin "type.__call__" ⟨.ref C::us,kw⟩)).depth=A.depth+1:=by
 first | rfl | simp[Around.under,Code.weight,Code.isCreation,Code.isGuard,Code.isCaller,Code.frames,Code.isFrame,guardIds]
theorem MC {A:Around}{C:Addr}{us:List Value}{kw:List (Str×Value)}:(A.under (.builtin "type.__call__" ⟨.ref C::us,kw⟩)).units=A.units+1:=by
 first | rfl | simp[Around.under,Code.cUnits,Code.frames,Code.isFrame]
theorem BY.make {k:Nat}{A:Around}(r:BY (k+1) A)(C:Addr)(us:List Value)(kw:List (Str×Value)):BY k (A.under (.builtin "type.__call__" ⟨.ref C::us,kw⟩)):=
 ⟨r.hd,by have:=r.dp;rw[MB];omega,by have:=r.un;rw[MC];omega⟩
theorem BY.depth {k:Nat}{A:Around}(r:BY k A):A.depth<recursionLimit:=by have:=r.dp;omega
theorem BY.units {k:Nat}{A:Around}(r:BY k A):A.units+64<cLine:=by have:=r.un;omega
theorem BY.units0 {k:Nat}{A:Around}(r:BY k A):A.units<cLine:=by have:=r.un;omega
def Wq:TA:=fun _ H Q=>Q [] H
def Fe (ta:TE)(tr:TA):TA:=fun σ H Q=>ta σ H fun x H1=>tr σ H1 fun xs H2=>Q (x::xs) H2
section
variable {X:Cx}{e:Expr}{es:List Expr}{te:TE}{t:TA}{pos:Pos}
theorem AB:PA X [] Wq:=fun _ _ _ _ H Q I h=>Calls.spliced_nil ⟨[],H,I,.nil,h⟩
theorem DG (ha:PE X e te)(hr:PA X es t)(hs:starEach (e::es) X.env=(false,eval e X.env)::starEach es X.env:=by rfl):PA X (e::es) (Fe te t):=by
 intro pos pins s σ H Q I h
 rw[hs]
 show wpAny _ _ (spliced ((false,eval e X.env)::backTo pos (starEach es X.env))) _ _ s
 refine Calls.spliced_cons (BI (ha pins s σ H _ I h) fun u s1 zq=>?_)
 obtain⟨x,H1,I1,r1,q1⟩:=zq
 exact BI (hr pos pins s1 σ H1 _ I1 q1) fun us s2 ⟨xs,H2,I2,r2,q2⟩=>⟨x::xs,H2,I2,.cons r1 r2,q2⟩
def Wr (t:TA):TE:=fun σ H Q=>t σ H fun xs H1=>xs.length≤sizeLine∧∀ p,H1 p=none→Q (.ref p) (upd H1 p (.tup xs))
def Ws (t:TA):TE:=fun σ H Q=>t σ H fun xs H1=>xs.length≤sizeLine∧∀ p,H1 p=none→Q (.ref p) (upd H1 p (.lst xs))
theorem Ah {x1}(h:PA X es t):PE X (.Tuple es x1 pos) (Wr t):=by
 intro pins s σ H Q I hq
 refine wpAny_Tuple_spliced (BI (h pos pins s σ H _ I hq) fun us s1 ⟨xs,H1,I1,r,z,q⟩=>⟨by rw[← r.length];exact z,?_⟩)
 have hf:H1 s1.heap.objs.size=none:=I1.hok.fresh (Nat.le_refl _)
 refine⟨.ref s1.heap.objs.size,upd H1 s1.heap.objs.size (.tup xs),I1.laid (t':=s1.toks) (fun b u e=>Heap.get?_push_of_some _ e) (Nat.le_refl _) ?_,rfl,q _ hf⟩
 exact⟨z,us,r,⟨_,Heap.get?_push_size _ rfl,rfl,_,rfl⟩⟩
theorem Bo (h:PA X es t):PE X (.List es pos) (Ws t):=by
 intro pins s σ H Q I hq
 refine wpAny_List_spliced (BI (h pos pins s σ H _ I hq) fun us s1 ⟨xs,H1,I1,r,z,q⟩=>⟨by rw[← r.length];exact z,?_⟩)
 have hf:H1 s1.heap.objs.size=none:=I1.hok.fresh (Nat.le_refl _)
 refine⟨.ref s1.heap.objs.size,upd H1 s1.heap.objs.size (.lst xs),I1.laid (t':=s1.toks) (fun b u e=>Heap.get?_push_of_some _ e) (Nat.le_refl _) ?_,rfl,q _ hf⟩
 exact⟨z,us,0,r,Heap.get?_push_size _ rfl⟩
end
abbrev Sp:=List V→Hp→VK→XK→Prop
abbrev OA:=List Env→Hp→Shared→XK→Value→Shared→Prop
structure IL (P:Program)(w:World)(K:PySem.W.Frag)(mg:Str→Option Value)(base:Heap)(A:Around)(outer:List Env)(s:Shared)(H:Hp):Prop where
 frames:A.frames=some outer
 mod:Mod K mg base
 bs:∀ b o,base.get? b=some o→s.heap.get? b=some o∧H b=none
 bsz:base.objs.size≤s.heap.objs.size
 funs:s.heap.FunFrames base outer
 frf:∀ b∈Hm outer,H b=none
 hok:Eh P w H s.heap
 bare:AllBare s.gens
def CE (outer:List Env)(P:Program)(w:World)(H:Hp)(s:Shared)(Q:VK)(u:Value)(s':Shared):Prop:=
 ∃ v H',s'.os=s.os∧AllBare s'.gens∧Un (Hm outer) [] H H' s.heap s'.heap∧Eh P w H' s'.heap∧Ai v u∧Q v H'
def CR (CX:OA)(outer:List Env)(P:Program)(w:World)(H:Hp)(s:Shared)(Q:VK)(E:XK)(r:Result)(s':Shared):Prop:=
 match r with
 | .ok (.ret u)=>CE outer P w H s Q u s'
 | .ok _=>False
 | .error e=>CX outer H s E e s'
structure Ao (P:Program)(w:World)(K:PySem.W.Frag)(mg:Str→Option Value)(base:Heap)(CX:OA)(k:Nat)(f:Addr)(fd:FuncData)(ps:List Str)(sp:Sp):Prop where
 len:∀ vs H Q E,sp vs H Q E→vs.length=ps.length
 run:∀(A:Around) (outer:List Env) (s:Shared) (H:Hp) (args:Args) (us:List Value) (vs:List V) (Q:VK) (E:XK),BY k A→IL P w K mg base A outer s H→BindsTo s fd args (ps.zip us)→Am vs us→sp vs H Q E→
  codeAny (model P w) A (.call (.ref f) args) (CR CX outer P w H s Q E) s
theorem Ao.imp {P:Program}{w:World}{K:PySem.W.Frag}{mg:Str→Option Value}{base:Heap}{CX:OA}{k:Nat}{f:Addr}{fd:FuncData}{ps:List Str}{sp sp':Sp}(F:Ao P w K mg base CX k f fd ps sp)
 (h:∀ vs H Q E,sp' vs H Q E→sp vs H Q E):Ao P w K mg base CX k f fd ps sp':=
 ⟨fun vs H Q E q=>F.len vs H Q E (h _ _ _ _ q),fun A outer s H args us vs Q E hr he hb hv hs=>F.run A outer s H args us vs Q E hr he hb hv (h _ _ _ _ hs)⟩
theorem IL.make {P:Program}{w:World}{K:PySem.W.Frag}{mg:Str→Option Value}{base:Heap}{A:Around}{outer:List Env}{s:Shared}{H:Hp}(e:IL P w K mg base A outer s H)(C:Addr)(us:List Value)(kw:List (Str×Value)):
 IL P w K mg base (A.under (.builtin "type.__call__" ⟨.ref C::us,kw⟩)) outer s H:=⟨by first | exact e.frames | (simpa [Around.under,Code.envs,Code.isFrame,pushEnvs]using e.frames),e.mod,e.bs,e.bsz,e.funs,e.frf,e.hok,e.bare⟩
theorem IL.in1 {P:Program}{w:World}{K:PySem.W.Frag}{mg:Str→Option Value}{base:Heap}{A:Around}{outer:List Env}{s:Shared}{H:Hp}(e:IL P w K mg base A outer s H):
 IL P w K mg base A.in1 outer s H:=⟨e.frames,e.mod,e.bs,e.bsz,e.funs,e.frf,e.hok,e.bare⟩
section
variable {X:Cx}{pins:List (Addr×Obj)}{σ:St}{H:Hp}{s s':Shared}
theorem Af.env0 (I:Af X pins σ H s):IL X.prog X.w X.K X.mg X.base X.A X.stack s H:=
 ⟨I.ok.frames,I.ok.mod,I.bs,Nat.le_trans I.ok.bsz I.sz,I.stack,I.stkFree,I.hok,I.bare⟩
theorem Af.after {Q:VK}{u:Value}(I:Af X pins σ H s)(h:CE X.stack X.prog X.w H s Q u s'):EP X pins σ Q u s':=by
 obtain⟨v,H',os,bare,un,hok,r,q⟩:=h
 obtain⟨hh,g,d,t,os'⟩:=s'
 obtain rfl:os'=s.os:=os
 exact⟨v,H',I.call (h':=hh) (g':=g) (d':=d) (t':=t) (ch:=[]) un hok bare (fun b z=>absurd z (by simp)),r,q⟩
end
def ST (sp:Sp)(dvs:List V)(E:XK)(t:TA):TE:=fun σ H Q=>t σ H fun vs H1=>sp (vs++dvs) H1 Q E
def Uy (C:Addr)(m:Str)(sp:Sp)(dvs:List V)(E:XK)(ta:TE)(t:TA):TE:=fun σ H Q=>ta σ H fun x H1=>∃ a dx fs,x=.ref a∧H1 a=some (.ins C dx fs)∧fs.lookup m=none∧
 t σ H1 fun vs H2=>sp (x::(vs++dvs)) H2 Q E
def Uz (C:Addr)(sp:Sp)(dvs:List V)(E:XK)(t:TA):TE:=fun σ H Q=>t σ H fun vs H1=>∀ x dx,H1 x=none→H1 dx=none→dx≠x→
 sp (.ref x::(vs++dvs)) (upd (upd H1 dx (.own x)) x (.ins C dx [])) (fun v H2=>v=.non∧Q (.ref x) H2) E
def Ed (K:PySem.W.Frag)(fd:FuncData)(ps:List Str)(ds:List Value):Prop:=
 ∀(s:Shared) (us:List Value),K.In s.heap→(us++ds).length=ps.length→BindsTo s fd ⟨us,[]⟩ (ps.zip (us++ds))
theorem Ed.all {K:PySem.W.Frag}{fd:FuncData}{ps:List Str}(h:∀ us:List Value,us.length=ps.length→bindArgs fd ⟨us,[]⟩=pure (ps.zip us)):Ed K fd ps []:=fun s us _ hl=>by
 rw[List.append_nil]at hl ⊢
 exact .of_eq (h us hl)
def Gb (CX:OA)(X:Cx)(E:XK):Prop:=∀(pins:List (Addr×Obj)) (σ:St) (H:Hp) (s:Shared) (e:Value) (s':Shared),Af X pins σ H s→CX X.stack H s E e s'→X.xe e s'
section
variable {X:Cx}{CX:OA}{k:Nat}{f C:Addr}{fd:FuncData}{ps:List Str}{sp:Sp}{dvs:List V}{ds:List Value}{E:XK}{x m:Str}{p pos apos:Pos}{e o:Expr}{es:List Expr}{ta:TE}{t:TA}
theorem MD {pins:List (Addr×Obj)}{σ:St}{H:Hp}{s:Shared}{Q:VK}{us:List Value}{vs:List V}(F:Ao X.prog X.w X.K X.mg X.base CX k f fd ps sp)(hr:BY k X.A)(hb:Ed X.K fd ps ds)(hd:Am dvs ds)(hx:Gb CX X E)
 (I:Af X pins σ H s) (r:Am vs us) (h:sp (vs++dvs) H Q E):wpAny (model X.prog X.w) X.A (call (.ref f) us) (EP X pins σ Q) X.xe s:=by
 have r2:Am (vs++dvs) (us++ds):=r.append hd
 have hl:(us++ds).length=ps.length:=by rw[← r2.length];exact F.len _ _ _ _ h
 refine wpAny_call (codeAny_mono (F.run X.A X.stack s H ⟨us,[]⟩ (us++ds) (vs++dvs) Q E hr I.env0 (hb s us I.kIn hl) r2 h) fun r s' hq=>?_)
 cases r with
 | error e=>exact hx pins σ H s e s' I hq
 | ok fl=>
  cases fl with
  | ret u=>exact I.after hq
  | next=>exact False.elim hq
  | brk=>exact False.elim hq
  | cont=>exact False.elim hq
theorem RQ (F:Ao X.prog X.w X.K X.mg X.base CX k f fd ps sp)(hr:BY k X.A)(hg:Gl X x)(hm:X.mg x=some (.ref f))(hk:PySem.W.keepIn X.K (.ref f)=true)(hb:Ed X.K fd ps ds)(hd:Am dvs ds)(hx:Gb CX X E)
 (ha:PA X (e::es) t) (hdb:(x==("__debug__":Str))=false:=by decide) (he:starEach (e::es) X.env=(false,eval e X.env)::starEach es X.env:=by rfl) (hpl:(backTo pos (starEach es X.env)).any (·.1)=false:=by rfl):
 PE X (.Call (.Name x p) (e::es) [] pos) (ST sp dvs E t):=by
 intro pins s σ H Q I h
 refine wpAny_Call_Name_kw (FL I hg hm ?_ hdb)
 refine PySem.W.callWith_K (h₀:=X.base) I.ok.mod.kin hk (BI (ha pos pins s σ H _ I h) fun us s1 ⟨vs,H1,I1,r,q⟩=>⟨I1.kIn,?_⟩) he hpl
 exact MD F hr hb hd hx I1 r q
theorem Cd {pl:Sem Bool}(he:PE X o ta)(c:RC X.K C)(hm:Jz X.K C m f)(F:Ao X.prog X.w X.K X.mg X.base CX k f fd ps sp)(hr:BY k X.A)(hb:Ed X.K fd ps ds)(hd:Am dvs ds)(hx:Gb CX X E)(ha:PA X (e::es) t)
 (hst:starEach (e::es) X.env=(false,eval e X.env)::starEach es X.env:=by rfl) (hpl:(backTo pos (starEach es X.env)).any (·.1)=false:=by rfl)
 (ht:eval (.Call (.Attribute o m apos) (e::es) [] pos) X.env=(do
  let ov ← eval o X.env
  standAt apos.atName
  let (f,first) ← holding [ov] (getMethod ov m pl)
  callWith pos f first (backTo pos (starEach (e::es) X.env)) (backToKw pos (keywordEach [] X.env))):=by rfl):
 PE X (.Call (.Attribute o m apos) (e::es) [] pos) (Uy C m sp dvs E ta t):=by
 intro pins s σ H Q I h
 refine PySem.W.methodCall_KW (pl:=pl) (BI (he pins s σ H _ I h) fun u s1 zq=>?_) ht
 obtain⟨x,H1,I1,rx,a,dx,fs,ex,ea,l,q⟩:=zq
 subst ex
 obtain rfl:u=Value.ref a:=rx
 refine L9 I1 ea c hm l ?_
 refine PySem.W.callWith_K (first:=[.ref a]) (h₀:=X.base) I.ok.mod.kin hm.kp (BI (ha pos pins s1 σ H1 _ I1 q) fun us s2 ⟨vs,H2,I2,r,q2⟩=>⟨I2.kIn,?_⟩) hst hpl
 exact MD (us:=.ref a::us) (vs:=.ref a::vs) F hr hb hd hx I2 (.cons rfl r) q2
structure Mk (K:PySem.W.Frag)(C f:Addr):Prop where
 makes:PySem.W.makesIn K C=true
 init:PySem.W.findIn K (.ref C) "__init__"=some (some (.ref f))
 fn:PySem.W.isFn K (.ref f)=true
 kp:PySem.W.keepIn K (.ref C)=true
theorem O8 {pins:List (Addr×Obj)}{σ:St}{H:Hp}{s:Shared}{Q:VK}{us:List Value}{vs:List V}(M:Mk X.K C f)(F:Ao X.prog X.w X.K X.mg X.base CX k f fd ps sp)(hr:BY (k+1) X.A)(hb:Ed X.K fd ps ds)(hd:Am dvs ds)
 (hx:Gb CX X E) (I:Af X pins σ H s) (r:Am vs us)
 (h:∀ x dx,H x=none→H dx=none→dx≠x→sp (.ref x::(vs++dvs)) (upd (upd H dx (.own x)) x (.ins C dx [])) (fun v H2=>v=.non∧Q (.ref x) H2) E):
 wpAny (model X.prog X.w) X.A (call (.ref C) us) (EP X pins σ Q) X.xe s:=by
 have hq:=h (s.heap.objs.size+1) s.heap.objs.size (I.hok.fresh (Nat.le_succ _)) (I.hok.fresh (Nat.le_refl _)) (Nat.ne_of_lt (Nat.lt_succ_self _))
 have I2:=Af.made (C:=C) I
 have r2:Am (V.ref (s.heap.objs.size+1)::(vs++dvs)) (Value.ref (s.heap.objs.size+1)::(us++ds)):=.cons rfl (r.append hd)
 have hl:(Value.ref (s.heap.objs.size+1)::us++ds).length=ps.length:=by
  have e:=r2.length
  rw[F.len _ _ _ _ hq]at e
  exact e.symm
 refine wpAny_call (O7 (f:=f) I.kIn M.makes M.init (beq_iff_eq.mp M.fn) (codeAny_mono (F.run _ X.stack _ _ ⟨Value.ref (s.heap.objs.size+1)::us,[]⟩ (Value.ref (s.heap.objs.size+1)::(us++ds)) _ _ E (hr.make C us [])
  (I2.env0.make C us []) (hb _ (Value.ref (s.heap.objs.size+1)::us) I2.kIn hl) r2 hq) fun r s' hq'=>?_))
 cases r with
 | error e=>exact hx pins σ _ _ e s' I2 hq'
 | ok fl=>
  cases fl with
  | ret u=>
   obtain⟨v,H',I3,rv,ev,q3⟩:=I2.after hq'
   subst ev
   exact⟨rv,⟨V.ref (s.heap.objs.size+1),H',I3,rfl,q3⟩⟩
  | next=>exact False.elim hq'
  | brk=>exact False.elim hq'
  | cont=>exact False.elim hq'
theorem RR (M:Mk X.K C f)(F:Ao X.prog X.w X.K X.mg X.base CX k f fd ps sp)(hr:BY (k+1) X.A)(hg:Gl X x)(hm:X.mg x=some (.ref C))(hb:Ed X.K fd ps ds)(hd:Am dvs ds)(hx:Gb CX X E)
 (ha:PA X (e::es) t) (hdb:(x==("__debug__":Str))=false:=by decide) (he:starEach (e::es) X.env=(false,eval e X.env)::starEach es X.env:=by rfl) (hpl:(backTo pos (starEach es X.env)).any (·.1)=false:=by rfl):
 PE X (.Call (.Name x p) (e::es) [] pos) (Uz C sp dvs E t):=by
 intro pins s σ H Q I h
 refine wpAny_Call_Name_kw (FL I hg hm ?_ hdb)
 refine PySem.W.callWith_K (h₀:=X.base) I.ok.mod.kin M.kp (BI (ha pos pins s σ H _ I h) fun us s1 ⟨vs,H1,I1,r,q⟩=>⟨I1.kIn,?_⟩) he hpl
 exact O8 M F hr hb hd hx I1 r q
end
section
variable {X:Cx}{CX:OA}{k:Nat}{f C:Addr}{fd:FuncData}{ps ks:List Str}{sp:Sp}{E:XK}{x m:Str}{p pos apos kpos:Pos}{e o:Expr}{es:List Expr}{kws:List Keyword}{te ta:TE}{t tk:TA}{nm:Option Str}
structure Wt (K:PySem.W.Frag)(fd:FuncData)(ps ks:List Str)(g:List Value→List Value→List Value)(gV:List V→List V→List V):Prop where
 to:∀(s:Shared) (us ws:List Value),K.In s.heap→(g us ws).length=ps.length→BindsTo s fd ⟨us,ks.zip ws⟩ (ps.zip (g us ws))
 rel:∀{vs:List V} {us:List Value} {zs:List V} {ws:List Value},Am vs us→Am zs ws→Am (gV vs zs) (g us ws)
variable {g:List Value→List Value→List Value}{gV:List V→List V→List V}
end
structure AW (N P:List Str)(sc:Scope):Prop where
 kind:sc.kind=.function
 co:sc.isCoroutine=false
 gen:sc.isGenerator=false
 nd:N.Nodup
 pre:N.take P.length=P
 par:∀ x∈P,sc.names.lookup x=some .local∨sc.names.lookup x=some .cell
 nofree:∀ y∈sc.names,y.2≠.free
theorem Jc {kindOf:Str→Option NameKind}{x:Str}:∀{binds:List (Str×Value)} {m:Str→Option Value},(∀ v,(x,v)∉binds)→bindL kindOf binds m x=m x
 | [],_,_=>rfl
 | (n,v)::r,m,h=>by
  unfold bindL
  rw[Jc fun w hw=>h w (List.mem_cons_of_mem _ hw)]
  split
  ·have:x≠n:=by rintro rfl;exact h v List.mem_cons_self
   simp[this]
  ·rfl
theorem Jd {kindOf:Str→Option NameKind}{x:Str}:∀{binds:List (Str×Value)} {m:Str→Option Value},(∀ v,(x,v)∉binds)→bindC kindOf binds m x=m x
 | [],_,_=>rfl
 | (n,v)::r,m,h=>by
  unfold bindC
  rw[Jd fun w hw=>h w (List.mem_cons_of_mem _ hw)]
  split
  ·rfl
  ·have:x≠n:=by rintro rfl;exact h v List.mem_cons_self
   simp[this]
theorem Je {kindOf:Str→Option NameKind}{x:Str}{v:Value}:∀{P:List Str} {vs:List Value} {i:Nat} {m:Str→Option Value},P.Nodup→P[i]?=some x→vs[i]?=some v→kindOf x=some .local→
 bindL kindOf (P.zip vs) m x=some v
 | [],_,_,_,_,h,_,_=>by simp at h
 | _::_,[],_,_,_,_,h,_=>by simp at h
 | p::P,w::vs,0,m,nd,h1,h2,hk=>by
  simp at h1 h2;subst h1;subst h2
  show bindL kindOf ((p,w)::P.zip vs) m p=_
  unfold bindL
  rw[Jc fun v hv=>(List.nodup_cons.mp nd).1 (List.of_mem_zip hv).1,if_pos hk]
  simp
 | p::P,w::vs,i+1,m,nd,h1,h2,hk=>by
  show bindL kindOf ((p,w)::P.zip vs) m x=_
  unfold bindL
  exact Je (i:=i) (List.nodup_cons.mp nd).2 (by simpa using h1) (by simpa using h2) hk
theorem Jf {kindOf:Str→Option NameKind}{x:Str}{v:Value}:∀{P:List Str} {vs:List Value} {i:Nat} {m:Str→Option Value},P.Nodup→P[i]?=some x→vs[i]?=some v→kindOf x≠some .local→
 bindC kindOf (P.zip vs) m x=some v
 | [],_,_,_,_,h,_,_=>by simp at h
 | _::_,[],_,_,_,_,h,_=>by simp at h
 | p::P,w::vs,0,m,nd,h1,h2,hk=>by
  simp at h1 h2;subst h1;subst h2
  show bindC kindOf ((p,w)::P.zip vs) m p=_
  unfold bindC
  rw[Jd fun v hv=>(List.nodup_cons.mp nd).1 (List.of_mem_zip hv).1,if_neg hk]
  simp
 | p::P,w::vs,i+1,m,nd,h1,h2,hk=>by
  show bindC kindOf ((p,w)::P.zip vs) m x=_
  unfold bindC
  exact Jf (i:=i) (List.nodup_cons.mp nd).2 (by simpa using h1) (by simpa using h2) hk
def Eo (N:List Str)(vs:List V):St:=vs.map some++List.replicate (N.length-vs.length) none
def IM (CX:OA)(P:Program)(w:World)(K:PySem.W.Frag)(mg:Str→Option Value)(base:Heap)(N:List Str)(qual:Str)(scope:Scope)(f:Addr)(cd:Value)(A:Around)(outer:List Env)(s:Shared)(H:Hp)(E:XK):Cx where
 prog:=P
 w:=w
 K:=K
 mg:=mg
 base:=base
 A:=A.deeper (envOfC qual scope s.heap.objs.size f cd)
 N:=N
 s₀:=s
 H₀:=H
 env:=envOfC qual scope s.heap.objs.size f cd
 outer:=outer
 stack:=envOfC qual scope s.heap.objs.size f cd::outer
 ex:=[]
 calm:=true
 fn:=fun _=>true
 pn:=[]
 xe:=fun e s'=>wpAny (model P w) (A.deeper (envOfC qual scope s.heap.objs.size f cd)) (leaving (envOfC qual scope s.heap.objs.size f cd) e) (fun _ s''=>CX outer H s E e s'') (fun e' s''=>CX outer H s E e' s'') s'
theorem K3 {sc:Scope}{n:Nat}{x:Str}(h:sc.names.lookup x=some .cell):∃ c,(cellsFrom n sc.names []).lookup x=some c:=by
 have q:=PySem.W.cellsFrom_some sc.names n [] (.inl h)
 exact Option.isSome_iff_exists.mp q
theorem OB {CX:OA}{P:Program}{w:World}{K:PySem.W.Frag}{mg:Str→Option Value}{base:Heap}{N ps:List Str}{qual:Str}{scope:Scope}{f:Addr}{cd:Value}{A:Around}{outer:List Env}{s s1:Shared}{H:Hp}{E:XK}{us:List Value}{vs:List V}
 (S:AW N ps scope) (hd:A.handled=none) (e0:IL P w K mg base A outer s H) (hl:vs.length=ps.length) (r:Am vs us)
 (x:InCallC s s.heap.objs.size (bindL (envOfC qual scope s.heap.objs.size f cd).kindOf (ps.zip us) fun _=>none) (cellsFrom (s.heap.objs.size+1) scope.names []) (bindC (envOfC qual scope s.heap.objs.size f cd).kindOf (ps.zip us) fun _=>none) s1):
 Af (IM CX P w K mg base N qual scope f cd A outer s H E) [] (Eo N vs) H s1:=by
 have hpl:ps.length≤N.length:=by have:=congrArg List.length S.pre;rw[List.length_take]at this;omega
 obtain⟨h1,tk,rfl,hk⟩:=x.done
 have noA:∀ b:Addr,b∉(IM CX P w K mg base N qual scope f cd A outer s H E).ex:=fun b z=>absurd (show b∈([]:List Addr)from z) (by simp)
 refine⟨⟨e0.mod,S.kind,rfl,rfl,Nat.le_refl _,fun y z c h1 h2=>?_,fun y hy=>?_,fun y c _ h=>?_,fun _=>hd,Around.frames_deeper e0.frames,.inr ⟨rfl,rfl⟩,fun b z=>absurd z (noA b),e0.bs,e0.bsz,fun b _ _=>noA b,fun b z=>absurd z (noA b),e0.funs,e0.frf⟩,
  rfl,e0.bare,Un.kept hk,⟨_,x.toInCall.ns,fun i y v h1 h2 h3=>?_⟩,fun y c h=>⟨_,x.cell y c h⟩,e0.hok.fresh (Nat.le_refl _),fun y c h=>?_,fun p hp=>absurd (show p∈([]:List (Addr×Obj))from hp) (by simp),e0.hok.kept hk,?_⟩
 ·exact name_of_addr x.apart (PySem.mem_of_lookup h1) (PySem.mem_of_lookup h2)
 ·have hy:scope.names.lookup y=some .cell∨scope.names.lookup y=some .free:=hy
  rcases hy with hy | hy
  ·exact K3 hy
  ·exact absurd rfl (S.nofree _ (PySem.mem_of_lookup hy))
 ·exact Nat.le_of_lt (x.above y c (PySem.mem_of_lookup h))
 ·have hi:i<vs.length:=by
   unfold Eo at h2
   by_cases hi:i<vs.length
   ·exact hi
   ·rw[List.getElem?_append_right (by simpa using hi)]at h2
    rw[List.getElem?_replicate]at h2
    split at h2 <;> cases h2
  have ha:vs[i]?=some v:=by
   unfold Eo at h2
   rw[List.getElem?_append_left (by simpa using hi),List.getElem?_map]at h2
   cases e:vs[i]? with
   | none=>rw[e]at h2;cases h2
   | some a=>rw[e]at h2;cases h2;rfl
  obtain⟨u,hu,rv⟩:=r.get ha
  have hp:ps[i]?=some y:=by
   rw[← S.pre,List.getElem?_take_of_lt (by omega)];exact h1
  have ndP:ps.Nodup:=by rw[← S.pre];exact S.nd.sublist (List.take_sublist _ _)
  refine⟨u,rv,?_⟩
  rcases S.par y (List.mem_of_getElem? hp)with k | k
  ·exact .inl ⟨k,Je ndP hp hu k⟩
  ·obtain⟨c,e⟩:=K3 (n:=s.heap.objs.size+1) k
   refine .inr ⟨.inl k,c,e,?_⟩
   have q:=x.cell y c e
   rw[Jf ndP hp hu (by show scope.names.lookup y≠_;rw[k];decide)]at q
   exact q
 ·exact e0.hok.fresh (Nat.le_of_lt (x.above y c (PySem.mem_of_lookup h)))
 ·unfold Eo
  show _=N.length
  rw[List.length_append,List.length_map,List.length_replicate]
  omega
theorem SU {CX:OA}{P:Program}{w:World}{K:PySem.W.Frag}{mg:Str→Option Value}{base:Heap}{k:Nat}{f:Addr}{name qual:Str}{params:Arguments}{body:List Stmt}{scope:Scope}{dV kV doc pm cdv ct oc:Value}{an od:Option Addr}
 {osl:Array (Option Value)} {N ps:List Str} {sp:Sp} (lk:K.lookup f=some ⟨oc,od,.func (PySem.W.fnOf name qual params body scope dV kV doc pm an cdv ct),osl⟩) (hcd:PySem.W.codeIn K cdv qual=true) (S:AW N ps scope)
 (len:∀ vs H Q E,sp vs H Q E→vs.length=ps.length)
 (hbody:∀(A:Around) (outer:List Env) (s:Shared) (H:Hp) (vs:List V) (Q:VK) (E:XK),BY k (A.deeper (envOfC qual scope s.heap.objs.size f cdv))→sp vs H Q E→
  ∃ t,Ky (IM CX P w K mg base N qual scope f cdv A outer s H E) body t∧t { nx:=fun _ H'=>Q .non H',rt:=Q } (Eo N vs) H):
 Ao P w K mg base CX (k+1) f (PySem.W.fnOf name qual params body scope dV kV doc pm an cdv ct) ps sp:=by
 refine⟨len,fun A outer s H args us vs Q E hr e0 hb r hsp=>?_⟩
 have hl:=len _ _ _ _ hsp
 have KX:K.In s.heap:=e0.mod.kin.keeps fun b o e=>(e0.bs b o e).1
 have lim:s.heap.NoLimit:=e0.mod.nolimit.keeps fun b o e=>(e0.bs b o e).1
 have hkind:∀ y∈ps.zip us,scope.names.lookup y.1=some .local∨(scope.names.lookup y.1=some .cell∧((cellsFrom (s.heap.objs.size+1) scope.names []).lookup y.1).isSome=true):=fun⟨n,v⟩ hy=>by
  rcases S.par n (List.of_mem_zip hy).1 with q | q
  ·exact .inl q
  ·exact .inr ⟨q,PySem.W.cellsFrom_some _ _ _ (.inl q)⟩
 refine codeAny_call_function hr.depth (KX _ _ lk) rfl S.co S.gen rfl (PySem.W.codeRec_of KX hcd) (hb _ _ _ _ ?_)
 refine wpAny_newFunctionEnv_cells S.kind hkind fun env he s1 x=>?_
 subst he
 refine⟨lim.keeps x.toInCall.keep,codeAny_func ?_⟩
 obtain⟨t,ht,hq⟩:=hbody A outer s H vs Q E (hr.deeper _) hsp
 have I:Af (IM CX P w K mg base N qual scope f cdv A outer s H E) [] (Eo N vs) H s1:=OB S hr.hd e0 hl r x
 refine wpAny_mono (ht [] s1 (Eo N vs) H _ I hq) (fun fl s' hs=>?_) fun e s' hs=>hs
 have fin:∀{σ':St} {H':Hp} {v:V} {u:Value},Af (IM CX P w K mg base N qual scope f cdv A outer s H E) [] σ' H' s'→Ai v u→Q v H'→CE outer P w H s Q u s':=
  fun {σ' H' v u} J rv q=>⟨v,H',J.os,J.bare,J.base,J.hok,rv,q⟩
 cases fl with
 | ret u=>
  obtain⟨v,σ',H',J,rv,q⟩:=hs
  exact fin J rv q
 | next=>
  obtain⟨σ',H',J,q⟩:=hs
  exact fin (v:=V.non) (u:=Value.none) J rfl q
 | brk=>
  obtain⟨_,_,_,q⟩:=hs
  exact False.elim q
 | cont=>
  obtain⟨_,_,_,q⟩:=hs
  exact False.elim q
section
variable {X:Cx}{x:Str}{p pos:Pos}{e:Expr}{es:List Expr}{t:TA}{id T:String}{r:List V→Hp→VK→Prop}
def Xi (r:List V→Hp→VK→Prop)(t:TA):TE:=fun σ H Q=>t σ H fun vs H1=>r vs H1 Q
theorem AN (hc:Ci X (.builtin id) r)(hg:Gl X x)(hm:X.mg x=none)(hv:bootBuiltins x=some (.builtin id))(ha:PA X (e::es) t)(hn:x≠"__name__":=by decide)(hdb:(x==("__debug__":Str))=false:=by decide)
 (he:starEach (e::es) X.env=(false,eval e X.env)::starEach es X.env:=by rfl) (hpl:(backTo pos (starEach es X.env)).any (·.1)=false:=by rfl):PE X (.Call (.Name x p) (e::es) [] pos) (Xi r t):=by
 intro pins s σ H Q I h
 refine wpAny_Call_Name_kw (Dp I hg hm hv ?_ hn hdb)
 exact PyProof.Rows.callWith_builtin1 (BI (ha pos pins s σ H _ I h) fun us s1 ⟨vs,H1,I1,r1,q1⟩=>hc pins s1 σ H1 vs us Q I1 r1 q1) he hpl
theorem Bu (hc:Ci X (.type T) r)(hg:Gl X x)(hm:X.mg x=none)(hv:bootBuiltins x=some (.type T))(ha:PA X (e::es) t)(hn:x≠"__name__":=by decide)(hdb:(x==("__debug__":Str))=false:=by decide)
 (he:starEach (e::es) X.env=(false,eval e X.env)::starEach es X.env:=by rfl) (hpl:(backTo pos (starEach es X.env)).any (·.1)=false:=by rfl):PE X (.Call (.Name x p) (e::es) [] pos) (Xi r t):=by
 intro pins s σ H Q I h
 refine wpAny_Call_Name_kw (Dp I hg hm hv ?_ hn hdb)
 exact PyProof.Rows.callWith_type1 (BI (ha pos pins s σ H _ I h) fun us s1 ⟨vs,H1,I1,r1,q1⟩=>hc pins s1 σ H1 vs us Q I1 r1 q1) he hpl
end
end L2
namespace HT
open PySem PyProof.Rows
section
variable {prog:Program}{w:World}{A:Around}{E:Value→Shared→Prop}{s:Shared}
theorem RS {t b:Addr}{vs ws:List Value}{Q:Value→Shared→Prop}(ht:IsTup s.heap t vs.toArray)(hb:IsTup s.heap b ws.toArray)(hv:vs≠[])
 (h1:ws=[]→Q (.ref t) s) (h2:ws≠[]→Q (.ref s.heap.objs.size) { s with heap:=s.heap.push { cls:=.type "tuple",data:=.seq (vs++ws).toArray } })
 (hsz:vs.length+ws.length≤sizeLine):wpAny (model prog w) A (binaryOp .Add (.ref t) (.ref b)) Q E s:=by
 obtain⟨⟨cls,dd,data,sl⟩,ho,hc,n,hd⟩:=id ht
 obtain⟨⟨cls2,dd2,data2,sl2⟩,ho2,hc2,n2,hd2⟩:=id hb
 simp only at hc hd hc2 hd2
 subst hc hd hc2 hd2
 have e:vs.toArray++ws.toArray=(vs++ws).toArray:=by simp
 by_cases hw:ws=[]
 ·exact concat_meets ⟨_,ho,rfl⟩ ⟨_,ho2,rfl⟩ noFill_tuple_add seq_tuple_add PySem.F.slot_tuple_add PySem.F.entry_tuple_add (PySem.F.args_tuple_add_2 _ _)
   (tuple_addW1 t b vs.toArray ws.toArray n n2 dd dd2 sl sl2 (by simpa using hv) (by simp[hw])) ⟨ho,ho2,h1 hw⟩
 ·refine concat_meets ⟨_,ho,rfl⟩ ⟨_,ho2,rfl⟩ noFill_tuple_add seq_tuple_add PySem.F.slot_tuple_add PySem.F.entry_tuple_add (PySem.F.args_tuple_add_2 _ _)
   (tuple_addW2 t b vs.toArray ws.toArray n n2 dd dd2 sl sl2 (by simpa using hv) (by simpa using hw) (by rw[List.size_toArray,List.size_toArray];exact hsz)) ⟨ho,ho2,?_⟩
  rw[e]
  exact h2 hw
def CK (n d:Nat):Option Int→Nat
 | none=>d
 | some v=>if v<0 then(v+(n:Int)).toNat else min v.toNat n
theorem S8 (n d:Nat)(hd:d≤n)(o:Option Int):CK n d o≤n:=by
 cases o with
 | none=>exact hd
 | some v=>
  show(if v<0 then(v+(n:Int)).toNat else min v.toNat n)≤n
  by_cases hv:v<0
  ·rw[if_pos hv];omega
  ·rw[if_neg hv];exact Nat.min_le_right _ _
theorem NG (v:Int)(n d:Nat):(if v<0 then max (v+(n:Int)) 0 else min v (n:Int))=((CK n d (some v):Nat):Int):=by
 show(if v<0 then max (v+(n:Int)) 0 else min v (n:Int))=(((if v<0 then(v+(n:Int)).toNat else min v.toNat n):Nat):Int)
 by_cases hv:v<0
 ·simp only[if_pos hv];omega
 ·simp only[if_neg hv];omega
theorem ME (lo hi:Option Int)(n:Nat):Builtin.Slice.sliceAdjust lo hi 1 (n:Int)=(((CK n 0 lo:Nat):Int),((CK n n hi:Nat):Int)):=by
 have h1:¬ ((1:Int)<0):=by omega
 unfold Builtin.Slice.sliceAdjust
 simp only[h1,if_false]
 refine Prod.ext ?_ ?_
 ·cases lo with
  | none=>rfl
  | some v=>exact NG v n 0
 ·cases hi with
  | none=>rfl
  | some v=>exact NG v n n
theorem MF (i j:Nat):Builtin.Slice.slicePlaces (i:Int) (j:Int) 1=j-i:=by
 unfold Builtin.Slice.slicePlaces
 have h1:(1:Int)>0:=by omega
 simp only[h1,if_true,Int.ediv_one]
 split <;> omega
theorem IN {v:Value}{o:Option Int}{Q:Option Int→Shared→Prop}(p:IsPart v o)(h:Q o s):wpAny (model prog w) A (Builtin.Slice.slicePartIndex v) Q E s:=by
 cases p with
 | none=>exact slicePart_none h
 | int i t=>exact slicePart_int h
theorem Gc {sl:Addr}{vl vu:Value}{lo hi:Option Int}{n:Nat}{Q:Int×Int×Nat→Shared→Prop}(hs:s.heap.IsSliceOf sl vl vu .none)(pl:IsPart vl lo)(pu:IsPart vu hi)
 (h:Q (((CK n 0 lo:Nat):Int),1,CK n n hi-CK n 0 lo) s):wpAny (model prog w) A (Builtin.Slice.sliceApplied (.ref sl) (pure (n:Int))) Q E s:=by
 obtain⟨os,hos,hcs,hds⟩:=id hs
 unfold Builtin.Slice.sliceApplied Builtin.Slice.sliceFields
 refine wpAny_bind (wpAny_bind (wpAny_field hos hds (x:=vl) rfl (wpAny_bind (wpAny_field hos hds (x:=vu) rfl (wpAny_bind (wpAny_field hos hds (x:=.none) rfl (wpAny_pure ?_)))))))
 refine wpAny_bind (slicePart_none ?_)
 show wpAny _ _ (if((1:Int)==0)=true then _ else _) _ _ s
 rw[if_neg (by decide)]
 refine wpAny_bind (IN pl (wpAny_bind (IN pu (wpAny_bind (wpAny_pure ?_)))))
 show wpAny _ _ (match Builtin.Slice.sliceAdjust lo hi 1 (n:Int)with | (lo,hi)=>pure (lo,(1:Int),Builtin.Slice.slicePlaces lo hi 1)) _ _ s
 rw[ME lo hi n]
 show wpAny _ _ (pure (((CK n 0 lo:Nat):Int),(1:Int),Builtin.Slice.slicePlaces ((CK n 0 lo:Nat):Int) ((CK n n hi:Nat):Int) 1)) _ _ s
 rw[MF]
 exact wpAny_pure h
theorem O9 (xs:Array Value)(i k:Nat):((List.range k).filterMap fun(m:Nat)=>xs[((i:Int)+(m:Int)*1).toNat]?).toArray=((xs.toList.drop i).take k).toArray:=by
 have e:(fun(m:Nat)=>xs[((i:Int)+(m:Int)*1).toNat]?)=fun m=>xs[i+m]?:=by
  funext m
  have:((i:Int)+(m:Int)*1).toNat=i+m:=by omega
  rw[this]
 rw[e]
 have:=pick_run xs i k
 rw[List.filterMap_map]at this
 have e2:((fun x=>xs[x]?)∘fun x=>i+x)=fun m=>xs[i+m]?:=rfl
 rw[e2]at this
 rw[this]
theorem GA {t sl:Addr}{items:Array Value}{vl vu:Value}{lo hi:Option Int}{Q:Value→Shared→Prop}(ht:IsTup s.heap t items)(hs:s.heap.IsSliceOf sl vl vu .none)(pl:IsPart vl lo)(pu:IsPart vu hi)
 (hw:¬ (CK items.size 0 lo=0∧CK items.size items.size hi=items.size))
 (h:Q (.ref s.heap.objs.size) { s with heap:=s.heap.push { cls:=.type "tuple",data:=.seq ((items.toList.drop (CK items.size 0 lo)).take (CK items.size items.size hi-CK items.size 0 lo)).toArray } })
 (hsz:items.size≤sizeLine):wpAny (model prog w) A (getItem (.ref t) (.ref sl)) Q E s:=by
 have htake:sizeOk (.seq ((items.toList.drop (CK items.size 0 lo)).take (CK items.size items.size hi-CK items.size 0 lo)).toArray):=by
  show((items.toList.drop (CK items.size 0 lo)).take (CK items.size items.size hi-CK items.size 0 lo)).toArray.size≤sizeLine
  rw[List.size_toArray,List.length_take,List.length_drop,Array.length_toList]
  omega
 have hj:CK items.size items.size hi≤items.size:=S8 _ _ (Nat.le_refl _) hi
 obtain⟨os,hos,hcs,hds⟩:=id hs
 have hTs:s.TypeIs (.ref sl) "slice":=⟨os,hos,hcs⟩
 unfold getItem
 try with_reducible refine wpAny_holding ?_
 first | refine wpAny_bind (wpAny_pure ?_) | skip
 refine wpAny_bind (wpAny_sequenceKey ht.typeIs (by decide) ?_)
 refine wpAny_bind (wpAny_callSpecial?_slot (name:=Str.ofString "__getitem__") ht.typeIs PyProof.Rows.slot_tuple_getitem
  (wpAny_call_entry PyProof.Rows.slot_tuple_getitem ht.typeIs entry_tuple_getitem ?_ (args_tuple_getitem _ _)))
 show wpAny _ _ (Builtin.Tuple.tupleItemsOf (.ref t) >>= _) _ _ s
 refine wpAny_bind (tupleItemsOf_ ht ?_)
 refine wpAny_bind (wpAny_typeOf hTs ?_)
 rw[if_pos (by decide)]
 refine wpAny_bind (Gc hs pl pu ?_)
 have hno:¬ ((((CK items.size 0 lo:Nat):Int)==0&&(1:Int)==1&&(CK items.size items.size hi-CK items.size 0 lo)==items.size)=true):=by
  intro q
  rw[Bool.and_eq_true,Bool.and_eq_true]at q
  have q1:((CK items.size 0 lo:Nat):Int)=0:=eq_of_beq q.1.1
  have q2:CK items.size items.size hi-CK items.size 0 lo=items.size:=eq_of_beq q.2
  exact hw ⟨by omega,by omega⟩
 show wpAny _ _ (if(((CK items.size 0 lo:Nat):Int)==0&&(1:Int)==1&&(CK items.size items.size hi-CK items.size 0 lo)==items.size)=true then _ else _) _ _ s
 rw[if_neg hno,O9]
 first
  | exact wpAny_bind (m:=Builtin.Tuple.tupleExact _) (wpAny_newObj_type (wpAny_pure ⟨_,rfl,wpAny_pure h⟩) htake)
  | exact wpAny_bind (m:=Builtin.Tuple.tupleExact _) (wpAny_newObj_type (wpAny_bind (wpAny_pure (wpAny_pure ⟨_,rfl,wpAny_pure h⟩))) htake)
  | exact wpAny_bind (wpAny_bind (m:=Builtin.Tuple.tupleExact _) (wpAny_newObj_type (wpAny_pure (wpAny_pure ⟨_,rfl,wpAny_pure h⟩)) htake))
  | exact wpAny_bind (wpAny_bind (m:=Builtin.Tuple.tupleExact _) (wpAny_newObj_type (wpAny_pure ⟨_,rfl,wpAny_pure h⟩) htake))
end
end HT
namespace L2
open PySem PySem.Spec PyProof.Rows
abbrev TO:=St→Hp→(Option Int→Hp→Prop)→Prop
def PO (X:Cx)(e:Option Expr)(t:TO):Prop:=
 ∀(pins:List (Addr×Obj)) (s:Shared) (σ:St) (H:Hp) (Q:Option Int→Hp→Prop),Af X pins σ H s→t σ H Q→
  wpAny (model X.prog X.w) X.A (evalPart e X.env) (fun u s'=>∃ o H',Af X pins σ H' s'∧IsPart u o∧Q o H') X.xe s
def RT:TO:=fun _ H Q=>Q none H
def U0 (t:TE):TO:=fun σ H Q=>t σ H fun x H1=>∃ i,x=.int i∧Q (some i) H1
section
variable {X:Cx}{e:Expr}{te:TE}{lo hi:Option Expr}{tl th:TO}{pos p2:Pos}
theorem J1:PO X none RT:=by
 intro pins s σ H Q I h
 rw[evalPart_none]
 exact wpAny_pure ⟨none,H,I,.none,h⟩
theorem J3 (h:PE X e te):PO X (some e) (U0 te):=by
 intro pins s σ H Q I hw
 rw[evalPart_some]
 refine BI (h pins s σ H _ I hw) fun u s1 zq=>?_
 obtain⟨x,H1,I1,r1,q1⟩:=zq
 obtain⟨i,rfl,q⟩:=q1
 obtain⟨t,rfl⟩:=r1
 exact⟨some i,H1,I1,.int i t,q⟩
def WS (X:Cx)(r:V→Option Int→Option Int→Hp→VK→Prop):Prop:=
 ∀(pins:List (Addr×Obj)) (s:Shared) (σ:St) (H:Hp) (x:V) (v vl vu:Value) (lo hi:Option Int) (sl:Addr) (Q:VK),Af X pins σ H s→Ai x v→s.heap.IsSliceOf sl vl vu .none→IsPart vl lo→IsPart vu hi→r x lo hi H Q→
  ∃ T id,typeLookup (.type T) "__getitem__"=pure (some (.builtin id))∧s.TypeIs v T∧wpAny (model X.prog X.w) X.A (getItem v (.ref sl)) (EP X pins σ Q) X.xe s
def X5 (r:V→Option Int→Option Int→Hp→VK→Prop)(te:TE)(tl th:TO):TE:=fun σ H Q=>te σ H fun x H1=>tl σ H1 fun l H2=>th σ H2 fun u H3=>r x l u H3 Q
theorem IO {r:V→Option Int→Option Int→Hp→VK→Prop}(hr:WS X r)(he:PE X e te)(hl:PO X lo tl)(hu:PO X hi th):PE X (.Subscript e (.Slice lo hi none p2) pos) (X5 r te tl th):=by
 intro pins s σ H Q I h
 refine Subscript_ (BI (he pins s σ H _ I h) fun v s1 zq=>?_)
 obtain⟨x,H1,I1,r1,q1⟩:=zq
 refine wpAny_Slice (BI (hl pins s1 σ H1 _ I1 q1) fun vl s2 ⟨l,H2,I2,pl,q2⟩=>BI (hu pins s2 σ H2 _ I2 q2) fun vu s3 zq=>?_)
 obtain⟨u,H3,I3,pu,q3⟩:=zq
 rw[evalPart_none]
 refine wpAny_pure ?_
 have I4:Af X pins σ H3 { s3 with heap:=s3.heap.push { cls:=.type "slice",data:=.fields #[vl,vu,.none] } }:=I3.kept (t':=s3.toks) fun b ob q=>Heap.get?_push_of_some _ q
 obtain⟨T,id,hT,ht,hg⟩:=hr pins { s3 with heap:=s3.heap.push { cls:=.type "slice",data:=.fields #[vl,vu,.none] } } σ H3 x v vl vu l u s3.heap.objs.size Q I4 r1 (Heap.IsSliceOf.new ..) pl pu q3
 show wpAny (model X.prog X.w) X.A (subscriptTail e (.Slice lo hi none p2) v (.ref s3.heap.objs.size)) (EP X pins σ Q) X.xe { s3 with heap:=s3.heap.push { cls:=.type "slice",data:=.fields #[vl,vu,.none] } }
 exact tail_any (ops:=[.ref s3.heap.objs.size,v]) ht hT hg (by with_unfolding_all rfl)
def FS (xs:List V)(lo hi:Option Int):List V:=(xs.drop (HT.CK xs.length 0 lo)).take (HT.CK xs.length xs.length hi-HT.CK xs.length 0 lo)
theorem Ep (xs:List V)(lo hi:Option Int):(FS xs lo hi).length≤xs.length:=by
 unfold FS
 rw[List.length_take,List.length_drop]
 omega
def Wu (K:PySem.W.Frag):V→Option Int→Option Int→Hp→VK→Prop:=fun x lo hi H Q=>∃ a xs,x=.ref a∧Ae K H a xs∧
 ¬ (HT.CK xs.length 0 lo=0∧HT.CK xs.length xs.length hi=xs.length)∧∀ p,H p=none→Q (.ref p) (upd H p (.tup (FS xs lo hi)))
theorem S9:WS X (Wu X.K):=by
 intro pins s σ H x v vl vu lo hi sl Q I rx hs pl pu h
 obtain⟨a,xs,rfl,hx,hw,q⟩:=h
 cases rx
 obtain⟨its,r,ht,hz⟩:=I.tuple hx
 have hlen:its.toArray.size=xs.length:=by rw[List.size_toArray];exact r.length.symm
 refine⟨"tuple",_,PyProof.Rows.slot_tuple_getitem.lookup,ht.typeIs,?_⟩
 refine HT.GA ht hs pl pu (by rw[hlen];exact hw) ?_ (by rw[hlen];exact hz)
 rw[hlen]
 refine⟨.ref s.heap.objs.size,_,I.laid (t':=s.toks) (o:=.tup (FS xs lo hi)) (fun b ob q=>Heap.get?_push_of_some _ q) (Nat.le_refl _) ?_,rfl,q _ (I.hok.fresh (Nat.le_refl _))⟩
 exact⟨Nat.le_trans (Ep xs lo hi) hz,_,(r.drop (HT.CK xs.length 0 lo)).take (HT.CK xs.length xs.length hi-HT.CK xs.length 0 lo),IsTup.new _ _⟩
def U1 (K:PySem.W.Frag):R2:=fun x y H Q=>∃ a b xs ys,x=.ref a∧y=.ref b∧Ae K H a xs∧Ae K H b ys∧xs≠[]∧xs.length+ys.length≤sizeLine∧
 (ys=[]→Q (.ref a) H)∧(ys≠[]→∀ p,H p=none→Q (.ref p) (upd H p (.tup (xs++ys))))
theorem Am.nil_iff {xs:List V}{us:List Value}(r:Am xs us):us=[]↔xs=[]:=by
 cases r with
 | nil=>simp
 | cons _ _=>simp
theorem NH:FR X (binaryOp .Add) (U1 X.K):=by
 intro pins s σ H x y v u Q I rx ry h
 obtain⟨a,b,xs,ys,rfl,rfl,ha,hb,hx,hz,q1,q2⟩:=h
 cases rx
 cases ry
 obtain⟨its,r1,p1,_⟩:=I.tuple ha
 obtain⟨its2,r2,p2,_⟩:=I.tuple hb
 refine HT.RS p1 p2 (fun z=>hx (r1.nil_iff.mp z)) (fun z=>⟨.ref a,H,I,rfl,q1 (r2.nil_iff.mp z)⟩) (fun z=>?_) (by rw[← r1.length,← r2.length];exact hz)
 refine⟨.ref s.heap.objs.size,_,I.laid (t':=s.toks) (o:=.tup (xs++ys)) (fun b ob q=>Heap.get?_push_of_some _ q) (Nat.le_refl _) ?_,rfl,q2 (fun w=>z (r2.nil_iff.mpr w)) _ (I.hok.fresh (Nat.le_refl _))⟩
 exact⟨by rw[List.length_append];exact hz,_,r1.append r2,IsTup.new _ _⟩
end
def SV (n:Nat)(i:Int):Option Nat:=if 0≤i then(if i<n then some i.toNat else none)else if -(n:Int)≤i then some (i+n).toNat else none
def K4 {α:Type}(xs:List α)(i:Int):Option α:=(SV xs.length i).bind fun j=>xs[j]?
theorem NI {n:Nat}{i:Int}{j:Nat}(h:SV n i=some j):seqIndex? i n=some j∧j<n∧-(n:Int)≤i∧i<n:=by
 unfold SV at h
 by_cases h0:0≤i
 ·rw[if_pos h0]at h
  by_cases h1:i<n
  ·rw[if_pos h1]at h
   have e:i.toNat=j:=Option.some.inj h
   exact⟨by rw[seqIndex_of h0 h1,e],by omega,by omega,h1⟩
  ·rw[if_neg h1]at h;cases h
 ·rw[if_neg h0]at h
  by_cases h1:-(n:Int)≤i
  ·rw[if_pos h1]at h
   have e:(i+n).toNat=j:=Option.some.inj h
   exact⟨by rw[seqIndex_neg (by omega) h1,e],by omega,h1,by omega⟩
  ·rw[if_neg h1]at h;cases h
theorem NJ {α:Type}{xs:List α}{i:Int}{v:α}(h:K4 xs i=some v):∃ j,seqIndex? i xs.length=some j∧xs[j]?=some v∧j<xs.length∧-(xs.length:Int)≤i∧i<xs.length:=by
 unfold K4 at h
 cases e:SV xs.length i with
 | none=>rw[e]at h;cases h
 | some j=>
  rw[e]at h
  obtain⟨h1,h2,h3,h4⟩:=NI e
  exact⟨j,h1,h,h2,h3,h4⟩
theorem BZ {α:Type}{xs:List α}{j:Nat}{v:α}(h:xs[j]?=some v):K4 xs (j:Int)=some v:=by
 have hj:j<xs.length:=(List.getElem?_eq_some_iff.mp h).1
 have e:SV xs.length (j:Int)=some j:=by
  unfold SV
  rw[if_pos (by omega),if_pos (by omega)];simp
 unfold K4;rw[e];exact h
def RU (b:Expr):Prop:=∀ o i,subscripted b false o i=operate [o,i] (getItem o i)
def UZ (X:Cx)(r:R2):Prop:=
 ∀(value slice:Expr) (pins:List (Addr×Obj)) (s:Shared) (σ:St) (H:Hp) (x y:V) (v u:Value) (Q:VK),Af X pins σ H s→Ai x v→Ai y u→r x y H Q→
  subscripted slice false v u=operate [v,u] (getItem v u)→wpAny (model X.prog X.w) X.A (subscriptTail value slice v u) (EP X pins σ Q) X.xe s
def Wv (X:Cx)(id:String)(r:V→List V→Hp→VK→Prop):Prop:=
 ∀(pins:List (Addr×Obj)) (s:Shared) (σ:St) (H:Hp) (x:V) (xs:List V) (v:Value) (us:List Value) (Q:VK),Af X pins σ H s→Ai x v→Am xs us→r x xs H Q→
  wpAny (model X.prog X.w) X.A (call (.builtin id) (v::us)) (EP X pins σ Q) X.xe s
section
variable {X:Cx}{a b:Expr}{ta tb:TE}{pos:Pos}
theorem AU {r:R2}(hr:UZ X r)(ha:PE X a ta)(hb:PE X b tb)(hs:RU b):PE X (.Subscript a b pos) (Ut r ta tb):=by
 intro pins s σ H Q I h
 exact Subscript_ (S7 ha hb I h fun v u s2 x y H2 I2 rx ry q=>hr a b pins s2 σ H2 x y v u Q I2 rx ry q (hs _ _))
def U2 (K:PySem.W.Frag):R2:=fun x y H Q=>∃ p xs i v,x=.ref p∧y=.int i∧At K H p xs∧K4 xs i=some v∧Q v H
def U3 (K:PySem.W.Frag):R2:=fun x y H Q=>∃ p xs i v,x=.ref p∧y=.int i∧Ae K H p xs∧K4 xs i=some v∧Q v H
theorem Ce:UZ X (U2 X.K):=by
 intro value slice pins s σ H x y v u Q I rx ry h hs
 obtain⟨p,xs,i,z,rfl,rfl,hq,he,q⟩:=h
 cases rx
 obtain⟨t,rfl⟩:=ry
 obtain⟨its,r,pl,hz⟩:=I.list hq
 obtain⟨j,h1,h2,h3,h4,h5⟩:=NJ he
 obtain⟨w,ew,rw'⟩:=r.get h2
 have hl:=r.length
 have hn:=IJ
 have fin:EP X pins σ Q w s:=⟨z,H,I,rw',q⟩
 by_cases h0:0≤i
 ·have hj:i.toNat=j:=by
   rw[seqIndex_of h0 h5]at h1
   exact Option.some.inj h1
  exact item_listR pl.isList h0 (by omega) (by rw[hj];simpa using ew) fin hs
 ·have hj:(i+(its.toArray.size:Int)).toNat=j:=by
   rw[seqIndex_neg (by omega) h4]at h1
   rw[List.size_toArray,← hl]
   exact Option.some.inj h1
  exact subscriptTail_builtinR (x:=w) pl.isList.typeIs slot_list_getitem.lookup
   (wpAny_getItem_list_neg (Q:=fun r s'=>r=w∧EP X pins σ Q r s') pl.isList (by omega) (by rw[List.size_toArray] <;> omega) (by omega) (by rw[hj];simpa using ew) ⟨rfl,fin⟩) hs
theorem AM:UZ X (U3 X.K):=by
 intro value slice pins s σ H x y v u Q I rx ry h hs
 obtain⟨p,xs,i,z,rfl,rfl,hq,he,q⟩:=h
 cases rx
 obtain⟨t,rfl⟩:=ry
 obtain⟨its,r,pl,hz⟩:=I.tuple hq
 obtain⟨j,h1,h2,h3,h4,h5⟩:=NJ he
 obtain⟨w,ew,rw'⟩:=r.get h2
 have hl:=r.length
 have hn:=IJ
 have fin:EP X pins σ Q w s:=⟨z,H,I,rw',q⟩
 exact subscriptTail_builtinR (x:=w) pl.typeIs slot_tuple_getitem.lookup
  (getItem_tuple (j:=j) (Q:=fun r s'=>r=w∧EP X pins σ Q r s') pl (by omega) (by omega) (by rw[List.size_toArray,← hl];exact h1) (by simpa using ew) ⟨rfl,fin⟩) hs
theorem MG (its:List Value)(n j:Nat)(u:Value):Obj.mapSeq (·.setIfInBounds j u) { cls:=.type "list",data:=.seq its.toArray n }={ cls:=.type "list",data:=.seq (its.set j u).toArray n }:=by
 simp[Obj.mapSeq]
theorem Af.lst {pins:List (Addr×Obj)}{σ:St}{H:Hp}{s:Shared}{p:Addr}{xs:List V}(I:Af X pins σ H s)(h:H p=some (.lst xs)):
 ∃(its:List Value) (n:Nat),Am xs its∧s.heap.get? p=some { cls:=.type "list",data:=.seq its.toArray n }∧xs.length≤sizeLine:=by
 obtain⟨z,its,n,r,e⟩:=I.hok p _ h
 exact⟨its,n,r,e,z⟩
theorem Af.lstUpd {pins:List (Addr×Obj)}{σ:St}{H:Hp}{s:Shared}{p:Addr}{xs ys:List V}{its its':List Value}{n n':Nat}{f:Obj→Obj}(I:Af X pins σ H s)(h:H p=some (.lst xs))
 (ho:s.heap.get? p=some { cls:=.type "list",data:=.seq its.toArray n }) (hf:f { cls:=.type "list",data:=.seq its.toArray n }={ cls:=.type "list",data:=.seq its'.toArray n' }) (r:Am ys its') (hz:ys.length≤sizeLine) (t:Nat):
 Af X pins σ (upd H p (.lst ys)) { s with heap:=s.heap.update p f,toks:=t }:=by
 have e:(s.heap.update p f).get? p=some { cls:=.type "list",data:=.seq its'.toArray n' }:=by
  rw[Heap.get?_update_self f ho (by rw[hf] <;> rfl),hf]
 refine I.write (x:=p) (e:=p) (by rw[h];trivial) (.inl rfl) (fun b u hb q=>(Heap.get?_update_other _ _ (Ne.symm hb)).trans q) ⟨_,e⟩ ?_
 exact⟨hz,its',n',r,e⟩
def U4:V→V→V→Hp→(Hp→Prop)→Prop:=fun o i v H Q=>∃ p xs k j,o=.ref p∧i=.int k∧H p=some (.lst xs)∧SV xs.length k=some j∧Q (upd H p (.lst (xs.set j v)))
theorem IP:Ul X U4:=by
 intro pins s σ H o i v ov iv u Q I ro ri rv h
 obtain⟨p,xs,k,j,rfl,rfl,hp,hj,q⟩:=h
 cases ro
 obtain⟨t,rfl⟩:=ri
 obtain⟨its,n,r,ho,hz⟩:=I.lst hp
 obtain⟨h1,h2,h3,h4⟩:=NI hj
 have hl:=r.length
 have hn:=IJ
 have I':Af X pins σ (upd H p (.lst (xs.set j v))) { s with heap:=s.heap.update p (Obj.mapSeq (·.setIfInBounds j u)) }:=
  I.lstUpd hp ho (MG its n j u) (r.set rv j) (by rw[List.length_set];exact hz) s.toks
 by_cases h0:0≤k
 ·have hk:k.toNat=j:=by
   rw[seqIndex_of h0 h4]at h1
   exact Option.some.inj h1
  exact PySem.W.ki_setAt ho h0 (by omega) (by rw[List.size_toArray,← hl];exact h4) (by rw[hk];exact⟨_,I',q⟩)
 ·have hk:(k+(its.toArray.size:Int)).toNat=j:=by
   rw[seqIndex_neg (by omega) h3]at h1
   rw[List.size_toArray,← hl]
   exact Option.some.inj h1
  exact PySem.W.ki_setBack ho (by omega) (by rw[List.size_toArray,← hl];exact h3) (by omega) (by rw[hk];exact⟨_,I',q⟩)
theorem J4 (lo hi:Option Int)(n:Nat):(sliceBounds lo hi none n).1=((HT.CK n 0 lo:Nat):Int)∧(sliceBounds lo hi none n).2.1=((HT.CK n n hi:Nat):Int)∧(sliceBounds lo hi none n).2.2=1:=by
 refine⟨?_,?_,rfl⟩
 ·cases lo with
  | none=>simp[sliceBounds,HT.CK]
  | some i=>
   simp only[sliceBounds,HT.CK,Option.getD_none,show(1:Int)>0 by decide,if_true]
   by_cases h:i<0
   ·simp only[h,if_true] <;> omega
   ·simp only[h,if_false] <;> omega
 ·cases hi with
  | none=>simp[sliceBounds,HT.CK]
  | some i=>
   simp only[sliceBounds,HT.CK,Option.getD_none,show(1:Int)>0 by decide,if_true]
   by_cases h:i<0
   ·simp only[h,if_true] <;> omega
   ·simp only[h,if_false] <;> omega
theorem JI (its:List Value)(lo hi:Option Int):slicePick its.toArray lo hi none=((its.drop (HT.CK its.length 0 lo)).take (HT.CK its.length its.length hi-HT.CK its.length 0 lo)).toArray:=by
 obtain⟨h1,h2,h3⟩:=J4 lo hi its.toArray.size
 unfold slicePick
 rw[h1,h2,h3]
 simp only[sliceRange_one,pick_run,List.size_toArray] <;> rfl
def Ww (K:PySem.W.Frag):V→Option Int→Option Int→Hp→VK→Prop:=fun x lo hi H Q=>∃ a xs,x=.ref a∧At K H a xs∧∀ p,H p=none→Q (.ref p) (upd H p (.lst (FS xs lo hi)))
theorem NK:WS X (Ww X.K):=by
 intro pins s σ H x v vl vu lo hi sl Q I rx hs pl pu h
 obtain⟨a,xs,rfl,hx,q⟩:=h
 cases rx
 obtain⟨its,r,ht,hz⟩:=I.list hx
 have hlen:=r.length
 refine⟨"list",_,slot_list_getitem.lookup,ht.isList.typeIs,?_⟩
 refine wpAny_getItem_list_slice ht.isList hs pl pu .none (by simp) ?_ (by rw[List.size_toArray] <;> omega)
 rw[JI,← hlen]
 refine⟨.ref s.heap.objs.size,_,I.laid (t':=s.toks) (o:=.lst (FS xs lo hi)) (fun b ob q=>Heap.get?_push_of_some _ q) (Nat.le_refl _) ?_,rfl,q _ (I.hok.fresh (Nat.le_refl _))⟩
 exact⟨Nat.le_trans (Ep xs lo hi) hz,_,0,(r.drop (HT.CK xs.length 0 lo)).take (HT.CK xs.length xs.length hi-HT.CK xs.length 0 lo),Heap.get?_push_size _ rfl⟩
def BC:V→Bool
 | .non=>true
 | .bl _=>true
 | .int _=>true
 | .str _=>true
 | _=>false
def Hq:V→V→Bool
 | .non,.non=>true
 | .bl a,.bl b=>a==b
 | .bl a,.int b=>(if a then 1 else 0)==b
 | .int a,.bl b=>a==(if b then 1 else 0)
 | .int a,.int b=>a==b
 | .str a,.str b=>a==b
 | _,_=>false
theorem J5 {A:Around}{s:Shared}{y x:V}{u v:Value}(ry:Ai y u)(rx:Ai x v)(fy:BC y=true)(fx:BC x=true):SeqAt.EqAt A s u v (Hq y x):=by
 cases y with
 | non=>
  cases ry
  cases x with
  | non=>cases rx;exact SeqAt.EqAt.same _
  | bl b=>cases rx;exact SeqAt.EqAt.none_bool b
  | int b=>obtain⟨t,rfl⟩:=rx;exact SeqAt.EqAt.none_int b t
  | str b=>obtain⟨t,rfl⟩:=rx;exact SeqAt.EqAt.none_str b t
  | _=>exact absurd (show false=true from fx) Bool.false_ne_true
 | bl a=>
  cases ry
  cases x with
  | non=>cases rx;exact SeqAt.EqAt.bool_none a
  | bl b=>cases rx;exact SeqAt.EqAt.bool_bool a b
  | int b=>obtain⟨t,rfl⟩:=rx;exact SeqAt.EqAt.bool_int a b t
  | str b=>obtain⟨t,rfl⟩:=rx;exact SeqAt.EqAt.bool_str a b t
  | _=>exact absurd (show false=true from fx) Bool.false_ne_true
 | int a=>
  obtain⟨t',rfl⟩:=ry
  cases x with
  | non=>cases rx;exact SeqAt.EqAt.int_none a t'
  | bl b=>cases rx;exact SeqAt.EqAt.int_bool a t' b
  | int b=>obtain⟨t,rfl⟩:=rx;exact SeqAt.EqAt.int_int a t' b t
  | str b=>obtain⟨t,rfl⟩:=rx;exact SeqAt.EqAt.int_str a t' b t
  | _=>exact absurd (show false=true from fx) Bool.false_ne_true
 | str a=>
  obtain⟨t',rfl⟩:=ry
  cases x with
  | non=>cases rx;exact SeqAt.EqAt.str_none a t'
  | bl b=>cases rx;exact SeqAt.EqAt.str_bool a t' b
  | int b=>obtain⟨t,rfl⟩:=rx;exact SeqAt.EqAt.str_int a t' b t
  | str b=>obtain⟨t,rfl⟩:=rx;exact SeqAt.EqAt.str_str a t' b t
  | _=>exact absurd (show false=true from fx) Bool.false_ne_true
 | _=>exact absurd (show false=true from fy) Bool.false_ne_true
def MH (x:V)(u:Value):Bool:=match u with
 | .none=>Hq .non x
 | .bool b=>Hq (.bl b) x
 | .int i _=>Hq (.int i) x
 | .str z _=>Hq (.str z) x
 | _=>false
theorem PB {x y:V}{u:Value}(r:Ai y u)(f:BC y=true):MH x u=Hq y x:=by
 cases y with
 | non=>cases r;rfl
 | bl b=>cases r;rfl
 | int i=>obtain⟨t,rfl⟩:=r;rfl
 | str z=>obtain⟨t,rfl⟩:=r;rfl
 | _=>exact absurd (show false=true from f) Bool.false_ne_true
theorem GB {x:V}:∀{xs:List V} {us:List Value},Am xs us→xs.all BC=true→us.any (MH x)=xs.any fun y=>Hq y x
 | _,_,.nil,_=>rfl
 | y::xs,u::us,.cons r t,f=>by
  rw[List.all_cons,Bool.and_eq_true]at f
  rw[List.any_cons,List.any_cons,PB r f.1,GB t f.2]
theorem Er {A:Around}{s:Shared}{x:V}{v:Value}(rx:Ai x v)(fx:BC x=true):∀{xs:List V} {us:List Value},Am xs us→xs.all BC=true→∀ u∈us,SeqAt.EqAt A s u v (MH x u)
 | _,_,.nil,_=>fun u hu=>by cases hu
 | y::xs,u::us,.cons r t,f=>fun u' hu=>by
  rw[List.all_cons,Bool.and_eq_true]at f
  rcases List.mem_cons.mp hu with rfl | hu
  ·rw[PB r f.1];exact J5 r rx f.1 fx
  ·exact Er rx fx t f.2 u' hu
def Ee (x:V)(xs:List V):Bool:=xs.any fun y=>Hq y x
def Wx (K:PySem.W.Frag)(neg:Bool):R2:=fun x y H Q=>∃ p xs,y=.ref p∧(At K H p xs∨Ae K H p xs)∧BC x=true∧xs.all BC=true∧Q (.bl (if neg then !Ee x xs else Ee x xs)) H
theorem FM:FR X (compareOp .In) (Wx X.K false):=by
 intro pins s σ H x y v u Q I rx ry h
 obtain⟨p,xs,rfl,hq,fx,fs,q⟩:=h
 cases ry
 rcases hq with hq | hq
 ·obtain⟨its,r,pl,hz⟩:=I.list hq
  refine SeqAt.in_listAt (MH x) pl.isList (fun w hw=>Er rx fx r fs w (by simpa using hw)) ⟨.bl _,H,I,rfl,?_⟩
  rw[show its.toArray.any (MH x)=its.any (MH x)by simp,GB r fs]
  exact q
 ·obtain⟨its,r,pl,hz⟩:=I.tuple hq
  refine SeqAt.in_tupleAt (MH x) pl (fun w hw=>Er rx fx r fs w (by simpa using hw)) ⟨.bl _,H,I,rfl,?_⟩
  rw[show its.toArray.any (MH x)=its.any (MH x)by simp,GB r fs]
  exact q
theorem GC:FR X (compareOp .NotIn) (Wx X.K true):=by
 intro pins s σ H x y v u Q I rx ry h
 obtain⟨p,xs,rfl,hq,fx,fs,q⟩:=h
 cases ry
 rcases hq with hq | hq
 ·obtain⟨its,r,pl,hz⟩:=I.list hq
  refine SeqAt.notIn_listAt (MH x) pl.isList (fun w hw=>Er rx fx r fs w (by simpa using hw)) ⟨.bl _,H,I,rfl,?_⟩
  rw[show its.toArray.any (MH x)=its.any (MH x)by simp,GB r fs]
  exact q
 ·obtain⟨its,r,pl,hz⟩:=I.tuple hq
  refine SeqAt.notIn_tupleAt (MH x) pl (fun w hw=>Er rx fx r fs w (by simpa using hw)) ⟨.bl _,H,I,rfl,?_⟩
  rw[show its.toArray.any (MH x)=its.any (MH x)by simp,GB r fs]
  exact q
theorem Ab:Ci X (.builtin "len") (fun xs H Q=>∃ p ys,xs=[.ref p]∧(At X.K H p ys∨Ae X.K H p ys)∧Q (.int ys.length) H):=by
 intro pins s σ H xs us Q I r h
 obtain⟨p,ys,rfl,hq,q⟩:=h
 obtain⟨u,rfl,rx⟩:=Fd r
 cases rx
 have hn:=IJ
 rcases hq with hq | hq
 ·obtain⟨its,r',pl,hz⟩:=I.list hq
  have hlen:=r'.length
  exact Calls.call_len_list pl.isList (by simp only[List.size_toArray] <;> omega) ⟨.int ys.length,H,I.tok _,⟨s.toks+1,by rw[List.size_toArray,hlen]⟩,q⟩
 ·obtain⟨its,r',pl,hz⟩:=I.tuple hq
  have hlen:=r'.length
  exact len_tuple pl (by simp only[List.size_toArray] <;> omega) ⟨.int ys.length,H,I.tok _,⟨s.toks+1,by rw[List.size_toArray,hlen]⟩,q⟩
theorem EM:Ci X (.builtin "len") (fun xs H Q=>∃ z,xs=[.str z]∧z.length≤sizeLine∧Q (.int z.length) H):=by
 intro pins s σ H xs us Q I r h
 obtain⟨z,rfl,hz,q⟩:=h
 obtain⟨u,rfl,t,rfl⟩:=Fd r
 have hn:=IJ
 exact len_str (by omega) ⟨.int z.length,H,I.tok _,⟨_,rfl⟩,q⟩
theorem EN:Ci X (.type "list") (fun xs H Q=>∃ p ys,xs=[.ref p]∧(At X.K H p ys∨Ae X.K H p ys)∧∀ l,H l=none→Q (.ref l) (upd H l (.lst ys))):=by
 intro pins s σ H xs us Q I r h
 obtain⟨p,ys,rfl,hq,q⟩:=h
 obtain⟨u,rfl,rx⟩:=Fd r
 cases rx
 have fin:∀(its:List Value),Am ys its→ys.length≤sizeLine→∀(h':Heap) (c':Nat),(∀ b o',s.heap.get? b=some o'→h'.get? b=some o')→
  h'.get? s.heap.objs.size=some { cls:=.type "list",dict:=none,data:=.seq its.toArray c',slots:=#[] }→EP X pins σ Q (.ref s.heap.objs.size) { s with heap:=h' }:=fun its r' hz h' c' kp e=>
  ⟨.ref s.heap.objs.size,_,I.laid (t':=s.toks) kp (Nat.le_refl _) (show A6 X.prog X.w _ h' _ (.lst ys)from⟨hz,its,c',r',e⟩),rfl,q _ (I.hok.fresh (Nat.le_refl _))⟩
 rcases hq with hq | hq
 ·obtain⟨its,r',pl,hz⟩:=I.list hq
  have hlen:=r'.length
  obtain⟨o,ho,hc,n,hd⟩:=pl.isList
  exact call_list_seq p (.inl rfl) ho hc hd (fun h' c' kp e=>fin its r' hz h' c' kp e) (by simp only[List.size_toArray] <;> omega)
 ·obtain⟨its,r',pl,hz⟩:=I.tuple hq
  have hlen:=r'.length
  obtain⟨o,ho,hc,n,hd⟩:=pl
  exact call_list_seq p (.inr rfl) ho hc hd (fun h' c' kp e=>fin its r' hz h' c' kp e) (by simp only[List.size_toArray] <;> omega)
theorem B3:Ci X (.type "tuple") (fun xs H Q=>∃ p ys,xs=[.ref p]∧((At X.K H p ys∧∀ l,H l=none→Q (.ref l) (upd H l (.tup ys)))∨(Ae X.K H p ys∧Q (.ref p) H))):=by
 intro pins s σ H xs us Q I r h
 obtain⟨p,ys,rfl,h⟩:=h
 obtain⟨u,rfl,rx⟩:=Fd r
 cases rx
 rcases h with⟨hq,q⟩ | ⟨hq,q⟩
 ·obtain⟨its,r',pl,hz⟩:=I.list hq
  have hlen:=r'.length
  refine call_tuple_list pl.isList (fun h' kp=>?_) (by simp only[List.size_toArray] <;> omega)
  have I1:Af X pins σ H { s with heap:=h' }:=I.kept (t':=s.toks) kp
  have I2:Af X pins σ (upd H h'.objs.size (.tup ys)) { s with heap:=h'.push { cls:=.type "tuple",data:=.seq its.toArray } }:=
   I1.laid (t':=s.toks) (fun b o e=>Heap.get?_push_of_some _ e) (Nat.le_refl _) (show A6 X.prog X.w _ _ _ (.tup ys)from⟨hz,its,r',IsTup.new _ _⟩)
  exact⟨.ref h'.objs.size,_,I2,rfl,q _ (I1.hok.fresh (Nat.le_refl _))⟩
 ·obtain⟨its,r',pl,hz⟩:=I.tuple hq
  exact call_tuple_same pl ⟨.ref p,H,I,rfl,q⟩
def Wy (K:PySem.W.Frag)(T:String)(x:V)(H:Hp):Prop:=match x with
 | .str _=>T="str"
 | .int _=>T="int"
 | .ref p=>(T="list"∧∃ xs,At K H p xs)∨(T="tuple"∧∃ o,K.lookup p=some o∧o.cls=.type "tuple"∧o.dict=none)∨
  (T="dict"∧((∃ kvs,H p=some (.dK kvs))∨∃ kvs,H p=some (.dT kvs)))∨(T="set"∧∃ S n,H p=some (.set S n))
 | _=>False
theorem PC {pins:List (Addr×Obj)}{σ:St}{H:Hp}{s:Shared}{T:String}{x:V}{v:Value}(I:Af X pins σ H s)(r:Ai x v)(ty:Wy X.K T x H):
 s.TypeIs v T∧∀ a,v=.ref a→∃ ob,s.heap.get? a=some ob∧ob.dict=none:=by
 cases x with
 | str z=>
  obtain⟨t,rfl⟩:=r
  cases (show T="str" from ty)
  exact⟨typeIs_str s z t,fun _ e=>nomatch e⟩
 | int i=>
  obtain⟨t,rfl⟩:=r
  cases (show T="int" from ty)
  exact⟨typeIs_int s i t,fun _ e=>nomatch e⟩
 | ref p=>
  cases r
  rcases ty with⟨rfl,xs,hq⟩ | ⟨rfl,o,hk,hc,hd⟩ | ⟨rfl,hk⟩ | ⟨rfl,S,n,hk⟩
  ·obtain⟨its,_,pl,_⟩:=I.list hq
   refine⟨pl.isList.typeIs,fun a e=>?_⟩
   cases e
   obtain⟨o,n,e,c,hd,_⟩:=pl
   exact⟨o,e,hd⟩
  ·refine⟨⟨o,I.kIn p o hk,hc⟩,fun a e=>?_⟩
   cases e
   exact⟨o,I.kIn _ o hk,hd⟩
  ·have z:∃ o,s.heap.get? p=some o∧o.ExactDict:=by
    rcases hk with⟨kvs,hk⟩ | ⟨kvs,hk⟩
    ·obtain⟨_,_,_,_,o,_,_,e,ex,_⟩:=I.hok p _ hk
     exact⟨o,e,ex⟩
    ·obtain⟨_,_,_,_,o,_,_,e,ex,_⟩:=I.hok p _ hk
     exact⟨o,e,ex⟩
   obtain⟨o,e,ex⟩:=z
   refine⟨⟨o,e,ex.1⟩,fun a e2=>?_⟩
   cases e2
   exact⟨o,e,ex.2.1⟩
  ·obtain⟨o,_,_,_,e,ex,_⟩:=I.hok p _ hk
   refine⟨⟨o,e,ex.1⟩,fun a e2=>?_⟩
   cases e2
   exact⟨o,e,ex.2.1⟩
 | _=>exact False.elim ty
def Wz (K:PySem.W.Frag)(T:String)(r:V→List V→Hp→VK→Prop)(to:TE):TE:=fun σ H Q=>to σ H fun x H1=>Wy K T x H1∧r x [] H1 Q
def X6 (K:PySem.W.Frag)(T:String)(r:V→List V→Hp→VK→Prop)(to:TE)(t:TA):TE:=fun σ H Q=>to σ H fun x H1=>Wy K T x H1∧t σ H1 fun xs H2=>r x xs H2 Q
variable {o e:Expr}{es:List Expr}{to:TE}{t:TA}{name:Str}{apos cpos:Pos}{T id:String}{r:V→List V→Hp→VK→Prop}
theorem TB (pa:PlainAttrs T)(slot:Slot T name id)(hty:typeOf (.builtin id)=pure (.type "method_descriptor"))(hm:Wv X id r)(ho:PE X o to)
 (hbase:attributeBase o name X.env (eval o X.env)=eval o X.env:=by rfl) (hline:(apos.endLine==cpos.line)=true:=by rfl):PE X (.Call (.Attribute o name apos) [] [] cpos) (Wz X.K T r to):=by
 intro pins s σ H Q I h
 refine wpAny_Call_method0_late hbase hline (BI (ho pins s σ H _ I h) fun v s1 zq=>?_)
 obtain⟨x,H1,I1,r1,ty,q1⟩:=zq
 obtain⟨h1,h2⟩:=PC I1 r1 ty
 exact⟨T,id,pa,slot,hty,h1,h2,Calls.callWith_builtin rfl (PySem.evalArgs_none (hm pins s1 σ H1 x [] v [] Q I1 r1 .nil q1))⟩
theorem HF (pa:PlainAttrs T)(slot:Slot T name id)(hty:typeOf (.builtin id)=pure (.type "method_descriptor"))(hm:Wv X id r)(ho:PE X o to)(ha:PA X (e::es) t)
 (hbase:attributeBase o name X.env (eval o X.env)=eval o X.env:=by rfl)
 (hfew:((backTo cpos (starEach (e::es) X.env)).all (fun x=>!x.1)&&(backToKw cpos (keywordEach [] X.env)).all (fun x=>x.1.isSome)
  && decide ((e::es).length+([]:List Keyword).length+(if([]:List Keyword).isEmpty then 0 else 1)<30))=true:=by rfl)
 (hline:(apos.endLine==cpos.line)=true:=by rfl) (hs:starEach (e::es) X.env=(false,eval e X.env)::starEach es X.env:=by rfl) (hplain:(backTo cpos (starEach es X.env)).any (·.1)=false:=by rfl):
 PE X (.Call (.Attribute o name apos) (e::es) [] cpos) (X6 X.K T r to t):=by
 intro pins s σ H Q I h
 refine wpAny_Call_method_late hbase hfew hline rfl (BI (ho pins s σ H _ I h) fun v s1 zq=>?_)
 obtain⟨x,H1,I1,r1,ty,q1⟩:=zq
 obtain⟨h1,h2⟩:=PC I1 r1 ty
 refine⟨T,id,pa,slot,hty,h1,h2,?_⟩
 have hA:=ha cpos pins s1 σ H1 _ I1 q1
 rw[hs]at hA ⊢
 refine Calls.callWith_builtin (by show(false||(backTo cpos (starEach es X.env)).any (·.1))=false;rw[hplain] <;> rfl) (Calls.evalArgs_plain ?_)
 exact BI hA fun us s2 ⟨vs,H2,I2,r2,q2⟩=>hm pins s2 σ H2 x vs v us Q I2 r1 r2 q2
/- xs.append(e),list.index on a module's tuple .. are Wv facts of 06m -/
end
def W0 (X:Cx)(id:String)(r:V→List V→Hp→VK→Prop):Prop:=
 ∀(pins:List (Addr×Obj)) (s:Shared) (σ:St) (H:Hp) (x:V) (xs:List V) (v:Value) (us:List Value) (Q:VK),Af X pins σ H s→Ai x v→Am xs us→r x xs H Q→
  wpAny (model X.prog X.w) X.A (call (.builtin id) (v::us)) (EP X pins σ Q) X.xe s
theorem Am.one {x:V}{us:List Value}(h:Am [x] us):∃ u,us=[u]∧Ai x u:=by
 cases h with
 | cons r t=>
  cases t
  exact⟨_,rfl,r⟩
theorem Am.two {x y:V}{us:List Value}(h:Am [x,y] us):∃ u v,us=[u,v]∧Ai x u∧Ai y v:=by
 cases h with
 | cons r t=>
  cases t with
  | cons q t=>
   cases t
   exact⟨_,_,rfl,r,q⟩
theorem Am.zero:∀{us:List Value},Am [] us→us=[]
 | _,.nil=>rfl
theorem Am.dropLast {xs:List V}{us:List Value}(h:Am xs us):Am xs.dropLast us.dropLast:=by
 induction h with
 | nil=>exact .nil
 | cons r t ih=>
  cases t with
  | nil=>exact .nil
  | cons q t'=>exact .cons r ih
theorem MI {α:Type}(l:List α):l.eraseIdx (l.length-1)=l.dropLast:=by
 induction l with
 | nil=>rfl
 | cons a r ih=>
  cases r with
  | nil=>rfl
  | cons b r=>
   have e:(a::b::r).length-1=((b::r).length-1)+1:=by
    have h1:(a::b::r).length=r.length+2:=rfl
    have h2:(b::r).length=r.length+1:=rfl
    omega
   rw[e,List.eraseIdx_cons_succ,ih]
   all_goals rfl
section
variable {X:Cx}{pins:List (Addr×Obj)}{σ:St}{H:Hp}{s:Shared}{l b:Addr}{xs ys zs:List V}
theorem Af.lset {its its':List Value}{n:Nat}{f:Array Value→Array Value}{t':Nat}(I:Af X pins σ H s)(hH:H l=some (.lst xs))
 (e:s.heap.get? l=some { cls:=.type "list",data:=.seq its.toArray n }) (hf:f its.toArray=its'.toArray) (hv:Am ys its') (hz:ys.length≤sizeLine):
 Af X pins σ (upd H l (.lst ys)) { s with heap:=s.heap.update l (Obj.mapSeq f),toks:=t' }:=by
 have q:=PySem.IsL.update e f
 rw[hf]at q
 refine I.write (x:=l) (e:=l) (by rw[hH];exact trivial) (.inl rfl) (fun b' u hb hu=>(Heap.get?_update_other s.heap (Obj.mapSeq f) (Ne.symm hb)).trans hu) ⟨_,q⟩ ?_
 exact⟨hz,its',_,hv,q⟩
theorem Af.lnew {its:List Value}{t':Nat}(I:Af X pins σ H s)(hv:Am ys its)(hz:ys.length≤sizeLine):
 Af X pins σ (upd H s.heap.objs.size (.lst ys)) { s with heap:=s.heap.push { cls:=.type "list",data:=.seq its.toArray },toks:=t' }:=
 I.laid (fun _ _ q=>Heap.get?_push_of_some _ q) (Nat.le_refl _) ⟨hz,its,0,hv,Heap.get?_push_size _ rfl⟩
theorem Af.lstM (I:Af X pins σ H s)(hH:H l=some (.lst xs)):xs.length≤sizeLine∧∃(its:List Value) (n:Nat),Am xs its∧xs.length=its.length∧s.heap.get? l=some { cls:=.type "list",data:=.seq its.toArray n }:=by
 obtain⟨z,its,n,r,e⟩:=I.hok l _ hH
 exact⟨z,its,n,r,r.length,e⟩
theorem PD {n:Nat}(h:n≤sizeLine):Builtin.List.listTooLong n=false:=by
 unfold Builtin.List.listTooLong
 exact decide_eq_false (by omega)
end
section
variable {X:Cx}
def RV:V→List V→Hp→VK→Prop:=fun x vs H Q=>∃ l xs y,x=.ref l∧vs=[y]∧H l=some (.lst xs)∧xs.length<sizeLine∧Q .non (upd H l (.lst (xs++[y])))
theorem Ca:W0 X "list.append" RV:=by
 intro pins s σ H x vs v us Q I rx rv h
 obtain⟨l,xs,y,rfl,rfl,hH,hz,q⟩:=h
 cases rx
 obtain⟨u,rfl,ru⟩:=rv.one
 obtain⟨z,its,n,r,hl,e⟩:=I.lstM hH
 refine call_meets F.slot_list_append ⟨_,e,rfl⟩ F.entry_list_append (F.args_list_append_2 _ _) (PySem.list_append l its.toArray n u (by rw[List.size_toArray];omega)) ⟨e,?_⟩
 refine⟨.non,_,I.lset (its':=its++[u]) hH e (by simp) (r.append (.cons ru .nil)) ?_,rfl,q⟩
 rw[List.length_append,List.length_singleton]
 omega
def RW:V→List V→Hp→VK→Prop:=fun x vs H Q=>∃ l b xs zs,x=.ref l∧vs=[.ref b]∧H l=some (.lst xs)∧H b=some (.lst zs)∧xs.length+zs.length≤sizeLine∧Q .non (upd H l (.lst (xs++zs)))
theorem Gd:W0 X "list.extend" RW:=by
 intro pins s σ H x vs v us Q I rx rv h
 obtain⟨l,b,xs,zs,rfl,rfl,hH,hB,hz,q⟩:=h
 cases rx
 obtain⟨u,rfl,ru⟩:=rv.one
 cases ru
 obtain⟨z,its,n,r,hl,e⟩:=I.lstM hH
 obtain⟨z2,its2,n2,r2,hl2,e2⟩:=I.lstM hB
 have hsz:its.toArray.size+its2.toArray.size≤sizeLine:=by rw[List.size_toArray,List.size_toArray];omega
 have hlong:¬ (!its.toArray.isEmpty&&Builtin.List.listTooLong (its.toArray.size+its2.toArray.size))=true:=by
  rw[PD hsz,Bool.and_false]
  exact Bool.false_ne_true
 refine call_meets F.slot_list_extend ⟨_,e,rfl⟩ F.entry_list_extend (F.args_list_extend_2 _ _)
  (AutoSeq1.list_extend_list_list_0 l its.toArray n b its2.toArray n2 hlong (by rw[List.size_toArray];omega) (by omega)) ⟨e,e2,?_⟩
 refine⟨.non,_,I.lset (its':=its++its2) hH e (by simp) (r.append r2) ?_,rfl,q⟩
 rw[List.length_append]
 omega
def W2:V→List V→Hp→VK→Prop:=fun x vs H Q=>∃ l xs y,x=.ref l∧vs=[]∧H l=some (.lst xs)∧xs[xs.length-1]?=some y∧Q y (upd H l (.lst xs.dropLast))
theorem TC:W0 X "list.pop" W2:=by
 intro pins s σ H x vs v us Q I rx rv h
 obtain⟨l,xs,y,rfl,rfl,hH,hy,q⟩:=h
 cases rx
 have hus:=rv.zero
 subst hus
 obtain⟨z,its,n,r,hl,e⟩:=I.lstM hH
 obtain⟨u,hu,ru⟩:=r.get hy
 have hy':its.toArray[its.toArray.size-1]?=some u:=by
  show its.toArray[its.length-1]?=some u
  rw[← Array.getElem?_toList,← hl]
  exact hu
 refine call_meets F.slot_list_pop ⟨_,e,rfl⟩ F.entry_list_pop (F.args_list_pop_1 _) (MeetsSeq.list_pop_last l its.toArray n u hy' (by rw[List.size_toArray];omega)) ⟨e,?_⟩
 refine⟨y,_,I.lset (its':=its.dropLast) hH e ?_ r.dropLast ?_,ru,q⟩
 ·show its.toArray.eraseIdxIfInBounds (its.toArray.size-1)=its.dropLast.toArray
  rw[List.size_toArray,List.eraseIdxIfInBounds_toArray,MI]
 ·rw[List.length_dropLast]
  omega
end
end L2
namespace Att
open PySem PySem.W PySem.Calls PyProof.Rows
theorem HV {P:Params}{h:Heap}:∀(ns:List Int) (vs:List Value),WellAll P h vs (ns.map WData.int)→IntsAre vs ns:=by
 intro ns
 induction ns with
 | nil=>
  intro vs w
  rw[List.map_nil]at w
  cases w
  exact .nil
 | cons n ns ih=>
  intro vs w
  rw[List.map_cons]at w
  cases w with
  | cons a b=>
   cases a
   exact .cons _ _ (ih _ b)
theorem OC {l:OpenLaw}{n:Nat}(hn:l.most=some n){P:Params}{h:Heap}{args:List WData}{vals:List Value}
 (hpre:l.row.toRowW.claim.pre args=true) (hwl:WellAll P h vals args):
 ∃ a vs ns,vals=[Value.ref a]∧args=[WData.list (ns.map WData.int)]∧h.get? a=some { cls:=.type "list",data:=.seq vs.toArray }∧IntsAre vs ns∧ns.length≤n:=by
 have hsh:WShape.hasAll [] args [.list .int]=true:=(pre_splitW hpre).1
 have hc:l.pre.holds [] { args:=args }=true:=(pre_splitW hpre).2
 obtain⟨d,r,rfl,h1,h2⟩:=hasAllW_cons hsh
 obtain rfl:=hasAllW_nil h2
 obtain⟨xs,rfl,h3⟩:=hasW_list h1
 obtain⟨ns,rfl⟩:=items_int h3
 have hlen:ns.length≤n:=by
  unfold OpenLaw.pre at hc
  have h4:(WTm.not (.lt (.lit (.int (n:Int))) (.len (.arg 0)))).holds [] { args:=[.list (ns.map .int)] }=true:=by
   have h4:=(holds_andW hc).1
   rw[hn]at h4
   exact h4
  have h5:=condW_of h4 (w_not (w_lt w_lit (w_len_list (w_arg rfl))))
  rw[List.length_map]at h5
  refine Nat.le_of_not_lt fun q=>?_
  have q':(n:Int)<((ns.length:Nat):Int):=by omega
  first
   | (rw[decide_eq_true q']at h5;exact absurd h5 (by decide))
   | (simp at h5;omega)
 cases hwl with
 | cons w1 w2=>
  cases w2
  cases w1 with
  | list ho hall=>exact⟨_,_,ns,rfl,rfl,ho,HV ns _ hall,hlen⟩
theorem OD (l:OpenLaw)(args:List WData):l.row.toRowW.claim.post args (.bool true) args=true:=
 postW_of (r:=l.row.toRowW) (X:=(true==true))
  (show WShape.has [] (.bool true) .bool=true by first | rfl | decide | simp[WShape.has,WShape.arms,WShape.armsAll])
  (show(WTm.eq .res (.lit (.bool true))).value [] { args:=args,res:=some (.bool true),after:=args }=some (.bool (true==true))from w_eq_bool (w_res rfl) w_lit) rfl
theorem K5 {l:OpenLaw}{n:Nat}{q:Program}{loose:List Str}{XP:(Str→Option Value)→Heap→Prop}{YP:World→Heap→Prop}{d:DefRec}
 (hn:l.most=some n) (hdf:d.params.defaults=[])
 (call:∀(w:World) (s₀ s₁:Shared) (mg mb:Str→Option Value) (fa:Addr) (o:Obj) (pm cd doc:Value) (a:Addr) (vs:List Value) (ns:List Int),
  Ground q loose [] XP w s₀ mg mb s₁.heap→YP w s₁.heap→
  s₁.heap.get? fa=some o→o.data=.func (docDef d.name d.params d.body d.scope pm cd doc)→s₁.heap.CodeRec cd d.name→mg d.name=some (.ref fa)→
  s₁.heap.get? a=some { cls:=.type "list",data:=.seq vs.toArray }→IntsAre vs ns→ns.length≤n→s₁.gens=#[]→
  codeAny (model l.prog w) callerA (.call (.ref fa) ⟨[.ref a],[]⟩) (fun r s'=>r=.ok (.ret (.bool true))∧OldK s₁.heap s'.heap∧s'.os=s₁.os∧AllBare s'.gens) s₁):
 WalkO q loose XP YP l.row.toRowW d [] (fun f vs=>PySem.call f vs):=by
 intro w s₀ s₁ mg mb G Y fa o pm cd doc dV kV ho hd hcd hD hmg hg args vals as hpre hlay hrd hwl hlo
 obtain rfl:dV=.none:=Dflts.none hD hdf
 obtain rfl:kV=.none:=Dflts.noKw hD
 obtain⟨a,vs,ns,rfl,rfl,hobj,hints,hlen⟩:=OC hn hpre hwl
 refine enter_call (codeAny_mono (call w s₀ s₁ mg mb fa o pm cd doc a vs ns G Y ho (fd_plain hd) hcd hmg hobj hints hlen hg) fun r s' hq=>?_)
 obtain⟨rfl,h2,h3,h4⟩:=hq
 exact⟨.inl ⟨.bool true,.bool true,[],rfl,fun _=>rfl,.bool true,OD l _,fun _=>⟨List.Pairwise.nil,fun _ hm=>(nomatch hm)⟩⟩,h2,h3,h4⟩
end Att
namespace L2
open PySem PySem.Spec PyProof.Rows
theorem Jg:∀{vs:List Value} {ns:List Int},IntsAre vs ns→Am (ns.map V.int) vs
 | _,_,.nil=>.nil
 | _,_,.cons n t h=>.cons ⟨t,rfl⟩ (Jg h)
abbrev Xj {K:PySem.W.Frag}{h:Heap}(_:K.In h):PySem.W.Frag:=K
end L2
/- THE LAST THEOREM (shape;LID,My.* are yours):
 My.Adr: a structure of the addresses that your layer names (classes,functions);My.Txt K t: a structure (Prop) of the equations over K;
 My.txt_mk:{K} {implicit addresses ..} (e1:nsIn K mainGlobals "law"=some (some (.ref f))) (e2:K.lookup f=some ⟨oc,od,.func (fnOf "law" "law" params body scope dV kV doc pm an cdv ct),sl⟩) (e3:codeIn K cdv "law"=true) ..:∃ t,My.Txt K t
set_option maxRecDepth 100000 in
set_option maxHeartbeats 0 in
theorem PySem.Challenge.cw_LID_holds : PySem.Challenge.rw_LID.Holds := by
 w_on;o_law;k_head;(case hw=>w_witness2)
 k_fill
 refine L2.walk_of (l:=PySem.Challenge.rw_LID) (n:=63) (k:=40) (x:="script") (CX:=fun w=>..) (sp:=fun _=>My.sp_law) rfl (by decide) rfl ⟨rfl,by decide,by decide⟩ (fun w h Y=>PySem.W.kIn_of Y) ?F ?S ?C
 case F=>
  intro w mg fa h KX G hmg
  have T:∃ t,My.Txt (L2.Xj KX) t:=by
   dsimp only[L2.Xj]                          -- K must stand as «<heap const> w.params» for k_is
   refine' My.txt_mk ?e1 ?e2 ?e3 ..
   (case e1=>PySem.W.k_is)                    -- in the order: a name -> its address -> its object -> its parts
   (case e2=>PySem.W.k_is)
   ..
  obtain⟨t,T⟩:=T
  have e0:=hmg.symm.trans (PySem.W.mg_of KX G T.law)
  cases e0                                       -- fa is the law's own address
  exact⟨_,fun s u=>.of_eq rfl,fun base kb nb=>My.law_fn T kb nb⟩     -- if «.of_eq rfl» comes too early: refine' ⟨_,?b,fun base kb nb=>My.law_fn T kb nb⟩;exact fun s u=>.of_eq rfl
 case S=>exact fun w H a ns hl hO hS=>..
 case C=>exact ..
(the tactic k_is has no namespace: write k_is) -/
namespace L2
open PySem PySem.Spec PyProof.Rows
def Dd (s:Stmt)(j:Nat):Stmt:=match s with
 | .ClassDef _ _ _ body _ _ _ _ _ _ _=>body.getD j (.Pass ⟨0,0,0,0⟩)
 | _=>.Pass ⟨0,0,0,0⟩
def Cf (s:Stmt):Arguments:=match s with
 | .FunctionDef _ a _ _ _ _ _ _ _ _=>a
 | _=>{ posonlyargs:=[],args:=[],vararg:=none,kwonlyargs:=[],kw_defaults:=[],kwarg:=none,defaults:=[] }
def Bm (s:Stmt):List Stmt:=match s with
 | .FunctionDef _ _ b _ _ _ _ _ _ _=>b
 | _=>[]
def AI (s:Stmt):Scope:=match s with
 | .FunctionDef _ _ _ _ _ _ sc _ _ _=>sc
 | _=>{ kind:=.function,names:=[],isGenerator:=false,isCoroutine:=false }
abbrev Bc:OA:=fun _ _ _ _ _ _=>False
abbrev E0:XK:=fun _ _ _=>False
theorem Dz {X:Cx}:Gb Bc X E0:=fun _ _ _ _ _ _ _ h=>h.elim
structure Fun (K:PySem.W.Frag)(x qual:Str)(st:Stmt)(f:Addr)(fd:FuncData):Prop where
 ex:∃(oc:Value) (od:Option Addr) (kV doc pm:Value) (an:Option Addr) (cdv ct:Value) (osl:Array (Option Value)),
  fd=PySem.W.fnOf x qual (Cf st) (Bm st) (AI st) .none kV doc pm an cdv ct∧K.lookup f=some ⟨oc,od,.func fd,osl⟩∧PySem.W.codeIn K cdv qual=true
 kp:PySem.W.keepIn K (.ref f)=true
section
variable {P:Program}{w:World}{K:PySem.W.Frag}{mg:Str→Option Value}{base:Heap}
theorem Fun.ok {x qual:Str}{st:Stmt}{f:Addr}{fd:FuncData}{N ps:List Str}{k:Nat}{sp:Sp}(F:Fun K x qual st f fd)(S:AW N ps (AI st))(len:∀ vs H Q E,sp vs H Q E→vs.length=ps.length)
 (hbody:∀(cdv:Value) (A:Around) (outer:List Env) (s:Shared) (H:Hp) (vs:List V) (Q:VK) (E:XK),BY k (A.deeper (envOfC qual (AI st) s.heap.objs.size f cdv))→sp vs H Q E→
  ∃ t,Ky (IM Bc P w K mg base N qual (AI st) f cdv A outer s H E).nox (Bm st) t∧t { nx:=fun _ H'=>Q .non H',rt:=Q } (Eo N vs) H):Ao P w K mg base Bc (k+1) f fd ps sp:=by
 obtain⟨oc,od,kV,doc,pm,an,cdv,ct,osl,rfl,lk,hcd⟩:=F.ex
 refine SU lk hcd S len fun A outer s H vs Q E hr hsp=>?_
 obtain⟨t,h,q⟩:=hbody cdv A outer s H vs Q E hr hsp
 exact⟨t,h.nox,q⟩
theorem Fun.binds {x qual:Str}{st:Stmt}{f:Addr}{fd:FuncData}{ps:List Str}(F:Fun K x qual st f fd)
 (h:∀(kV doc pm:Value) (an:Option Addr) (cdv ct:Value) (us:List Value),us.length=ps.length→bindArgs (PySem.W.fnOf x qual (Cf st) (Bm st) (AI st) .none kV doc pm an cdv ct) ⟨us,[]⟩=pure (ps.zip us)):Ed K fd ps []:=by
 obtain⟨oc,od,kV,doc,pm,an,cdv,ct,osl,rfl,lk,hcd⟩:=F.ex
 exact .all (h kV doc pm an cdv ct)
theorem PH {x qual:Str}{st:Stmt}{f:Addr}{oc:Value}{od an:Option Addr}{osl:Array (Option Value)}{kV doc pm cdv ct:Value}(l:K.lookup f=some ⟨oc,od,.func (PySem.W.fnOf x qual (Cf st) (Bm st) (AI st) .none kV doc pm an cdv ct),osl⟩)
 (c:PySem.W.codeIn K cdv qual=true) (k:PySem.W.keepIn K (.ref f)=true):Fun K x qual st f (PySem.W.fnOf x qual (Cf st) (Bm st) (AI st) .none kV doc pm an cdv ct):=⟨⟨oc,od,kV,doc,pm,an,cdv,ct,osl,rfl,l,c⟩,k⟩
end
theorem K6 {A:Around}{k:Nat}(hr:BY k A):A.units+1<cLine:=Nat.lt_of_le_of_lt (Nat.add_le_add_left (by decide:1≤64) _) hr.units
theorem Jh {n:Nat}(h:n≤1000):n<sizeLine:=Nat.lt_of_le_of_lt h (by decide)
theorem AO {A B:Prop}(h:B):if false=true then A else B:=by
 rw[if_neg Bool.false_ne_true]
 exact h
theorem AL {A B:Prop}(h:A):if true=true then A else B:=by
 rw[if_pos rfl]
 exact h
theorem J6 {c A B:Prop}[Decidable c](h1:c→A)(h2:¬ c→B):if c then A else B:=by
 by_cases h:c
 ·rw[if_pos h]
  exact h1 h
 ·rw[if_neg h]
  exact h2 h
def AF (H H':Hp):Prop:=∀ b o,H b=some o→H' b=some o
theorem AF.refl (H:Hp):AF H H:=fun _ _ h=>h
theorem AF.trans {H H1 H2:Hp}(a:AF H H1)(b:AF H1 H2):AF H H2:=fun c o h=>b c o (a c o h)
theorem AF.seq {K:PySem.W.Frag}{H H':Hp}{a:Addr}{xs:List V}(e:AF H H')(h:At K H a xs):At K H' a xs:=by
 rcases h with(h | ⟨o,h⟩) | h
 ·exact .inl (.inl (e _ _ h))
 ·exact .inl (.inr ⟨o,e _ _ h⟩)
 ·exact .inr h
def Sz (n:Nat)(x:Int):Prop:=x.natAbs<2 ^ n
theorem Sz.mono {m n:Nat}{x:Int}(h:Sz m x)(hn:m≤n):Sz n x:=Nat.lt_of_lt_of_le h (Nat.pow_le_pow_right (by decide) hn)
section
variable {X:Cx}
def PK (i j:Int):Prop:=Sz 4000 i∧Sz 4000 j
theorem PK.ok {i j:Int}(h:PK i j):IntMulOk i j:=IntMulOk.of_le (m:=4000) (n:=4000) (intBits_le_iff.mpr h.1) (intBits_le_iff.mpr h.2) (by decide)
theorem FN:FR X (binaryOp .Mult) (rI PK fun i j=>.int (i*j)):=WR fun _ _ _ _ _ _ _ hc q=>mul_int q hc.ok
def PL (_ j:Int):Prop:=j≠0∧Sz 4000 j
theorem PL.ok {i j:Int}(h:PL i j):Builtin.divisionGoesByPylong i j=false:=by
 refine PyProof.noPylong_of_log2 ?_
 have h0:j.natAbs≠0:=by have:=h.1;omega
 exact Nat.lt_trans ((Nat.log2_lt h0).mpr h.2) (by decide)
theorem PM:FR X (binaryOp .FloorDiv) (rI PL fun i j=>.int (i.fdiv j)):=WR fun _ _ _ _ _ _ _ hc q=>floordiv_int hc.1 q (.inl hc.ok)
def FT:List V→List V→Bool
 | [],[]=>true
 | x::xs,y::ys=>Hq x y&&FT xs ys
 | _,_=>false
theorem Es (n:Nat)(e:Nat→Bool):(List.range (n+1)).all e=(e 0&&(List.range n).all fun i=>e (i+1)):=by
 rw[List.range_succ_eq_map,List.all_cons,List.all_map]
 rfl
def Et (xs ys:List V)(j:Nat):Bool:=match xs[j]?,ys[j]? with
 | some x,some y=>Hq x y
 | _,_=>false
theorem Fi:∀(xs ys:List V),((List.range (min xs.length ys.length)).all (Et xs ys)&&xs.length==ys.length)=FT xs ys
 | [],[]=>by simp[FT]
 | [],y::ys=>by simp[FT]
 | x::xs,[]=>by simp[FT]
 | x::xs,y::ys=>by
  have ih:=Fi xs ys
  have e:min (x::xs).length (y::ys).length=min xs.length ys.length+1:=by simp only[List.length_cons];omega
  rw[e,Es]
  have e2:(fun i=>Et (x::xs) (y::ys) (i+1))=Et xs ys:=by
   funext i;simp[Et]
  rw[e2]
  have e3:((x::xs).length==(y::ys).length)=(xs.length==ys.length):=by simp
  have e4:Et (x::xs) (y::ys) 0=Hq x y:=by simp[Et]
  rw[e3,e4,Bool.and_assoc,ih,FT]
def W3 (K:PySem.W.Frag)(neg:Bool):R2:=fun x y H Q=>∃ a b xs ys,x=.ref a∧y=.ref b∧Ae K H a xs∧Ae K H b ys∧xs.all BC=true∧ys.all BC=true∧Q (.bl (if neg then !FT xs ys else FT xs ys)) H
theorem K8 {pins:List (Addr×Obj)}{σ:St}{H:Hp}{s:Shared}{A:Around}{xs ys:List V}{us vs:List Value}(r1:Am xs us)(r2:Am ys vs)(f1:xs.all BC=true)(f2:ys.all BC=true):
 ∀ j (h1:j<us.toArray.size) (h2:j<vs.toArray.size),SeqAt.EqAt A s us.toArray[j] vs.toArray[j] (Et xs ys j):=by
 intro j h1 h2
 have l1:=r1.length
 have l2:=r2.length
 rw[List.size_toArray]at h1 h2
 have hx:xs[j]?=some (xs[j]'(by omega)):=List.getElem?_eq_getElem _
 have hy:ys[j]?=some (ys[j]'(by omega)):=List.getElem?_eq_getElem _
 obtain⟨u,hu,ru⟩:=r1.get hx
 obtain⟨v,hv,rv⟩:=r2.get hy
 have eu:us.toArray[j]'(by simpa using h1)=u:=by
  rw[List.getElem?_eq_getElem h1]at hu
  simpa using Option.some.inj hu
 have ev:vs.toArray[j]'(by simpa using h2)=v:=by
  rw[List.getElem?_eq_getElem h2]at hv
  simpa using Option.some.inj hv
 rw[eu,ev]
 have e:Et xs ys j=Hq (xs[j]'(by omega)) (ys[j]'(by omega)):=by unfold Et;rw[hx,hy]
 rw[e]
 exact J5 ru rv (List.all_eq_true.mp f1 _ (List.getElem_mem _)) (List.all_eq_true.mp f2 _ (List.getElem_mem _))
theorem TD (hu:X.A.units<cLine):FR X (compareOp .Eq) (W3 X.K false):=by
 intro pins s σ H x y v u Q I rx ry h
 obtain⟨a,b,xs,ys,rfl,rfl,ha,hb,f1,f2,q⟩:=h
 cases rx
 cases ry
 obtain⟨its,r1,p1,_⟩:=I.tuple ha
 obtain⟨its2,r2,p2,_⟩:=I.tuple hb
 refine SeqAt.eq_tupleAt (e:=Et xs ys) (show s.heap.IsTuple a its.toArray from p1) (show s.heap.IsTuple b its2.toArray from p2) hu (K8 (pins:=pins) (σ:=σ) (H:=H) r1 r2 f1 f2) ⟨.bl _,H,I,rfl,?_⟩
 rw[List.size_toArray,List.size_toArray,← r1.length,← r2.length,Fi]
 exact q
def W4 (K:PySem.W.Frag)(n:Nat)(t:RI):TG:=fun v σ H Q=>∃ a xs,v=.ref a∧At K H a xs∧xs.length=n∧t xs σ H Q
theorem TF {es:List Expr}{k:Nat}{t:RI}{n:Nat}{pos:Pos}(hc:X.calm=true)(h:UX X es t)
 (hn:(assignEach es X.env).length=n:=by rfl) (hst:(assignEach es X.env).findIdx? (·.1)=none:=by rfl):PG X (.Tuple es k pos) (W4 X.K n t):=by
 intro pins s σ H v u Q I r hw
 obtain⟨a,xs,e1,hq,hl,hw⟩:=hw
 subst e1
 cases r
 obtain⟨its,rv,ht,hz⟩:=I.list hq
 rw[assign_Tuple]
 refine wpAny_bind (wpAny_standAt ?_)
 unfold unpack
 have e:(assignEach es X.env).length=its.toArray.size:=by rw[hn,← hl,rv.length,List.size_toArray]
 rw[e,hst]
 refine wpAny_bind (wpAny_holding (PySem.W.kun_itemsOf (I.ok.hd hc) ht.isList fun h' hx=>?_))
 have I1:Af X pins σ H { s with heap:=h' }:=I.kept (t':=s.toks) fun b o e=>hx b o (Nat.ne_of_lt (Heap.lt_size e)) e
 exact h pins _ σ H xs _ Q I1 (by simpa using rv) hw
def Xk (K:PySem.W.Frag):List V→Hp→VK→Prop:=fun xs H Q=>∃ x c t u b,xs=[x,c]∧F9 K H x t∧Ai c u∧(∀ p,c≠.ref p∨True)∧PySem.W.kitOne K t u=some b∧Q (.bl b) H
theorem Aj:Ci X (.builtin "isinstance") (Xk X.K):=by
 intro pins s σ H xs us Q I r h
 obtain⟨x,c,t,u',b,rfl,ty,rc,_,hk,q⟩:=h
 obtain⟨u,w',rfl,r1,r2⟩:=O5 r
 have e:w'=u'∨∃ T,c=.ty T:=by
  cases c with
  | non=>left;cases rc;cases r2;rfl
  | bl _=>left;cases rc;cases r2;rfl
  | int i=>obtain⟨z,rfl⟩:=rc;exact absurd hk (by simp[PySem.W.kitOne,PySem.W.kitCls];cases ty <;> simp)
  | str i=>obtain⟨z,rfl⟩:=rc;exact absurd hk (by simp[PySem.W.kitOne,PySem.W.kitCls];cases ty <;> simp)
  | byt i=>obtain⟨z,rfl⟩:=rc;exact absurd hk (by simp[PySem.W.kitOne,PySem.W.kitCls];cases ty <;> simp)
  | flt i=>obtain⟨z,rfl⟩:=rc;exact absurd hk (by simp[PySem.W.kitOne,PySem.W.kitCls];cases ty <;> simp)
  | ref _=>left;cases rc;cases r2;rfl
  | ty _=>left;cases rc;cases r2;rfl
 rcases e with rfl | ⟨T,rfl⟩
 ·exact Jb I r1 ty hk fun tk=>⟨.bl b,H,I.tok tk,rfl,q⟩
 ·cases rc;cases r2
  exact Jb I r1 ty hk fun tk=>⟨.bl b,H,I.tok tk,rfl,q⟩
end
def Bh (X:Cx)(scope:Scope)(cl:List (Str×Addr))(C:Addr)(N:List Str)(s₀:Shared)(H₀:Hp)(ex:List Addr)(pn:List (Addr×Obj)):Cx where
 prog:=X.prog
 w:=X.w
 K:=X.K
 mg:=X.mg
 base:=X.base
 A:=X.A
 N:=N
 s₀:=s₀
 H₀:=H₀
 env:=compEnvC scope cl C X.env
 outer:=X.stack
 stack:=X.stack
 ex:=ex
 fn:=fun y=>(cl.lookup y).any fun c=>decide (C<c)
 calm:=X.calm
 pn:=pn
 xe:=fun _ _=>False
structure Bv (X:Cx)(scope:Scope)(cl:List (Str×Addr))(x:Str)(fv:List Str)(js:List Nat):Prop where
 kind:scope.kind=.function
 nc:∀ y∈scope.names,y.2≠.cell
 nm:∀ y∈scope.names,y.2=.local→scope.names.lookup y.1=some .local
 hx:scope.names.lookup x=some .local
 fr:∀ y∈scope.names,y.2=.free→y.1∈fv
 nd:(x::fv).Nodup
 vis:∀ y∈fv,scope.names.lookup y=some .free∧X.env.scope.names.lookup y=some .cell∧(cl.lookup y).isSome=true
 cls:∀ p∈cl,X.env.cells.lookup p.1=some p.2
 sl:Paired (fun y j=>X.N[j]?=some y) fv js
def JH (js:List Nat)(σ:St):St:=js.map fun j=>(σ[j]?).getD none
theorem DD {env:Env}(hk:env.scope.kind=.function):∀{names:List (Str×NameKind)} {y:Str},names.lookup y=some .free→env.kindOf y=some .cell→
 (names.map fun(n,k)=>if(k==NameKind.free&&env.scope.kind==.function&&env.kindOf n==some .cell)then(n,NameKind.cell)else(n,k)).lookup y=some .cell
 | [],_,h,_=>by simp at h
 | (n,k)::r,y,h,hy=>by
  have ih:=@DD env hk r y
  show List.lookup y ((if(k==NameKind.free&&env.scope.kind==.function&&env.kindOf n==some .cell)=true then(n,NameKind.cell)else(n,k))::_)=_
  cases hx:y==n with
  | true=>
   have e:y=n:=eq_of_beq hx
   subst e
   simp only[List.lookup_cons,hx]at h
   cases h
   rw[if_pos (by rw[hk,hy];rfl)]
   simp[List.lookup_cons]
  | false=>
   simp only[List.lookup_cons,hx]at h
   split
   ·simp only[List.lookup_cons,hx];exact ih h hy
   ·simp only[List.lookup_cons,hx];exact ih h hy
theorem DE {env:Env}:∀{names:List (Str×NameKind)} {y:Str} {k':NameKind},
 (names.map fun(n,k)=>if(k==NameKind.free&&env.scope.kind==.function&&env.kindOf n==some .cell)then(n,NameKind.cell)else(n,k)).lookup y=some k'→
 names.lookup y=some k'∨(names.lookup y=some .free∧k'=.cell)
 | [],_,_,h=>by simp at h
 | (n,k)::r,y,k',h=>by
  have ih:=@DE env r y k'
  have h:List.lookup y ((if(k==NameKind.free&&env.scope.kind==.function&&env.kindOf n==some .cell)=true then(n,NameKind.cell)else(n,k))::(r.map fun(n,k)=>if(k==NameKind.free&&env.scope.kind==.function&&env.kindOf n==some .cell)then(n,NameKind.cell)else(n,k)))=some k':=h
  cases hx:y==n with
  | true=>
   by_cases hc:(k==NameKind.free&&env.scope.kind==.function&&env.kindOf n==some .cell)=true
   ·rw[if_pos hc]at h
    simp only[List.lookup_cons,hx]at h
    cases h
    right
    have hk:k=.free:=by
     rw[Bool.and_eq_true,Bool.and_eq_true]at hc
     exact eq_of_beq hc.1.1
    subst hk
    exact⟨by simp[List.lookup_cons,hx],rfl⟩
   ·rw[if_neg hc]at h
    simp only[List.lookup_cons,hx]at h
    left
    simp only[List.lookup_cons,hx]
    exact h
  | false=>
   have h':(r.map fun(n,k)=>if(k==NameKind.free&&env.scope.kind==.function&&env.kindOf n==some .cell)then(n,NameKind.cell)else(n,k)).lookup y=some k':=by
    by_cases hc:(k==NameKind.free&&env.scope.kind==.function&&env.kindOf n==some .cell)=true
    ·rw[if_pos hc]at h
     simp only[List.lookup_cons,hx]at h
     exact h
    ·rw[if_neg hc]at h
     simp only[List.lookup_cons,hx]at h
     exact h
   simp only[List.lookup_cons,hx]
   exact ih h'
section
variable {X:Cx}{scope:Scope}{cl:List (Str×Addr)}{x:Str}{fv:List Str}{js:List Nat}
theorem Bv.cell_of (S:Bv X scope cl x fv js){y:Str}{c:Addr}(h:cl.lookup y=some c):X.env.cells.lookup y=some c:=S.cls (y,c) (PySem.mem_of_lookup h)
theorem Bv.own (S:Bv X scope cl x fv js){C:Addr}{y:Str}{k:NameKind}(h:(compEnvC scope cl C X.env).kindOf y=some k)(hk:k=.cell∨k=.free):y∈fv:=by
 have h':(scope.names.map fun(n,k)=>if(k==NameKind.free&&X.env.scope.kind==.function&&X.env.kindOf n==some .cell)then(n,NameKind.cell)else(n,k)).lookup y=some k:=h
 rcases DE h' with q | ⟨q,_⟩
 ·rcases hk with rfl | rfl
  ·exact absurd rfl (S.nc _ (PySem.mem_of_lookup q))
  ·exact S.fr _ (PySem.mem_of_lookup q) rfl
 ·exact S.fr _ (PySem.mem_of_lookup q) rfl
theorem IQ {F:Str→Nat→Prop}:∀{ys:List Str} {js:List Nat} {i:Nat} {y:Str},Paired F ys js→ys[i]?=some y→∃ j,js[i]?=some j∧F y j:=by
 intro A B j x h
 induction h generalizing j with
 | nil=>
  intro e
  simp at e
 | cons r t ih=>
  intro e
  cases j with
  | zero=>
   simp at e
   subst e
   exact⟨_,rfl,r⟩
  | succ j=>
   obtain⟨y,h1,h2⟩:=ih (by simpa using e)
   exact⟨y,by simpa using h1,h2⟩
theorem IR {pins:List (Addr×Obj)}{σ:St}{H:Hp}{s:Shared}{h₁:Heap}{ex:List Addr}{tk:Nat}(S:Bv X scope cl x fv js)(I:Af X pins σ H s)
 (hf:∀ b∈ex,EK X pins H b) (hlt:∀ b∈ex,b<s.heap.objs.size) (hns:h₁.Ns s.heap.objs.size (fun _=>none)) (hk:∀ b o,s.heap.get? b=some o→h₁.get? b=some o):
 Af (Bh X scope cl s.heap.objs.size (x::fv) s H ex (X.pn++pins)) [] (none::JH js σ) H { s with heap:=h₁,toks:=tk }:=by
 have nstk:∀ b∈ex,b∉Hm X.stack:=fun b hb z=>by
  rcases List.mem_cons.mp (I.stkSub b z)with e | e
  ·exact(hf b hb).2.1 e
  ·exact(hf b hb).2.2.1 e
 have ok:(Bh X scope cl s.heap.objs.size (x::fv) s H ex (X.pn++pins)).Ok:=by
  refine⟨I.ok.mod,S.kind,I.ok.glob,I.ok.blt,Nat.le_refl _,fun y z c h1 h2=>I.ok.inj y z c (S.cell_of h1) (S.cell_of h2),fun y hy=>?_,(fun y c h hc=>by
   have h':((cl.lookup y).any fun c=>decide (s.heap.objs.size<c))=true:=h
   rw[show cl.lookup y=some c from hc]at h'
   exact Nat.le_of_lt (of_decide_eq_true h')),I.ok.hd,I.ok.frames,.inl rfl,
   fun b hb=>⟨Nat.ne_of_lt (hlt b hb),fun y c h=>(hf b hb).2.2.2.2.1 y c (S.cell_of h)⟩,I.bs,Nat.le_trans I.ok.bsz I.sz,fun b o e hb=>?_,nstk,I.stack,I.stkFree⟩
  ·have hm:y∈fv:=by
    rcases hy with hy | hy
    ·exact S.own hy (.inl rfl)
    ·exact S.own hy (.inr rfl)
   exact Option.isSome_iff_exists.mp (S.vis y hm).2.2
  ·obtain⟨f0,f1,f2,f3,f4,f5⟩:=hf b hb
   rcases f3 with z | z
   ·exact I.ok.noex b o e z
   ·exact absurd (Nat.lt_of_lt_of_le (Heap.lt_size e) (Nat.le_trans I.ok.bsz z)) (Nat.lt_irrefl _)
 refine⟨ok,rfl,I.bare,Un.kept hk,⟨_,hns,fun i y v e1 e2 e3=>?_⟩,fun y c h=>?_,I.hok.fresh (Nat.le_refl _),fun y c h=>I.freeC y c (S.cell_of h),fun p hp=>?_,I.hok.kept hk,?_⟩
 ·cases i with
  | zero=>have z:(some (none:Option V))=some (some v):=e2;cases z
  | succ i=>
   have hy:fv[i]?=some y:=by simpa [Bh]using e1
   obtain⟨j,hj,hN⟩:=IQ S.sl hy
   have hv:σ[j]?=some (some v):=by
    have z:(JH js σ)[i]?=some (some v):=by simpa using e2
    unfold JH at z
    rw[List.getElem?_map,hj]at z
    have z':(σ[j]?).getD none=some v:=Option.some.inj z
    cases q:σ[j]? with
    | none=>rw[q]at z';cases z'
    | some o=>rw[q]at z';exact congrArg some z'
   obtain⟨hfree,hcell,hsome⟩:=S.vis y (List.mem_of_getElem? hy)
   obtain⟨m,hn,hl⟩:=I.loc
   obtain⟨u,ru,look⟩:=hl j y v hN hv (.inr (.inl hcell))
   refine⟨u,ru,.inr ⟨.inl (DD I.ok.kind hfree hcell),?_⟩⟩
   obtain⟨c',hc'⟩:=Option.isSome_iff_exists.mp hsome
   rcases look with⟨k,_⟩ | ⟨_,c,ec,z⟩
   ·have k':X.env.scope.names.lookup y=some .local:=k
    rw[hcell]at k';cases k'
   ·have e:=S.cell_of hc'
    rw[ec]at e
    cases e
    exact⟨_,hc',by obtain⟨o,ho,hd⟩:=z;exact⟨o,hk _ _ ho,hd⟩⟩
 ·obtain⟨v,o,ho,hd⟩:=I.cell y c (S.cell_of h)
  exact⟨v,o,hk _ _ ho,hd⟩
 ·have hp':p∈X.pn++pins:=by simpa [Bh]using hp
  obtain⟨e,n,ne,nf,d⟩:=I.pin p hp'
  refine⟨hk _ _ e,n,Nat.ne_of_lt (Heap.lt_size e),fun z=>?_,d⟩
  rcases List.mem_cons.mp (I.stkSub p.1 z)with q | q
  ·exact ne q
  ·exact nf q
 ·show(none::JH js σ).length=(x::fv).length
  have:fv.length=js.length:=Paired.length S.sl
  simp[JH,this]
theorem K9 {pins pins':List (Addr×Obj)}{σ σ':St}{H H':Hp}{s s':Shared}{h'':Heap}{ex:List Addr}{N:List Str}{pn:List (Addr×Obj)}(I:Af X pins σ H s)(hf:∀ b∈ex,EK X pins H b)
 (J:Af (Bh X scope cl s.heap.objs.size N s H ex pn) pins' σ' H' s') (sb:Heap.SameBut s.heap.objs.size s'.heap h''):Af X pins σ H' { s' with heap:=h'' }:=by
 have neC:∀ b o,s.heap.get? b=some o→b≠s.heap.objs.size:=fun b o e=>Nat.ne_of_lt (Heap.lt_size e)
 have u:Un (Hm X.stack) ex H H' s.heap s'.heap:=J.base
 have fr:H' s.heap.objs.size=none:=J.free
 refine I.call' (s':={ s' with heap:=h'' }) (ch:=ex) J.os ⟨fun b o e n hb hx=>?_,fun b o e n hb hx=>?_,u.free,fun b o e hx=>?_,u.tups,u.frzs,u.tbls⟩ (fun b o e=>?_) J.bare (fun b hb=>?_)
 ·exact(sb.2 b (neC b o e)).trans (u.keep b o e n hb hx)
 ·obtain⟨sl,q⟩:=u.slot b o e n hb hx
  exact⟨sl,(sb.2 b (neC b o e)).trans q⟩
 ·obtain⟨o',q⟩:=u.there b o e hx
  exact⟨o',(sb.2 b (neC b o e)).trans q⟩
 ·refine(J.hok b o e).stay (fun c v hc q=>(sb.2 c ?_).trans q) (fun _ q=>q) fun _ _ q=>q
  rcases hc with rfl | hc
  ·intro z;rw[z,fr]at e;cases e
  ·intro z;rw[z,fr]at hc;cases hc
 ·obtain⟨f0,f1,f2,f3,f4,f5⟩:=hf b hb
  exact⟨f3,f1,f4,f5⟩
end
def PF (X:Cx)(ifs:List Expr)(t:TT):Prop:=
 ∀(pins:List (Addr×Obj)) (s:Shared) (σ:St) (H:Hp) (Q:Bool→Hp→Prop),Af X pins σ H s→t σ H Q→
  wpAny (model X.prog X.w) X.A (forIn ifs true fun c r=>if r=true then do let ok ← isTrue c X.env (eval c X.env);pure (ForInStep.yield ok)else pure (ForInStep.yield r)) (TP X pins σ Q) X.xe s
def TH:TT:=fun _ H Q=>Q true H
theorem Cp {X:Cx}:PF X [] TH:=by
 intro pins s σ H Q I h
 rw[List.forIn_nil]
 exact wpAny_pure ⟨H,I,h⟩
theorem PN {X:Cx}{c:Expr}{t:TT}(h:PT X c t):PF X [c] t:=by
 intro pins s σ H Q I hq
 rw[List.forIn_cons]
 refine wpAny_bind ?_
 rw[if_pos rfl]
 refine wpAny_bind (BI (h pins s σ H Q I hq) fun b s1 q=>wpAny_pure ?_)
 dsimp only
 rw[List.forIn_nil]
 exact wpAny_pure q
section
variable {prog:Program}{w:World}{A:Around}{R:Result→Shared→Prop}{s:Shared}
theorem HG {elt target iter:Expr}{ifs:List Expr}{scope:Scope}{pos:Pos}{it acc:Value}{env:Env}(I:Nat→Shared→Prop)
 (turn:∀ n s,I n s→wpAny (model prog w) A (pyNext it) (fun r s₁=>match r with
  | none=>R (.ok .next) s₁
  | some v=>wpAny (model prog w) A (letOwnedTupleGo target it v) (fun _ s₁'=>wpAny (model prog w) A (assign target env v) (fun _ s₂=>
   wpAny (model prog w) A (forIn ifs true fun c r=>if r=true then do let ok ← isTrue c env (eval c env);pure (ForInStep.yield ok)else pure (ForInStep.yield r)) (fun ok s₃=>
    if ok=true then wpAny (model prog w) A (eval elt env) (fun x s₄=>
     wpAny (model prog w) A (call (.builtin "list.append") [acc,x]) (fun _ s₅=>∃ m,m<n∧I m s₅) (fun _ _=>False) s₄) (fun _ _=>False) s₃
    else ∃ m,m<n∧I m s₃) (fun _ _=>False) s₂) (fun _ _=>False) s₁') (fun _ _=>False) s₁) (fun _ _=>False) s)
 (n:Nat) (h:I n s):
 codeAny (model prog w) A (.compLoop (.ListComp elt [⟨target,iter,ifs,0⟩] scope pos) 0 it acc env) R s:=by
 refine codeAny_loop rfl I (fun n s hI=>?_) n h
 show wpAny _ A ((compTurn (.ListComp elt [⟨target,iter,ifs,0⟩] scope pos) 0 it acc env).onRaise (fun x=>do noteFrame x env;theTreesLotGoes x)) _ _ s
 refine wpAny_noted ?_
 rw[compTurn_list]
 refine wpAny_bind (wpAny_standAt (wpAny_bind (wpAny_mono (turn n s hI) (fun r s₁ h₁=>?_) fun _ _ h'=>h'.elim)))
 cases r with
 | none=>exact wpAny_pure h₁
 | some v=>
  refine wpAny_bind (wpAny_mono h₁ (fun _ s₁' h₁'=>?_) fun _ _ h'=>h'.elim)
  refine wpAny_bind (wpAny_mono h₁' (fun _ s₂ h₂=>wpAny_bind (wpAny_mono h₂ (fun ok s₃ h₃=>?_) fun _ _ h'=>h'.elim)) fun _ _ h'=>h'.elim)
  cases ok with
  | false=>exact wpAny_pure ⟨rfl,h₃⟩
  | true=>
   exact wpAny_bind (wpAny_bind (wpAny_mono h₃ (fun x s₄ h₄=>wpAny_bind (wpAny_mono h₄ (fun _ s₅ h₅=>wpAny_pure (wpAny_pure ⟨rfl,h₅⟩)) fun _ _ h'=>h'.elim)) fun _ _ h'=>h'.elim))
end
def PP (wi:TI)(js:List Nat)(tt:TT)(te:TE):TE:=fun σ H Q=>wi σ H fun J H1=>∀ D,H1 D=none→∃ W:Nat→Nat→Hp→Prop,(∃ m,W 0 m (upd H1 D (.lst [])))∧∀ i m H,W i m H→
 (J.stop i H∧Q (.ref D) H)∨(J.go i H∧∀ x H',J.yld i H x H'→tt (some x::JH js σ) H' fun b H2=>
  if b=true then te (some x::JH js σ) H2 fun v H3=>∃ xs,H3 D=some (.lst xs)∧xs.length<sizeLine∧∃ m',m'<m∧W (i+1) m' (upd H3 D (.lst (xs++[v])))
  else ∃ m',m'<m∧W (i+1) m' H2)
theorem B7 {X:Cx}{elt iter:Expr}{ifs:List Expr}{x:Str}{px pos:Pos}{scope:Scope}{cl:List (Str×Addr)}{fv:List Str}{js:List Nat}{wi:TI}{tt:TT}{te:TE}(hc:X.calm=true)(hclos:closureFor scope X.env=pure cl)
 (S:Bv X scope cl x fv js) (hi:PI X (.Name x px) iter wi)
 (ht:∀(C:Addr) (s₀:Shared) (H₀:Hp) (ex:List Addr) (pn:List (Addr×Obj)),PF (Bh X scope cl C (x::fv) s₀ H₀ ex pn) ifs tt)
 (he:∀(C:Addr) (s₀:Shared) (H₀:Hp) (ex:List Addr) (pn:List (Addr×Obj)),PE (Bh X scope cl C (x::fv) s₀ H₀ ex pn) elt te)
 (hs:∀ x,foldedSetIterable iter X.env x=pure x:=by intro _;rfl):PE X (.ListComp elt [⟨.Name x px,iter,ifs,0⟩] scope pos) (PP wi js tt te):=by
 intro pins s σ H Q I h
 rw[eval_ListComp]
 refine wpAny_comprehension_free (use:=none) rfl hs hclos S.kind S.nm (BI (hi pins s σ H _ I h) fun v s1 h1=>BI h1 fun itv s2 h2=>?_)
 obtain⟨it,fp,tn,J,H2,e,I2,T,st2,f2,hW⟩:=h2
 subst e
 have hD:H2 s2.heap.objs.size=none:=I2.hok.fresh (Nat.le_refl _)
 obtain⟨W,⟨m0,w0⟩,turn⟩:=hW s2.heap.objs.size hD
 have lt2:∀ b∈fp,b<s2.heap.objs.size:=fun b hb=>by
  obtain⟨o,e,_⟩:=T.obj _ _ st2 b hb
  exact Heap.lt_size e
 refine wpAny_newObj_type (wpAny_newFunctionEnv S.nc (by intro y hy;simp at hy) (fun h₁ hns₁ hsb₁=>?_) S.kind)
 dsimp only at hns₁ hsb₁ ⊢
 have I3:Af X pins σ (upd H2 s2.heap.objs.size (.lst [])) { s2 with heap:=s2.heap.push { cls:=.type "list",dict:=none,data:=.seq ([]:List Value).toArray } }:=I2.lnew (t':=s2.toks) .nil (Nat.zero_le _)
 generalize hS3:({ s2 with heap:=s2.heap.push { cls:=.type "list",dict:=none,data:=.seq ([]:List Value).toArray } }:Shared)=s3 at I3
 have eh:s3.heap=s2.heap.push { cls:=.type "list",dict:=none,data:=.seq ([]:List Value).toArray }:=by rw[← hS3]
 rw[← eh]at hns₁ hsb₁ ⊢
 have hsz:s3.heap.objs.size=s2.heap.objs.size+1:=by rw[eh,Heap.size_push]
 have k23:∀ b o,s2.heap.get? b=some o→s3.heap.get? b=some o:=fun b o e=>by rw[eh];exact Heap.get?_push_of_some _ e
 have k34:∀ b o,s3.heap.get? b=some o→h₁.get? b=some o:=fun b o e=>hsb₁.extBut b o (Nat.ne_of_lt (Heap.lt_size e)) (Heap.get?_push_of_some _ e)
 have f3:∀ b∈fp,EK X pins (upd H2 s2.heap.objs.size (.lst [])) b:=fun b hb=>⟨by rw[AR (Nat.ne_of_lt (lt2 b hb))];exact(f2 b hb).1,(f2 b hb).2⟩
 have lt3:∀ b∈fp,b<s3.heap.objs.size:=fun b hb=>by rw[hsz];exact Nat.lt_succ_of_lt (lt2 b hb)
 have I4:=IR (tk:=s3.toks) S I3 f3 lt3 (h₁:=h₁) (by simpa using hns₁) k34
 generalize hY:Bh X scope cl s3.heap.objs.size (x::fv) s3 (upd H2 s2.heap.objs.size (.lst [])) fp (X.pn++pins)=Y at I4
 have hYp:Y.prog=X.prog:=by rw[← hY];rfl
 have hYw:Y.w=X.w:=by rw[← hY];rfl
 have hYK:Y.K=X.K:=by rw[← hY];rfl
 have hYA:Y.A=X.A:=by rw[← hY];rfl
 have hYc:Y.calm=true:=by rw[← hY];exact hc
 have hYe:Y.env=compEnvC scope cl s3.heap.objs.size X.env:=by rw[← hY];rfl
 have hYx:Y.xe=fun _ _=>False:=by rw[← hY];rfl
 have hYN:Y.N=x::fv:=by rw[← hY];rfl
 have heY:PE Y elt te:=by rw[← hY];exact he _ _ _ _ _
 have htY:PF Y ifs tt:=by rw[← hY];exact ht _ _ _ _ _
 have stat:∀{H':Hp},(∀ b∈fp,H' b=none)→∀ b∈fp,EK Y [] H' b:=fun {H'} hn b hb=>by
  obtain⟨g0,g1,g2,g3,g4,g5⟩:=f3 b hb
  rw[← hY]
  refine⟨hn b hb,Nat.ne_of_lt (lt3 b hb),fun z=>?_,.inl hb,fun y c e=>g4 y c (S.cell_of e),fun p hp=>g5 p (by simpa [Bh]using hp)⟩
  rcases List.mem_cons.mp (I3.stkSub b z)with q | q
  ·exact g1 q
  ·exact g2 q
 have fin:∀{i:Nat} {m:Nat} {σ':St} {H':Hp} {s':Shared},Af Y [] σ' H' s'→Q (.ref s2.heap.objs.size) H'→compPost (model X.prog X.w) X.A X.xe none (EP X pins σ Q) (.ref s2.heap.objs.size) s3.heap.objs.size (.ok .next) s':=fun {i m σ' H' s'} J q=>by
  obtain⟨mm,hn,_⟩:=J.loc
  rw[← hY]at J hn
  refine⟨mm,hn,fun h'' sb=>?_⟩
  exact⟨.ref _,H',K9 I3 f3 J sb,rfl,q⟩
 have st4:∀ s4:Shared,s4={ s3 with heap:=h₁,toks:=s3.toks }→tn 0 s4.heap:=fun s4 e=>by
  subst e
  exact T.keep _ _ _ st2 fun b hb o e=>k34 b o (k23 b o e)
 have loop:codeAny (model X.prog X.w) X.A (.compLoop (.ListComp elt [⟨.Name x px,iter,ifs,0⟩] scope pos) 0 (.ref it) (.ref s2.heap.objs.size) (compEnvC scope cl s3.heap.objs.size X.env))
  (compPost (model X.prog X.w) X.A X.xe none (EP X pins σ Q) (.ref s2.heap.objs.size) s3.heap.objs.size) { s3 with heap:=h₁,toks:=s3.toks }:=by
  refine HG (fun n s'=>∃(i:Nat) (o:Option V) (H':Hp),Af Y [] (o::JH js σ) H' s'∧tn i s'.heap∧(∀ b∈fp,H' b=none)∧W i n H') ?_ m0 ⟨0,none,_,I4,st4 _ rfl,fun b hb=>(f3 b hb).1,w0⟩
  rintro n s5 ⟨i,o,H5,I5,st5,fr5,w5⟩
  rcases turn i n H5 w5 with⟨stop,q⟩ | ⟨go,step⟩
  ·have r:=T.done Y hYp hYw hYK hYc i [] s5 _ H5 (fun _ _=>False) I5 (stat fr5) st5 stop
   rw[hYA]at r
   refine BI r fun r s6 zq=>?_
   obtain⟨hr,I6⟩:=zq
   subst hr
   exact fin (i:=i) (m:=n) I6 q
  ·have r:=T.item Y hYp hYw hYK hYc i [] s5 _ H5 (fun _ _=>False) I5 (stat fr5) st5 go
   rw[hYA]at r
   refine BI r fun r s6 zq=>?_
   obtain⟨u,hr,h6⟩:=zq
   subst hr
   refine BI h6 fun _ s7 zq=>?_
   obtain⟨y,H7,I7,r7,y7,st7,fr7⟩:=zq
   have I7':=I7.pinned (stat fr7) (T.obj _ _ st7)
   have hname:PG Y (.Name x px) (JZ 0):=Bg (X:=Y) (i:=0) (by rw[hYN];exact S.nd) (by rw[hYN];rfl) (.inl (by rw[hYe];exact lookup_relabel_local S.hx)) (.inr (by rw[hYe];exact lookup_relabel_local S.hx))
   have r8:=hname _ s7 _ H7 y u (fun σ' H'=>σ'=some y::JH js σ∧H'=H7) I7' r7 ⟨rfl,rfl⟩
   rw[hYp,hYw,hYA,hYe,hYx]at r8
   refine BI r8 fun _ s8 zq=>?_
   obtain⟨σ8,H8,I8,e1,e2⟩:=zq
   subst e1 e2
   have r9:=htY _ s8 _ _ _ I8 (step y _ y7)
   rw[hYp,hYw,hYA,hYe,hYx]at r9
   refine BI r9 fun b s9 zq=>?_
   obtain⟨H9,I9,q9⟩:=zq
   have again:∀{σ':St} {H':Hp} {s':Shared},Af Y ([]++GY fp s7.heap) (some y::JH js σ) H' s'→(∃ m',m'<n∧W (i+1) m' H')→
    ∃ m,m<n∧∃(i:Nat) (o:Option V) (H':Hp),Af Y [] (o::JH js σ) H' s'∧tn i s'.heap∧(∀ b∈fp,H' b=none)∧W i m H':=fun {σ' H' s'} K7 ⟨m',hm,w7⟩=>by
    refine⟨m',hm,i+1,some y,H',K7.unpinned,T.keep _ _ _ st7 fun b hb o e=>(K7.pin (b,o) (List.mem_append_right _ (List.mem_append_right _ (CZ hb e)))).1,fun b hb=>?_,w7⟩
    obtain⟨o,e,d⟩:=T.obj _ _ st7 b hb
    exact(K7.pin (b,o) (List.mem_append_right _ (List.mem_append_right _ (CZ hb e)))).2.1
   cases b with
   | false=>
    rw[if_neg Bool.false_ne_true]at q9 ⊢
    exact again (σ':=[]) I9 q9
   | true=>
    rw[if_pos rfl]at q9 ⊢
    have r10:=heY _ s9 _ _ _ I9 q9
    rw[hYp,hYw,hYA,hYe,hYx]at r10
    refine BI r10 fun v s10 zq=>?_
    obtain⟨y10,H10,I10,ry,xs,hxs,hlen,m',hm,w10⟩:=zq
    have r11:=Ca (X:=Y) _ s10 _ H10 (.ref s2.heap.objs.size) [y10] (.ref s2.heap.objs.size) [v] (fun _ H'=>H'=upd H10 s2.heap.objs.size (.lst (xs++[y10]))) I10 rfl (.cons ry .nil) ⟨_,xs,y10,rfl,rfl,hxs,hlen,rfl⟩
    rw[hYp,hYw,hYA,hYx]at r11
    refine BI r11 fun _ s11 zq=>?_
    obtain⟨_,H11,I11,_,e11⟩:=zq
    subst e11
    exact again (σ':=[]) I11 ⟨m',hm,w10⟩
 have loop':∀ s4:Shared,s4={ s3 with heap:=h₁,toks:=s3.toks }→codeAny (model X.prog X.w) X.A (.compLoop (.ListComp elt [⟨.Name x px,iter,ifs,0⟩] scope pos) 0 (.ref it) (.ref s2.heap.objs.size) (compEnvC scope cl s3.heap.objs.size X.env))
  (compPost (model X.prog X.w) X.A X.xe none (EP X pins σ Q) (.ref s2.heap.objs.size) s3.heap.objs.size) s4:=fun s4 e=>by subst e;exact loop
 have e4:∀ t,t=s3.toks→({ s3 with heap:=h₁,toks:=t }:Shared)={ s3 with heap:=h₁,toks:=s3.toks }:=fun t e=>by rw[e]
 have fin4:∀ s4:Shared,s4={ s3 with heap:=h₁,toks:=s3.toks }→codeAny (model X.prog X.w) X.A (.compStart (.ListComp elt [⟨.Name x px,iter,ifs,0⟩] scope pos) 0 (.ref it) (.ref s2.heap.objs.size) (compEnvC scope cl s3.heap.objs.size X.env))
  (compPost (model X.prog X.w) X.A X.xe none (EP X pins σ Q) (.ref s2.heap.objs.size) s3.heap.objs.size) s4:=fun s4 e=>
  codeAny_compStart_list (loop' s4 e) (T.self X.A 0 s4 _ _ (st4 s4 e) (loop' s4 e))
 have es:({ s2 with heap:=s2.heap.push { cls:=.type "list",dict:=none,data:=.seq ([]:List Value).toArray } }:Shared)=s3:=hS3
 refine fin4 _ ?_
 rw[← es]
 rfl
structure W5 (P:Program)(w:World)(l:List Env)(H H':Hp)(h h' B:Heap):Prop where
 inB:∀ b o,h.get? b=some o→b∉Hm l→∃ o1,B.get? b=some o1∧(H b=none→o1=o)
 trk:∀ b u,H' b=some u→∃ o,B.get? b=some o
 st:B.StaysIn h'
 fr:∀ b∈Hm l,H b=none∧∃ o,h.get? b=some o∧∀ vs,o.data≠.fields vs
 slot:∀ b o,h.get? b=some o→b∈Hm l→∃ sl,h'.get? b=some { o with slots:=sl }
 free:∀ b o,h.get? b=some o→H b=none→H' b=none
 tups:∀ b xs,H b=some (.tup xs)→H' b=some (.tup xs)
 frzs:∀ b o u,H b=some (.frz o u)→H' b=some (.frz o u)
 tbls:∀ b ps,H b=some (.tbl ps)→∃ more,H' b=some (.tbl (ps++more))
 hok:Eh P w H' h'
section
variable {P:Program}{w:World}{K:PySem.W.Frag}{mg:Str→Option Value}{base:Heap}{N:List Str}{qual:Str}{scope:Scope}{f:Addr}{cd:Value}{A:Around}{outer:List Env}{s:Shared}{H:Hp}{E:XK}
structure X7 (K:PySem.W.Frag)(x:Str)(C:Addr):Prop where
 ns:PySem.W.nsIn K mainGlobals x=some (some (.ref C))
 ex:PySem.W.excIn K C [.type "ValueError",.type "Exception",.type "BaseException",.type "object"] "ValueError.__new__"=true
end
section
open Builtin Builtin.ObjectAttr Builtin.Getset_descriptor
variable {prog:Program}{w:World}{A:Around}{E:Value→Shared→Prop}{s:Shared}{K:PySem.W.Frag}{a C:Addr}{o:Obj}
structure X8 (K:PySem.W.Frag)(C:Addr):Prop where
 cl:(PySem.W.clsIn K C).isSome=true
 ga:PySem.W.findIn K (.ref C) "__getattribute__"=some (some (.builtin "BaseException.__getattribute__"))
 gh:PySem.W.findIn K (.ref C) "__getattr__"=some none
 at_:PySem.W.findIn K (.ref C) "__class__"=some (some (.builtin "object.__class__"))
 ob:PySem.W.mroIn K C (.type "object")=some true
 be:PySem.W.mroIn K C (.type "BaseException")=some true
end
section
variable {X:Cx}{es:List Expr}{te:TE}{t:TA}{pos:Pos}
theorem Av {a0:List Expr}{a1:Nat}(ha:PE X (Expr.Tuple a0 a1 pos) te)(hr:PA X es t):PA X ((Expr.Tuple a0 a1 pos)::es) (Fe te t):=DG ha hr rfl
theorem LA {a0:List Expr}(ha:PE X (Expr.List a0 pos) te)(hr:PA X es t):PA X ((Expr.List a0 pos)::es) (Fe te t):=DG ha hr rfl
theorem CL {a0:Expr}{a1:Operator}{a2:Expr}(ha:PE X (Expr.BinOp a0 a1 a2 pos) te)(hr:PA X es t):PA X ((Expr.BinOp a0 a1 a2 pos)::es) (Fe te t):=DG ha hr rfl
theorem BD {a0:Expr}{a1:List Expr}{a2:List Keyword}(ha:PE X (Expr.Call a0 a1 a2 pos) te)(hr:PA X es t):PA X ((Expr.Call a0 a1 a2 pos)::es) (Fe te t):=DG ha hr rfl
theorem AA {a0:Str}(ha:PE X (Expr.Name a0 pos) te)(hr:PA X es t):PA X ((Expr.Name a0 pos)::es) (Fe te t):=DG ha hr rfl
theorem AH {a0:Const}{a1:Nat}(ha:PE X (Expr.Constant a0 a1 pos) te)(hr:PA X es t):PA X ((Expr.Constant a0 a1 pos)::es) (Fe te t):=DG ha hr rfl
theorem AT {a0:Expr}{a1:Expr}(ha:PE X (Expr.Subscript a0 a1 pos) te)(hr:PA X es t):PA X ((Expr.Subscript a0 a1 pos)::es) (Fe te t):=DG ha hr rfl
theorem PQ {a0:UnaryOp}{a1:Expr}(ha:PE X (Expr.UnaryOp a0 a1 pos) te)(hr:PA X es t):PA X ((Expr.UnaryOp a0 a1 pos)::es) (Fe te t):=DG ha hr rfl
theorem CM {a0:Expr}{a1:List Comprehension}{a2:Scope}(ha:PE X (Expr.ListComp a0 a1 a2 pos) te)(hr:PA X es t):PA X ((Expr.ListComp a0 a1 a2 pos)::es) (Fe te t):=DG ha hr rfl
end
def U5 (z:Str):It:=⟨fun i _=>i<z.cps.size,fun i H x H'=>H'=H∧∃ c,z.cps[i]?=some c∧x=.str ⟨#[c]⟩,fun i _=>i=z.cps.size⟩
theorem LB {P:Program}{w:World}{K:PySem.W.Frag}{tg:Expr}(it:Addr)(x:Str)(t:Tok)(ty:String)
 (hW:∀ A':Around,A'.handled=none→Walks P w A' it [it] [it] x.cps.size (SignAt x) (fun i h=>h.IsStrIter it ty x t i))
 (hn:["enumerate","zip","dict_itemiterator","dict_reverseitemiterator","odict_iterator","itertools.zip_longest","itertools.pairwise"].contains ty=false)
 (hS:∀(A:Around) (i:Nat) (s:Shared) (Q:Value→Shared→Prop) (E:Value→Shared→Prop),s.heap.IsStrIter it ty x t i→Q (.ref it) s→wpAny (model P w) A (pyIter (.ref it)) Q E s):
 N2 P w K tg (U5 x) [it] it (fun i h=>h.IsStrIter it ty x t i) where
 mem:=by simp
 obj:=fun i h st b hb=>by
  have e:b=it:=by simpa using hb
  subst e
  obtain⟨o,e,c,d⟩:=st
  exact⟨o,e,fun v z=>by rw[d]at z;cases z⟩
 keep:=fun i h h' st k=>let ⟨o,e,r⟩:=st;⟨o,k it (by simp) o e,r⟩
 item:=by
  intro X hP hw hK hc i pins s σ H E I hf st hg
  subst hP hw hK
  obtain⟨f0,f1,f2,f3,f4,f5⟩:=hf it (by simp)
  refine(hW X.A (I.ok.hd hc)).item i s _ _ hg st fun v h' tk hv st' kk=>?_
  obtain⟨c,u,hcu,rfl⟩:=hv
  have I1:Af X pins σ H { s with heap:=h',toks:=tk }:=I.turned (fun b o hb e=>kk b o (by simpa using hb) e) f0 f1 f3 f4 f5
  obtain⟨o,e,cc,d⟩:=id st'
  exact⟨_,rfl,NB (s:={ s with heap:=h',toks:=tk }) e cc d hn ⟨.str ⟨#[c]⟩,H,I1,⟨u,rfl⟩,⟨rfl,c,hcu,rfl⟩,st',fun b hb=>(hf b hb).1⟩⟩
 done:=by
  intro X hP hw hK hc i pins s σ H E I hf st hg
  subst hP hw hK
  obtain⟨f0,f1,f2,f3,f4,f5⟩:=hf it (by simp)
  have hg:i=x.cps.size:=hg
  subst hg
  exact(hW X.A (I.ok.hd hc)).done s _ _ st fun h' tk kk=>⟨rfl,I.turned (fun b o hb e=>kk b o (by simpa using hb) e) f0 f1 f3 f4 f5⟩
 self:=fun A i s Q E st h=>hS A i s Q E st h
section
variable {X:Cx}{tg:Expr}
def W6 (tl:TE):TI:=fun σ H R=>tl σ H fun x H1=>∃ z,x=.str z∧R (U5 z) H1
theorem PR {l:Expr}{tl:TE}(hl:PE X l tl):PI X tg l (W6 tl):=by
 intro pins s σ H R I h
 refine BI (hl pins s σ H _ I h) fun v s1 zq=>?_
 obtain⟨x,H1,I1,r1,q1⟩:=zq
 obtain⟨z,e,q⟩:=q1
 subst e
 obtain⟨t,rfl⟩:=r1
 have fp:∀ b∈[s1.heap.objs.size],EK X pins H1 b:=fun b hb=>by
  have e:b=s1.heap.objs.size:=by simpa using hb
  subst e
  exact I1.fpOk (Nat.le_refl _) (I1.hok.fresh (Nat.le_refl _))
 cases ha:z.cps.all (·<128)
 ·refine wpAny_pyIter_wide ha ?_
  exact⟨s1.heap.objs.size,[s1.heap.objs.size],_,_,H1,rfl,I1.kept (t':=s1.toks) fun b o e=>Heap.get?_push_of_some _ e,
   LB _ z t "str_iterator" (fun A' hA=>Walks.strWide hA _ z t) (by decide) (fun A i s Q E st h=>wpAny_pyIter_striter_wide st h),⟨_,Heap.get?_push_size _ rfl,rfl,rfl⟩,fp,q⟩
 ·refine wpAny_pyIter_ascii ha ?_
  exact⟨s1.heap.objs.size,[s1.heap.objs.size],_,_,H1,rfl,I1.kept (t':=s1.toks) fun b o e=>Heap.get?_push_of_some _ e,
   LB _ z t "str_ascii_iterator" (fun A' hA=>Walks.strAscii hA _ z t) (by decide) (fun A i s Q E st h=>wpAny_pyIter_striter_ascii st h),⟨_,Heap.get?_push_size _ rfl,rfl,rfl⟩,fp,q⟩
end
theorem Eu:∀(bs:List Bool),(List.range bs.length).all (fun i=>bs.getD i true)=bs.all id
 | []=>rfl
 | b::bs=>by
  have ih:=Eu bs
  rw[List.length_cons,List.range_succ_eq_map,List.all_cons,List.all_map,List.all_cons]
  simp only[List.getD_cons_zero,id]
  rw[← ih]
  rfl
theorem Am.bools:∀{bs:List Bool} {us:List Value} {i:Nat} {v:Value},Am (bs.map V.bl) us→us[i]?=some v→v=.bool (bs.getD i true)
 | [],_,_,_,.nil,e=>by simp at e
 | b::bs,_,0,_,.cons r _,e=>by
  have e':=Option.some.inj e
  subst e'
  exact r
 | b::bs,_,i+1,v,.cons _ t,e=>by
  have:=Am.bools (i:=i) (v:=v) t (by simpa using e)
  simpa using this
section
variable {X:Cx}
theorem Cj (hc:X.calm=true):Ci X (.builtin "all") (fun xs H Q=>∃(p:Addr) (bs:List Bool),xs=[.ref p]∧At X.K H p (bs.map V.bl)∧Q (.bl (bs.all id)) H):=by
 intro pins s σ H xs us Q I r h
 obtain⟨p,bs,rfl,hq,q⟩:=h
 obtain⟨u,rfl,rx⟩:=Fd r
 cases rx
 obtain⟨its,rv,pl,hz⟩:=I.list hq
 have hl:=rv.length
 rw[List.length_map]at hl
 have hlt:p<s.heap.objs.size:=by obtain⟨o,e,_⟩:=pl.isList;exact Heap.lt_size e
 have hne:p≠s.heap.objs.size:=Nat.ne_of_lt hlt
 refine call_all_walk (wpAny_pyIter_list pl.isList ⟨s.heap.objs.size,[s.heap.objs.size,p],[s.heap.objs.size],its.toArray.size,_,_,fun i=>bs.getD i true,rfl,
  Walks.list (A:=X.A.in1) (show X.A.in1.handled=none from I.ok.hd hc) s.heap.objs.size p hne its.toArray,⟨⟨_,Heap.get?_push_size _ rfl,rfl,rfl⟩,pl.isList.at fun o e=>Heap.get?_push_of_some _ e⟩,?_,fun h' tk kk=>?_⟩)
 ·intro i v s' Q' E' hP hQ
  have e:=Am.bools rv (show its[i]?=some v by simpa using hP)
  subst e
  exact wpAny_truthy_bool hQ
 ·have hsz:its.toArray.size=bs.length:=by rw[List.size_toArray,← hl]
  rw[hsz,Eu]
  exact⟨.bl _,H,I.kept fun b o e=>kk b o (by simp;exact Nat.ne_of_lt (Heap.lt_size e)) (Heap.get?_push_of_some _ e),rfl,q⟩
theorem Cl:bootBuiltins "all"=some (.builtin "all"):=by nofun
def PJ (X:Cx)(es:List Expr)(t:Str→TE):Prop:=
 ∀(acc:Str) (pins:List (Addr×Obj)) (s:Shared) (σ:St) (H:Hp) (Q:VK),Af X pins σ H s→t acc σ H Q→wpAny (model X.prog X.w) X.A (joinParts acc (evalEach es X.env)) (EP X pins σ Q) X.xe s
theorem PU {scope:Scope}{cl:List (Str×Addr)}{C:Addr}{N:List Str}{s₀:Shared}{H₀:Hp}{ex:List Addr}{pn:List (Addr×Obj)}:UZ (Bh X scope cl C N s₀ H₀ ex pn) (U2 X.K):=Ce
theorem GD {scope:Scope}{cl:List (Str×Addr)}{C:Addr}{N:List Str}{s₀:Shared}{H₀:Hp}{ex:List Addr}{pn:List (Addr×Obj)}:UZ (Bh X scope cl C N s₀ H₀ ex pn) (U3 X.K):=AM
end
def MJ {α:Type}(f:α→α→Bool):List α→List α→Bool
 | [],[]=>true
 | x::xs,y::ys=>f x y&&MJ f xs ys
 | _,_=>false
def Ff {α:Type}(f:α→α→Bool)(xs ys:List α)(j:Nat):Bool:=match xs[j]?,ys[j]? with
 | some x,some y=>f x y
 | _,_=>false
theorem Ji {α:Type}(f:α→α→Bool):∀(xs ys:List α),((List.range (min xs.length ys.length)).all (Ff f xs ys)&&xs.length==ys.length)=MJ f xs ys
 | [],[]=>by simp[MJ]
 | [],y::ys=>by simp[MJ]
 | x::xs,[]=>by simp[MJ]
 | x::xs,y::ys=>by
  have ih:=Ji f xs ys
  have hm:min (x::xs).length (y::ys).length=min xs.length ys.length+1:=by simp only[List.length_cons];omega
  rw[hm,Es]
  have h2:(fun i=>Ff f (x::xs) (y::ys) (i+1))=Ff f xs ys:=by funext i;simp[Ff]
  have h3:((x::xs).length==(y::ys).length)=(xs.length==ys.length):=by simp
  have h4:Ff f (x::xs) (y::ys) 0=f x y:=by simp[Ff]
  rw[h2,h3,h4,Bool.and_assoc,ih,MJ]
inductive L1 where
 | fl (x:V) | tp (xs:List V)
def Ge (H:Hp):V→L1→Prop
 | x,.fl y=>x=y∧BC y=true
 | x,.tp xs=>∃ q,x=.ref q∧H q=some (.tup xs)∧xs.all BC=true
def Cm:L1→L1→Bool
 | .fl x,.fl y=>Hq x y
 | .tp xs,.tp ys=>FT xs ys
 | _,_=>false
section
variable {X:Cx}{pins:List (Addr×Obj)}{σ:St}{H:Hp}{s:Shared}
theorem Au {α β:Type}{F:α→β→Prop}:∀{xs:List α} {ys:List β},Paired F xs ys→∀{j:Nat} {x:α},xs[j]?=some x→∃ y,ys[j]?=some y∧F x y:=by
 intro A B h
 induction h with
 | nil=>
  intro j x e
  simp at e
 | cons r t ih=>
  intro j x e
  cases j with
  | zero=>
   simp at e
   subst e
   exact⟨_,rfl,r⟩
  | succ j=>
   obtain⟨y,h1,h2⟩:=ih (by simpa using e)
   exact⟨y,by simpa using h1,h2⟩
theorem PV:∀{xs:List V} {us:List Value},Am xs us→∀ u∈us,∃ x∈xs,Ai x u:=by
 intro A B h
 induction h with
 | nil=>
  intro u hu
  cases hu
 | cons r t ih=>
  intro u hu
  rcases List.mem_cons.mp hu with rfl | hu
  ·exact⟨_,List.mem_cons_self ..,r⟩
  ·obtain⟨x,hx,rx⟩:=ih u hu
   exact⟨x,List.mem_cons_of_mem _ hx,rx⟩
def TJ (tf:TE)(ok:Addr→Sp→Prop)(t:TA):TE:=fun σ H Q=>tf σ H fun x H1=>∃ f sp,x=.ref f∧ok f sp∧t σ H1 fun vs H2=>sp (vs++[]) H2 Q E0
theorem PX {fe e:Expr}{es:List Expr}{tf:TE}{t:TA}{pos:Pos}{ok:Addr→Sp→Prop}(hf:PE X fe tf)
 (hok:∀ f sp,ok f sp→∃ k fd ps,Ao X.prog X.w X.K X.mg X.base Bc k f fd ps sp∧BY k X.A∧PySem.W.keepIn X.K (.ref f)=true∧Ed X.K fd ps []) (ha:PA X (e::es) t)
 (hc:eval (.Call fe (e::es) [] pos) X.env=(do callWith pos (← eval fe X.env) [] (backTo pos (starEach (e::es) X.env)) (backToKw pos (keywordEach [] X.env))):=by rfl)
 (he:starEach (e::es) X.env=(false,eval e X.env)::starEach es X.env:=by rfl) (hpl:(backTo pos (starEach es X.env)).any (·.1)=false:=by rfl):PE X (.Call fe (e::es) [] pos) (TJ tf ok t):=by
 intro pins s σ H Q I h
 refine Call_ (BI (hf pins s σ H _ I h) fun v s1 zq=>?_) hc
 obtain⟨x,H1,I1,rx,f,sp,ex,ho,q⟩:=zq
 subst ex
 cases rx
 obtain⟨k,fd,ps,F,hr,hk,hb⟩:=hok f sp ho
 refine PySem.W.callWith_K (h₀:=X.base) I1.ok.mod.kin hk (BI (ha pos pins s1 σ H1 _ I1 q) fun us s2 ⟨vs,H2,I2,r,q2⟩=>⟨I2.kIn,?_⟩) he hpl
 exact MD F hr hb .nil Dz I2 r q2
end
theorem PY {X:Cx}{elt iter:Expr}{ifs:List Expr}{x:Str}{px pos:Pos}{scope:Scope}{cl:List (Str×Addr)}{fv:List Str}{js:List Nat}{wi:TI}{tt:TT}{te:TE}(hc:X.calm=true)(hclos:closureFor scope X.env=pure cl)
 (S:Bv X scope cl x fv js) (hi:PI X (.Name x px) iter wi)
 (ht:∀(C:Addr) (s₀:Shared) (H₀:Hp) (ex:List Addr) (pn:List (Addr×Obj)),PF (Bh X scope cl C (x::fv) s₀ H₀ ex pn) ifs tt)
 (he:∀(C:Addr) (s₀:Shared) (H₀:Hp) (ex:List Addr) (pn:List (Addr×Obj)),PE (Bh X scope cl C (x::fv) s₀ H₀ ex pn) elt te)
 (hs:∀ x,foldedSetIterable iter X.env x=pure x) {use:Option (Value→Sem Unit)} {QQ:Value→Shared→Prop} {pins:List (Addr×Obj)} {s:Shared} {σ:St} {H:Hp} {Q:VK} (I:Af X pins σ H s) (h:PP wi js tt te σ H Q)
 (hfin:∀(D:Addr) (s3:Shared) (H3:Hp) (fp:List Addr) (pn:List (Addr×Obj)) (N:List Str) (pins':List (Addr×Obj)) (σ':St) (H':Hp) (s':Shared),Af X pins σ H3 s3→(∀ b∈fp,EK X pins H3 b)→
  Af (Bh X scope cl s3.heap.objs.size N s3 H3 fp pn) pins' σ' H' s'→Q (.ref D) H'→compPost (model X.prog X.w) X.A X.xe use QQ (.ref D) s3.heap.objs.size (.ok .next) s'):
 wpAny (model X.prog X.w) X.A (comprehension (.ListComp elt [⟨.Name x px,iter,ifs,0⟩] scope pos) scope X.env (firstIterPos [⟨.Name x px,iter,ifs,0⟩] pos) (newList []) (firstAsync [⟨.Name x px,iter,ifs,0⟩]) (firstIter [⟨.Name x px,iter,ifs,0⟩] X.env) use) QQ X.xe s:=by
 refine wpAny_comprehension_free (use:=use) rfl hs hclos S.kind S.nm (BI (hi pins s σ H _ I h) fun v s1 h1=>BI h1 fun itv s2 h2=>?_)
 obtain⟨it,fp,tn,J,H2,e,I2,T,st2,f2,hW⟩:=h2
 subst e
 have hD:H2 s2.heap.objs.size=none:=I2.hok.fresh (Nat.le_refl _)
 obtain⟨W,⟨m0,w0⟩,turn⟩:=hW s2.heap.objs.size hD
 have lt2:∀ b∈fp,b<s2.heap.objs.size:=fun b hb=>by
  obtain⟨o,e,_⟩:=T.obj _ _ st2 b hb
  exact Heap.lt_size e
 refine wpAny_newObj_type (wpAny_newFunctionEnv S.nc (by intro y hy;simp at hy) (fun h₁ hns₁ hsb₁=>?_) S.kind)
 dsimp only at hns₁ hsb₁ ⊢
 have I3:Af X pins σ (upd H2 s2.heap.objs.size (.lst [])) { s2 with heap:=s2.heap.push { cls:=.type "list",dict:=none,data:=.seq ([]:List Value).toArray } }:=I2.lnew (t':=s2.toks) .nil (Nat.zero_le _)
 generalize hS3:({ s2 with heap:=s2.heap.push { cls:=.type "list",dict:=none,data:=.seq ([]:List Value).toArray } }:Shared)=s3 at I3
 have eh:s3.heap=s2.heap.push { cls:=.type "list",dict:=none,data:=.seq ([]:List Value).toArray }:=by rw[← hS3]
 rw[← eh]at hns₁ hsb₁ ⊢
 have hsz:s3.heap.objs.size=s2.heap.objs.size+1:=by rw[eh,Heap.size_push]
 have k23:∀ b o,s2.heap.get? b=some o→s3.heap.get? b=some o:=fun b o e=>by rw[eh];exact Heap.get?_push_of_some _ e
 have k34:∀ b o,s3.heap.get? b=some o→h₁.get? b=some o:=fun b o e=>hsb₁.extBut b o (Nat.ne_of_lt (Heap.lt_size e)) (Heap.get?_push_of_some _ e)
 have f3:∀ b∈fp,EK X pins (upd H2 s2.heap.objs.size (.lst [])) b:=fun b hb=>⟨by rw[AR (Nat.ne_of_lt (lt2 b hb))];exact(f2 b hb).1,(f2 b hb).2⟩
 have lt3:∀ b∈fp,b<s3.heap.objs.size:=fun b hb=>by rw[hsz];exact Nat.lt_succ_of_lt (lt2 b hb)
 have I4:=IR (tk:=s3.toks) S I3 f3 lt3 (h₁:=h₁) (by simpa using hns₁) k34
 generalize hY:Bh X scope cl s3.heap.objs.size (x::fv) s3 (upd H2 s2.heap.objs.size (.lst [])) fp (X.pn++pins)=Y at I4
 have hYp:Y.prog=X.prog:=by rw[← hY];rfl
 have hYw:Y.w=X.w:=by rw[← hY];rfl
 have hYK:Y.K=X.K:=by rw[← hY];rfl
 have hYA:Y.A=X.A:=by rw[← hY];rfl
 have hYc:Y.calm=true:=by rw[← hY];exact hc
 have hYe:Y.env=compEnvC scope cl s3.heap.objs.size X.env:=by rw[← hY];rfl
 have hYx:Y.xe=fun _ _=>False:=by rw[← hY];rfl
 have hYN:Y.N=x::fv:=by rw[← hY];rfl
 have heY:PE Y elt te:=by rw[← hY];exact he _ _ _ _ _
 have htY:PF Y ifs tt:=by rw[← hY];exact ht _ _ _ _ _
 have stat:∀{H':Hp},(∀ b∈fp,H' b=none)→∀ b∈fp,EK Y [] H' b:=fun {H'} hn b hb=>by
  obtain⟨g0,g1,g2,g3,g4,g5⟩:=f3 b hb
  rw[← hY]
  refine⟨hn b hb,Nat.ne_of_lt (lt3 b hb),fun z=>?_,.inl hb,fun y c e=>g4 y c (S.cell_of e),fun p hp=>g5 p (by simpa [Bh]using hp)⟩
  rcases List.mem_cons.mp (I3.stkSub b z)with q | q
  ·exact g1 q
  ·exact g2 q
 have fin:∀{i:Nat} {m:Nat} {σ':St} {H':Hp} {s':Shared},Af Y [] σ' H' s'→Q (.ref s2.heap.objs.size) H'→compPost (model X.prog X.w) X.A X.xe use QQ (.ref s2.heap.objs.size) s3.heap.objs.size (.ok .next) s':=fun {i m σ' H' s'} J q=>by
  rw[← hY]at J
  exact hfin _ _ _ _ _ _ _ _ _ _ I3 f3 J q
 have st4:∀ s4:Shared,s4={ s3 with heap:=h₁,toks:=s3.toks }→tn 0 s4.heap:=fun s4 e=>by
  subst e
  exact T.keep _ _ _ st2 fun b hb o e=>k34 b o (k23 b o e)
 have loop:codeAny (model X.prog X.w) X.A (.compLoop (.ListComp elt [⟨.Name x px,iter,ifs,0⟩] scope pos) 0 (.ref it) (.ref s2.heap.objs.size) (compEnvC scope cl s3.heap.objs.size X.env))
  (compPost (model X.prog X.w) X.A X.xe use QQ (.ref s2.heap.objs.size) s3.heap.objs.size) { s3 with heap:=h₁,toks:=s3.toks }:=by
  refine HG (fun n s'=>∃(i:Nat) (o:Option V) (H':Hp),Af Y [] (o::JH js σ) H' s'∧tn i s'.heap∧(∀ b∈fp,H' b=none)∧W i n H') ?_ m0 ⟨0,none,_,I4,st4 _ rfl,fun b hb=>(f3 b hb).1,w0⟩
  rintro n s5 ⟨i,o,H5,I5,st5,fr5,w5⟩
  rcases turn i n H5 w5 with⟨stop,q⟩ | ⟨go,step⟩
  ·have r:=T.done Y hYp hYw hYK hYc i [] s5 _ H5 (fun _ _=>False) I5 (stat fr5) st5 stop
   rw[hYA]at r
   refine BI r fun r s6 zq=>?_
   obtain⟨hr,I6⟩:=zq
   subst hr
   exact fin (i:=i) (m:=n) I6 q
  ·have r:=T.item Y hYp hYw hYK hYc i [] s5 _ H5 (fun _ _=>False) I5 (stat fr5) st5 go
   rw[hYA]at r
   refine BI r fun r s6 zq=>?_
   obtain⟨u,hr,h6⟩:=zq
   subst hr
   refine BI h6 fun _ s7 zq=>?_
   obtain⟨y,H7,I7,r7,y7,st7,fr7⟩:=zq
   have I7':=I7.pinned (stat fr7) (T.obj _ _ st7)
   have hname:PG Y (.Name x px) (JZ 0):=Bg (X:=Y) (i:=0) (by rw[hYN];exact S.nd) (by rw[hYN];rfl) (.inl (by rw[hYe];exact lookup_relabel_local S.hx)) (.inr (by rw[hYe];exact lookup_relabel_local S.hx))
   have r8:=hname _ s7 _ H7 y u (fun σ' H'=>σ'=some y::JH js σ∧H'=H7) I7' r7 ⟨rfl,rfl⟩
   rw[hYp,hYw,hYA,hYe,hYx]at r8
   refine BI r8 fun _ s8 zq=>?_
   obtain⟨σ8,H8,I8,e1,e2⟩:=zq
   subst e1 e2
   have r9:=htY _ s8 _ _ _ I8 (step y _ y7)
   rw[hYp,hYw,hYA,hYe,hYx]at r9
   refine BI r9 fun b s9 zq=>?_
   obtain⟨H9,I9,q9⟩:=zq
   have again:∀{σ':St} {H':Hp} {s':Shared},Af Y ([]++GY fp s7.heap) (some y::JH js σ) H' s'→(∃ m',m'<n∧W (i+1) m' H')→
    ∃ m,m<n∧∃(i:Nat) (o:Option V) (H':Hp),Af Y [] (o::JH js σ) H' s'∧tn i s'.heap∧(∀ b∈fp,H' b=none)∧W i m H':=fun {σ' H' s'} K7 ⟨m',hm,w7⟩=>by
    refine⟨m',hm,i+1,some y,H',K7.unpinned,T.keep _ _ _ st7 fun b hb o e=>(K7.pin (b,o) (List.mem_append_right _ (List.mem_append_right _ (CZ hb e)))).1,fun b hb=>?_,w7⟩
    obtain⟨o,e,d⟩:=T.obj _ _ st7 b hb
    exact(K7.pin (b,o) (List.mem_append_right _ (List.mem_append_right _ (CZ hb e)))).2.1
   cases b with
   | false=>
    rw[if_neg Bool.false_ne_true]at q9 ⊢
    exact again (σ':=[]) I9 q9
   | true=>
    rw[if_pos rfl]at q9 ⊢
    have r10:=heY _ s9 _ _ _ I9 q9
    rw[hYp,hYw,hYA,hYe,hYx]at r10
    refine BI r10 fun v s10 zq=>?_
    obtain⟨y10,H10,I10,ry,xs,hxs,hlen,m',hm,w10⟩:=zq
    have r11:=Ca (X:=Y) _ s10 _ H10 (.ref s2.heap.objs.size) [y10] (.ref s2.heap.objs.size) [v] (fun _ H'=>H'=upd H10 s2.heap.objs.size (.lst (xs++[y10]))) I10 rfl (.cons ry .nil) ⟨_,xs,y10,rfl,rfl,hxs,hlen,rfl⟩
    rw[hYp,hYw,hYA,hYx]at r11
    refine BI r11 fun _ s11 zq=>?_
    obtain⟨_,H11,I11,_,e11⟩:=zq
    subst e11
    exact again (σ':=[]) I11 ⟨m',hm,w10⟩
 have loop':∀ s4:Shared,s4={ s3 with heap:=h₁,toks:=s3.toks }→codeAny (model X.prog X.w) X.A (.compLoop (.ListComp elt [⟨.Name x px,iter,ifs,0⟩] scope pos) 0 (.ref it) (.ref s2.heap.objs.size) (compEnvC scope cl s3.heap.objs.size X.env))
  (compPost (model X.prog X.w) X.A X.xe use QQ (.ref s2.heap.objs.size) s3.heap.objs.size) s4:=fun s4 e=>by subst e;exact loop
 have e4:∀ t,t=s3.toks→({ s3 with heap:=h₁,toks:=t }:Shared)={ s3 with heap:=h₁,toks:=s3.toks }:=fun t e=>by rw[e]
 have fin4:∀ s4:Shared,s4={ s3 with heap:=h₁,toks:=s3.toks }→codeAny (model X.prog X.w) X.A (.compStart (.ListComp elt [⟨.Name x px,iter,ifs,0⟩] scope pos) 0 (.ref it) (.ref s2.heap.objs.size) (compEnvC scope cl s3.heap.objs.size X.env))
  (compPost (model X.prog X.w) X.A X.xe use QQ (.ref s2.heap.objs.size) s3.heap.objs.size) s4:=fun s4 e=>
  codeAny_compStart_list (loop' s4 e) (T.self X.A 0 s4 _ _ (st4 s4 e) (loop' s4 e))
 have es:({ s2 with heap:=s2.heap.push { cls:=.type "list",dict:=none,data:=.seq ([]:List Value).toArray } }:Shared)=s3:=hS3
 refine fin4 _ ?_
 rw[← es]
 rfl
theorem NL {X:Cx}{i:Nat}{y:Str}{elt iter:Expr}{ifs:List Expr}{x:Str}{px pos py spos:Pos}{scope:Scope}{cl:List (Str×Addr)}{fv:List Str}{js:List Nat}{wi:TI}{tt:TT}{te:TE}(hN:X.N.Nodup)(hi0:X.N[i]?=some y)(hy:X.env.scope.names.lookup y=some .local)
 (hc:X.calm=true) (hclos:closureFor scope X.env=pure cl)
 (S:Bv X scope cl x fv js) (hi:PI X (.Name x px) iter wi)
 (ht:∀(C:Addr) (s₀:Shared) (H₀:Hp) (ex:List Addr) (pn:List (Addr×Obj)),PF (Bh X scope cl C (x::fv) s₀ H₀ ex pn) ifs tt)
 (he:∀(C:Addr) (s₀:Shared) (H₀:Hp) (ex:List Addr) (pn:List (Addr×Obj)),PE (Bh X scope cl C (x::fv) s₀ H₀ ex pn) elt te)
 (hs:∀ x,foldedSetIterable iter X.env x=pure x:=by intro _;rfl)
 (hsw:swapsWith (.ListComp elt [⟨.Name x px,iter,ifs,0⟩] scope pos) (some (.Name y py)) spos.line X.env=pure true:=by rfl):
 PS X (.Assign [.Name y py] (.ListComp elt [⟨.Name x px,iter,ifs,0⟩] scope pos) spos) (S6 (PP wi js tt te) (JZ i)):=by
 intro pins s σ H D I h
 rw[exec_Assign_Name_used _ _ _ _ hsw]
 refine wpAny_bind (wpAny_standAt (wpAny_bind ?_))
 rw[arm_evalThenUse_ListComp]
 refine wpAny_bind (PY (Q:=fun v H1=>D.nx (σ.set i (some v)) H1) hc hclos S hi ht he hs I h ?_)
 intro L s3 H3 fp pn N pins' σ' H' s' I3 f3 J q
 obtain⟨mm,hn,_⟩:=id J.loc
 have sb0:Heap.SameBut s3.heap.objs.size s'.heap s'.heap:=⟨rfl,fun _ _=>rfl⟩
 have I':Af X pins σ H' s':=K9 I3 f3 J sb0
 have ok:=I3.fpOk (H':=H') (Nat.le_refl _) (show H' s3.heap.objs.size=none from J.free)
 obtain⟨f0,f1,f2,f4,f5,f6⟩:=ok
 refine wpAny_assign_Name (JY I' hN hi0 (.inl hy) (v:=.ref L) rfl (fun s2 I2 zq=>?_) (.inr hy))
 obtain⟨a,hsb,ha⟩:=zq
 have nac:s3.heap.objs.size≠a:=fun z=>by
  rcases ha with ha | ha
  ·exact f1 (z.trans ha)
  ·exact f5 _ _ ha z.symm
 refine⟨mm,hn.sameBut hsb nac,fun h'' sb=>?_⟩
 have I4:Af X pins (σ.set i (some (.ref L))) H' { s2 with heap:=h'' }:=I2.turned (t':=s2.toks) (fun b o hb e=>(sb.2 b hb).trans e) f0 f1 f4 f5 f6
 exact wpAny_pure (wpAny_pure ⟨_,H',I4,q⟩)
section
variable {κ:Type}[DecidableEq κ]
def B4 (kvs:List (κ×V))(k:κ):Option V:=(kvs.find? fun kv=>decide (kv.1=k)).map (·.2)
def GE (kvs:List (κ×V))(k:κ)(v:V):List (κ×V):=
 if(kvs.any fun kv=>decide (kv.1=k))=true then kvs.map (fun kv=>if kv.1=k then(kv.1,v)else kv)else kvs++[(k,v)]
theorem GF {p:κ×V}{r:List (κ×V)}{k:κ}(e:p.1=k):B4 (p::r) k=some p.2:=by simp[B4,List.find?_cons,e]
theorem Ev {p:κ×V}{r:List (κ×V)}{k:κ}(e:¬ p.1=k):B4 (p::r) k=B4 r k:=by simp[B4,List.find?_cons,e]
theorem LC (k:κ):∀ kvs:List (κ×V),(kvs.any fun kv=>decide (kv.1=k))=(B4 kvs k).isSome
 | []=>rfl
 | p::r=>by
  rw[List.any_cons]
  by_cases e:p.1=k
  ·simp only[GF e,decide_eq_true e,Bool.true_or,Option.isSome_some]
  ·rw[Ev e,decide_eq_false e,Bool.false_or];exact LC k r
theorem HH (kvs:List (κ×V))(k:κ)(v:V):(GE kvs k v).length≤kvs.length+1:=by
 unfold GE
 split
 ·rw[List.length_map];omega
 ·rw[List.length_append,List.length_cons,List.length_nil];omega
theorem Dx.isSome_eq {o:Option V}{u:Option Value}(r:Dx o u):o.isSome=u.isSome:=by
 cases o with
 | none=>cases u with
  | none=>rfl
  | some _=>exact(show False from r).elim
 | some _=>cases u with
  | none=>exact(show False from r).elim
  | some _=>rfl
theorem Dx.getD {o:Option V}{u:Option Value}{d:V}{d':Value}(r:Dx o u)(rd:Ai d d'):Ai (o.getD d) (u.getD d'):=by
 cases o with
 | none=>cases u with
  | none=>exact rd
  | some _=>exact(show False from r).elim
 | some _=>cases u with
  | none=>exact(show False from r).elim
  | some _=>exact r
theorem KV.val {kvs:List (κ×V)}{vs:List (κ×Value)}(r:KV kvs vs)(k:κ):Dx (B4 kvs k) (valueAt vs k):=by
 unfold KV at r
 induction r with
 | nil=>exact True.intro
 | @cons p q ps qs h t ih=>
  obtain⟨h1,h2⟩:=h
  by_cases e:p.1=k
  ·have e':q.1=k:=h1.symm.trans e
   have b:valueAt (q::qs) k=some q.2:=by simp[valueAt,List.find?_cons,e']
   rw[GF e,b];exact h2
  ·have e':¬ q.1=k:=fun z=>e (h1.trans z)
   have b:valueAt (q::qs) k=valueAt qs k:=by simp[valueAt,List.find?_cons,e']
   rw[Ev e,b];exact ih
theorem KV.any {kvs:List (κ×V)}{vs:List (κ×Value)}(r:KV kvs vs)(k:κ):(kvs.any fun kv=>decide (kv.1=k))=vs.any fun kv=>decide (kv.1=k):=by
 unfold KV at r
 induction r with
 | nil=>rfl
 | cons h t ih=>rw[List.any_cons,List.any_cons,ih,h.1]
theorem KV.repl {kvs:List (κ×V)}{vs:List (κ×Value)}(r:KV kvs vs)(k:κ){y:V}{u:Value}(ry:Ai y u):
 KV (kvs.map fun kv=>if kv.1=k then(kv.1,y)else kv) (vs.map fun kv=>if kv.1=k then(kv.1,u)else kv):=by
 unfold KV at r ⊢
 induction r with
 | nil=>exact .nil
 | @cons p q ps qs h t ih=>
  rw[List.map_cons,List.map_cons]
  refine .cons ?_ ih
  obtain⟨h1,h2⟩:=h
  by_cases e:p.1=k
  ·rw[if_pos e,if_pos (h1.symm.trans e)];exact⟨h1,ry⟩
  ·rw[if_neg e,if_neg (fun z=>e (h1.trans z))];exact⟨h1,h2⟩
theorem KV.put {kvs:List (κ×V)}{vs:List (κ×Value)}(r:KV kvs vs)(k:κ){y:V}{u:Value}(ry:Ai y u):KV (GE kvs k y) (stored vs k u):=by
 unfold GE stored
 rw[r.any k]
 by_cases e:(vs.any fun kv=>decide (kv.1=k))=true
 ·rw[if_pos e,if_pos e];exact r.repl k ry
 ·rw[if_neg e,if_neg e];exact Paired.snoc r ⟨rfl,ry⟩
theorem KV.length {kvs:List (κ×V)}{vs:List (κ×Value)}(r:KV kvs vs):kvs.length=vs.length:=Paired.length r
end
theorem LD {P:Program}{w:World}{k:A9}{u:Value}(r:Ai (kV k) u):(BA P w).is k u=true:=by
 cases k with
 | inl i=>obtain⟨t,e⟩:=(show ∃ t,u=Value.int i t from r);subst e;exact Kt P w i t
 | inr x=>obtain⟨t,e⟩:=(show ∃ t,u=Value.str x t from r);subst e;exact Ku P w x t
theorem Jj {P:Program}{w:World}:∀{ks:List A9} {us:List Value},Am (ks.map kV) us→ItemsAre (BA P w) ks us
 | [],_,r=>by rw[List.map_nil]at r;cases r;exact .nil
 | k::ks,_,r=>by
  rw[List.map_cons]at r
  cases r with
  | cons h t=>exact .cons (LD h) (Jj t)
abbrev KT (H:Hp):List (List A9×V)→List (List A9×Addr×Value)→Prop:=Paired fun p q=>p.1=q.1∧H q.2.1=some (.tup (p.1.map kV))∧Ai p.2 q.2.2
theorem KT.val {H:Hp}{kvs:List (List A9×V)}{xs:List (List A9×Addr×Value)}(r:KT H kvs xs)(k:List A9):Dx (B4 kvs k) ((atKey xs k).map (·.2)):=by
 induction r with
 | nil=>exact True.intro
 | @cons p q ps qs h t ih=>
  obtain⟨h1,_,h2⟩:=h
  by_cases e:p.1=k
  ·have e':q.1=k:=h1.symm.trans e
   have b:atKey (q::qs) k=some q.2:=by simp[atKey,List.find?_cons,e']
   rw[GF e,b];exact h2
  ·have e':¬ q.1=k:=fun z=>e (h1.trans z)
   have b:atKey (q::qs) k=atKey qs k:=by simp[atKey,List.find?_cons,e']
   rw[Ev e,b];exact ih
theorem KT.repl {H:Hp}{kvs:List (List A9×V)}{xs:List (List A9×Addr×Value)}(r:KT H kvs xs)(k:List A9){y:V}{u:Value}(ry:Ai y u):
 KT H (kvs.map fun kv=>if kv.1=k then(kv.1,y)else kv) (xs.map (putAt k u)):=by
 induction r with
 | nil=>exact .nil
 | @cons p q ps qs h t ih=>
  rw[List.map_cons,List.map_cons]
  refine .cons ?_ ih
  obtain⟨h1,h2,h3⟩:=h
  unfold putAt
  by_cases e:p.1=k
  ·rw[if_pos e,if_pos (h1.symm.trans e)];exact⟨h1,h2,ry⟩
  ·rw[if_neg e,if_neg (fun z=>e (h1.trans z))];exact⟨h1,h2,h3⟩
theorem KT.put {H:Hp}{kvs:List (List A9×V)}{xs:List (List A9×Addr×Value)}(r:KT H kvs xs)(k:List A9){b:Addr}{y:V}{u:Value}(hb:H b=some (.tup (k.map kV)))(ry:Ai y u):
 KT H (GE kvs k y) (storedH xs k b u):=by
 have e:(kvs.any fun kv=>decide (kv.1=k))=(atKey xs k).isSome:=by
  rw[LC,(r.val k).isSome_eq,Option.isSome_map]
 unfold GE storedH
 rw[e]
 by_cases q:(atKey xs k).isSome=true
 ·rw[if_pos q,if_pos q];exact r.repl k ry
 ·rw[if_neg q,if_neg q];exact Paired.snoc r ⟨rfl,hb,ry⟩
theorem KT.keeps {H H':Hp}{kvs:List (List A9×V)}{xs:List (List A9×Addr×Value)}(r:KT H kvs xs)(ht:∀ b ys,H b=some (.tup ys)→H' b=some (.tup ys)):KT H' kvs xs:=
 Paired.mapP r fun _ _ z=>⟨z.1,ht _ _ z.2.1,z.2.2⟩
section
variable {P:Program}{w:World}{H:Hp}{h:Heap}{a:Addr}
theorem SW {u:HO}(ok:Eh P w H h)(e:Rd H a u):A6 P w H h a u:=e.ok ok
theorem NM {kvs:List (A9×V)}(ok:Eh P w H h)(e:Rd H a (.dK kvs)):kvs.length≤sizeLine∧(a==sysModules)=false∧∃ vs,KV kvs vs∧h.DictOf (BA P w) a vs:=
 show A6 P w H h a (.dK kvs)from SW ok e
theorem U6 {kvs:List (A9×V)}(ok:Eh P w H h)(e:H a=some (.dK kvs)):kvs.length≤sizeLine∧(a==sysModules)=false∧∃ vs,KV kvs vs∧h.DictOf (BA P w) a vs:=NM ok (.inl e)
theorem Gf {ks:List A9}(ok:Eh P w H h)(e:H a=some (.tup (ks.map kV))):(tupleKind (BA P w)).is h ks a:=by
 obtain⟨_,its,r,o,h1,h2,n,h3⟩:=(show A6 P w H h a (.tup (ks.map kV))from ok a _ e)
 exact⟨o,its.toArray,n,h1,h2,h3,by simpa using Jj r⟩
theorem NN {kvs:List (List A9×V)}(ok:Eh P w H h)(e:Rd H a (.dT kvs)):kvs.length≤sizeLine∧(a==sysModules)=false∧
 ∃ xs,KT H kvs xs∧h.DictOfH (tupleKind (BA P w)) a xs:=by
 obtain⟨z,y,xs,r,o,es,ep,h1,h2,h3,h4,h5⟩:=(show A6 P w H h a (.dT kvs)from SW ok e)
 refine⟨z,y,xs,r,o,es,ep,h1,h2,h3,h4,fun x hx=>?_,h5⟩
 have all:∀{l:List (List A9×V)} {m:List (List A9×Addr×Value)},KT H l m→∀ x∈m,(tupleKind (BA P w)).is h x.1 x.2.1:=by
  intro l m q
  induction q with
  | nil=>intro x hx;exact nomatch hx
  | @cons p q ps qs hq t ih=>
   intro x hx
   rcases List.mem_cons.mp hx with e | hx
   ·subst e
    exact Gf ok (by rw[← hq.1];exact hq.2.1)
   ·exact ih x hx
 exact all r x hx
theorem U7 {kvs:List (List A9×V)}(ok:Eh P w H h)(e:H a=some (.dT kvs)):kvs.length≤sizeLine∧(a==sysModules)=false∧
 ∃ xs,KT H kvs xs∧h.DictOfH (tupleKind (BA P w)) a xs:=NN ok (.inl e)
end
def Fj (H:Hp)(a:Addr)(y:V)(r:Option V):Prop:=
 (∃ kvs k,Rd H a (.dK kvs)∧y=kV k∧r=B4 kvs k)∨∃ kvs k b,Rd H a (.dT kvs)∧y=.ref b∧H b=some (.tup (k.map kV))∧r=B4 kvs k
def J7 (H:Hp)(a:Addr)(y v:V)(H':Hp):Prop:=
 (∃ kvs k,H a=some (.dK kvs)∧y=kV k∧kvs.length<sizeLine∧H'=upd H a (.dK (GE kvs k v)))∨
 ∃ kvs k b,H a=some (.dT kvs)∧y=.ref b∧H b=some (.tup (k.map kV))∧kvs.length<sizeLine∧H'=upd H a (.dT (GE kvs k v))
theorem Fj.k {H:Hp}{a:Addr}{kvs:List (A9×V)}{k:A9}(e:H a=some (.dK kvs)):Fj H a (kV k) (B4 kvs k):=.inl ⟨kvs,k,.inl e,rfl,rfl⟩
theorem Fj.t {H:Hp}{a b:Addr}{kvs:List (List A9×V)}{k:List A9}(e:H a=some (.dT kvs))(eb:H b=some (.tup (k.map kV))):Fj H a (.ref b) (B4 kvs k):=.inr ⟨kvs,k,b,.inl e,rfl,eb,rfl⟩
theorem J7.k {H:Hp}{a:Addr}{kvs:List (A9×V)}{k:A9}{v:V}(e:H a=some (.dK kvs))(hl:kvs.length<sizeLine):J7 H a (kV k) v (upd H a (.dK (GE kvs k v))):=.inl ⟨kvs,k,e,rfl,hl,rfl⟩
theorem J7.t {H:Hp}{a b:Addr}{kvs:List (List A9×V)}{k:List A9}{v:V}(e:H a=some (.dT kvs))(eb:H b=some (.tup (k.map kV)))(hl:kvs.length<sizeLine):
 J7 H a (.ref b) v (upd H a (.dT (GE kvs k v))):=.inr ⟨kvs,k,b,e,rfl,eb,hl,rfl⟩
section
variable {X:Cx}{pins:List (Addr×Obj)}{σ:St}{H:Hp}{s:Shared}{a:Addr}{y v:V}{u r:Value}{o:Option V}{A:Around}{E:Value→Shared→Prop}
theorem Af.big (I:Af X pins σ H s):sysModules<s.heap.objs.size:=by
 have h:mainGlobals<s.heap.objs.size:=(I.mod.glob.keeps I.bk).lt
 exact Nat.lt_trans (by decide) h
theorem OE {Q:Value→Shared→Prop}(hu:A.units+1<cLine)(I:Af X pins σ H s)(g:Fj H a y (some v))(ry:Ai y u)(h:∀ w' s',Af X pins σ H s'→Ai v w'→Q w' s'):
 wpAny (model X.prog X.w) A (getItem (.ref a) u) Q E s:=by
 rcases g with⟨kvs,k,e,ey,l⟩ | ⟨kvs,k,b,e,ey,eb,l⟩
 ·subst ey
  obtain⟨z,hd,vs,rel,dd⟩:=NM I.hok e
  obtain⟨w',hw,rw'⟩:=Dx.some_of (v:=v) (o:=valueAt vs k) (by rw[l];exact rel.val k)
  exact wpAny_getItem_of (LD ry) dd.mapOf hw (h w' _ (I.tok _) rw')
 ·subst ey
  cases (show u=Value.ref b from ry)
  obtain⟨z,hd,xs,rel,dd⟩:=NN I.hok e
  obtain⟨w',hw,rw'⟩:=Dx.some_of (v:=v) (o:=(atKey xs k).map (·.2)) (by rw[l];exact rel.val k)
  obtain⟨p,hp,hp2⟩:=Option.map_eq_some_iff.mp hw
  refine wpAny_getItem_heap (tupleKind_room_in1 hu) (Gf I.hok eb) dd hp ?_
  rw[hp2]
  exact h w' _ (I.tok _) rw'
theorem RX {Q:Value→Shared→Prop}(hu:A.units+1<cLine)(I:Af X pins σ H s)(g:Fj H a y o)(ry:Ai y u)(h:∀ s',Af X pins σ H s'→Q (.bool (!o.isSome)) s'):
 wpAny (model X.prog X.w) A (compareOp .NotIn u (.ref a)) Q E s:=by
 rcases g with⟨kvs,k,e,ey,l⟩ | ⟨kvs,k,b,e,ey,eb,l⟩
 ·subst ey
  obtain⟨z,hd,vs,rel,dd⟩:=NM I.hok e
  refine wpAny_notIn_of (LD ry) hd dd.mapOf ?_
  rw[← (rel.val k).isSome_eq,← l]
  exact h _ (I.tok _)
 ·subst ey
  cases (show u=Value.ref b from ry)
  obtain⟨z,hd,xs,rel,dd⟩:=NN I.hok e
  refine wpAny_notIn_heap (tupleKind_room_in1 hu) (Gf I.hok eb) hd dd ?_
  have q:=(rel.val k).isSome_eq
  rw[Option.isSome_map]at q
  rw[← q,← l]
  exact h _ (I.tok _)
theorem J8 {h':Heap}{t':Nat}{ob:HO}(I:Af X pins σ H s)(mu:Uf (H a))(hs:Heap.SameBut a s.heap h')(he:∃ q,h'.get? a=some q)(new:A6 X.prog X.w (upd H a ob) h' a ob):
 Af X pins σ (upd H a ob) { s with heap:=h',toks:=t' }:=
 I.write (x:=a) (e:=a) mu (.inl rfl) (fun b q hb z=>(hs.2 b hb).trans z) he new
theorem TK {P:Program}{w:World}{H':Hp}{h':Heap}{kvs:List (A9×V)}{vs:List (A9×Value)}(z:kvs.length≤sizeLine)(hd:(a==sysModules)=false)(rel:KV kvs vs)(dd:h'.DictOf (BA P w) a vs):
 A6 P w H' h' a (.dK kvs):=⟨z,hd,vs,rel,dd⟩
theorem OG {H':Hp}{Q:Unit→Shared→Prop}(hu:A.units+1<cLine)(I:Af X pins σ H s)(g:J7 H a y v H')(ry:Ai y u)(rv:Ai v r)(h:∀ s',Af X pins σ H' s'→Q () s'):
 wpAny (model X.prog X.w) A (setItem (.ref a) u r) Q E s:=by
 rcases g with⟨kvs,k,e,ey,l,eH⟩ | ⟨kvs,k,b,e,ey,eb,l,eH⟩
 ·subst ey eH
  obtain⟨z,hd,vs,rel,dd⟩:=U6 I.hok e
  have hz:vs.length≤sizeLine:=by rw[← rel.length];exact z
  have hl:(GE kvs k v).length≤sizeLine:=by have:=HH kvs k v;omega
  refine wpAny_setItem_pairs (hsz:=hz) (LD ry) dd fun h' dd' hs=>h _ ?_
  have he:∃ q,h'.get? a=some q:=let ⟨q,_,_,hq,_⟩:=dd';⟨q,hq⟩
  exact J8 I (by rw[e];exact True.intro) hs he (TK hl hd (rel.put k rv) dd')
 ·subst ey eH
  cases (show u=Value.ref b from ry)
  obtain⟨z,hd,xs,rel,dd⟩:=U7 I.hok e
  have hz:xs.length≤sizeLine:=by rw[← Paired.length rel];exact z
  have hl:(GE kvs k v).length≤sizeLine:=by have:=HH kvs k v;omega
  refine wpAny_setItem_heap (hsz:=hz) (tupleKind_room_in1 hu) (Gf I.hok eb) dd fun h' dd' hs=>h _ ?_
  obtain⟨q,es,ep,hq,h2,h3,h4,_,h5⟩:=dd'
  refine J8 I (by rw[e];exact True.intro) hs ⟨q,hq⟩ ⟨hl,hd,_,(rel.put k eb rv).keeps fun c ys ec=>?_,q,es,ep,hq,h2,h3,h4,h5⟩
  rw[AR (Db ec e (fun z=>nomatch z))]
  exact ec
end
def TL (i:Expr):Prop:=∀ ov iv,subscripted i false ov iv=operate [ov,iv] (getItem ov iv)
theorem NO {prog:Program}{w:World}{A:Around}{E:Value→Shared→Prop}{s:Shared}{env:Env}{value slice:Expr}{pos:Pos}{T id:String}{Q:Value→Shared→Prop}
 (hl:typeLookup (.type T) "__getitem__"=pure (some (.builtin id))) (hs:TL slice)
 (h:wpAny (model prog w) A (eval value env) (fun o s₁=>wpAny (model prog w) A (eval slice env) (fun i s₂=>s₂.TypeIs o T∧wpAny (model prog w) A (getItem o i) Q E s₂) E s₁) E s):
 wpAny (model prog w) A (eval (.Subscript value slice pos) env) Q E s:=by
 refine Subscript_ (wpAny_mono h (fun o s₁ h₁=>wpAny_mono h₁ (fun i s₂ h₂=>?_) fun _ _ x=>x) fun _ _ x=>x)
 obtain⟨hT,h₂⟩:=h₂
 unfold subscriptTail
 refine wpAny_bind ?_
 rw[getitemInPython_of_ne hT.not_modules]
 refine wpAny_bind (wpAny_specialOf hT hl ?_)
 have fin:wpAny (model prog w) A (subscripted slice false o i) (fun r s₃=>wpAny (model prog w) A (letTemporaryGo value o r >>= fun _=>pure r) Q E s₃) E s₂:=by
  rw[hs o i]
  exact wpAny_operating (wpAny_mono h₂ (fun r s₃ h₃=>wpAny_bind (wpAny_letTemporaryGo (wpAny_pure h₃))) fun _ _ x=>x)
 first
  | exact wpAny_pure (wpAny_bind fin)
  | exact wpAny_bind (wpAny_pure (wpAny_bind fin))
  | exact wpAny_bind fin
theorem LE {X:Cx}{pins:List (Addr×Obj)}{σ:St}{H:Hp}{s:Shared}{a:Addr}{y:V}{o:Option V}(I:Af X pins σ H s)(g:Fj H a y o):s.TypeIs (.ref a) "dict":=by
 rcases g with⟨kvs,k,e,_,_⟩ | ⟨kvs,k,b,e,_,_,_⟩
 ·obtain⟨_,_,vs,_,dd⟩:=NM I.hok e
  exact dd.typeIs
 ·obtain⟨_,_,xs,_,dd⟩:=NN I.hok e
  exact dd.typeIs
def U8 (td ty:TE):TE:=fun σ H Q=>td σ H fun x H1=>ty σ H1 fun y H2=>∃ a v,x=.ref a∧Fj H2 a y (some v)∧Q v H2
def U9 (td ty tv:TE):TS:=fun D σ H=>tv σ H fun v H1=>td σ H1 fun x H2=>ty σ H2 fun y H3=>∃ a H4,x=.ref a∧J7 H3 a y v H4∧D.nx σ H4
section
variable {X:Cx}{o i e value:Expr}{pos pos' tpos:Pos}{td ty tv:TE}
theorem Hr (hu:X.A.units+1<cLine)(ho:PE X o td)(hi:PE X i ty)(hs:TL i):PE X (.Subscript o i pos) (U8 td ty):=by
 intro pins s σ H Q I h
 refine NO PySem.F.slot_dict_getitem.lookup hs (BI (ho pins s σ H _ I h) fun u s1 ⟨x,H1,I1,rx,q1⟩=>BI (hi pins s1 σ H1 _ I1 q1) fun iv s2 zq=>?_)
 obtain⟨y,H2,I2,ry,a,v,ex,g,q2⟩:=zq
 subst ex
 obtain rfl:u=Value.ref a:=rx
 exact⟨LE I2 g,OE hu I2 g ry fun w' s3 I3 rw'=>⟨v,H2,I3,rw',q2⟩⟩
theorem J9 (hu:X.A.units+1<cLine)(ho:PE X o td)(hi:PE X i ty)(hv:PE X value tv)(hs:swapsWith value (some (.Subscript o i pos')) pos.line X.env=pure false):
 PS X (.Assign [.Subscript o i pos'] value pos) (U9 td ty tv):=by
 intro pins s σ H D I h
 refine wpAny_Assign_Subscript (BI (hv pins s σ H _ I h) fun r s1 ⟨v,H1,I1,rv,q1⟩=>BI (ho pins s1 σ H1 _ I1 q1) fun u s2 ⟨x,H2,I2,rx,q2⟩=>BI (hi pins s2 σ H2 _ I2 q2) fun iv s3 zq=>?_) hs
 obtain⟨y,H3,I3,ry,a,H4,ex,g,q3⟩:=zq
 subst ex
 obtain rfl:u=Value.ref a:=rx
 exact OG hu I3 g ry rv fun s4 I4=>⟨σ,H4,I4,q3⟩
end
theorem PZ {P:Program}{w:World}{H:Hp}(h:Heap)(hb:sysModules<h.objs.size):A6 P w H (h.push { cls:=.type "dict",data:=.dict #[] }) h.objs.size (.dK []):=
 ⟨Nat.zero_le _,beq_eq_false_iff_ne.mpr (Ne.symm (Nat.ne_of_lt hb)),[],.nil,Heap.DictOf.new h⟩
theorem Pa {P:Program}{w:World}{H:Hp}(h:Heap)(hb:sysModules<h.objs.size):A6 P w H (h.push { cls:=.type "dict",data:=.dict #[] }) h.objs.size (.dT []):=
 ⟨Nat.zero_le _,beq_eq_false_iff_ne.mpr (Ne.symm (Nat.ne_of_lt hb)),[],.nil,_,#[],0,Heap.get?_push_size _ rfl,⟨rfl,rfl,rfl⟩,rfl,rfl,List.nodup_nil⟩
def TM:TE:=fun _ H Q=>∀ p,H p=none→Q (.ref p) (upd H p (.dK []))
def TN:TE:=fun _ H Q=>∀ p,H p=none→Q (.ref p) (upd H p (.dT []))
section
variable {X:Cx}{pos:Pos}
theorem Pb:PE X (.Dict [] [] pos) TM:=fun pins s σ H Q I h=>
 wpAny_Dict_empty ⟨.ref s.heap.objs.size,_,I.laid (a:=s.heap.objs.size) (o:=.dK []) (t':=s.toks) (fun _ _ q=>Heap.get?_push_of_some _ q) (Nat.le_refl _) (PZ s.heap I.big),rfl,h _ (I.hok.fresh (Nat.le_refl _))⟩
theorem Pc:PE X (.Dict [] [] pos) TN:=fun pins s σ H Q I h=>
 wpAny_Dict_empty ⟨.ref s.heap.objs.size,_,I.laid (a:=s.heap.objs.size) (o:=.dT []) (t':=s.toks) (fun _ _ q=>Heap.get?_push_of_some _ q) (Nat.le_refl _) (Pa s.heap I.big),rfl,h _ (I.hok.fresh (Nat.le_refl _))⟩
end
section
variable {P:Program}{w:World}{A:Around}{E:Value→Shared→Prop}{s:Shared}{d it:Addr}{o:Obj}{es:Array DictEntry}{ep i:Nat}
structure X9 (h:Heap)(d:Addr)(o:Obj)(es:Array DictEntry)(ep:Nat):Prop where
 at_:h.get? d=some o
 ex:o.ExactDict
 data:o.data=.dict es ep
end
section
variable {X:Cx}
theorem Pd {tb:TE}{σ:St}{H:Hp}{Q:VK}{x y:Bool}(h2:Q (.bl y) H→tb σ H Q)(h:Q (.bl (x&&y)) H):∃ c,V.bl x=.bl c∧if c=true then tb σ H Q else Q (.bl false) H:=by
 refine⟨x,rfl,?_⟩
 cases x with
 | false=>exact AO h
 | true=>exact AL (h2 h)
end
end L2
namespace StrT
open PySem PySem.W PyProof.Rows
section
variable {N:Nat}{lt:Nat→Nat→Bool}
def Wp {α:Type}(N:Nat)(lt:Nat→Nat→Bool):KasT α→(α→Prop)→Prop
 | .ret a,P=>P a
 | .ask i j k,P=>i<N∧j<N∧Wp N lt (k (lt i j)) P
theorem Wp.mono {α:Type}{P P':α→Prop}(hp:∀ a,P a→P' a):∀{t:KasT α},Wp N lt t P→Wp N lt t P'
 | .ret a,h=>hp a h
 | .ask _ _ _,h=>⟨h.1,h.2.1,Wp.mono hp h.2.2⟩
theorem Wp.bind {α β:Type}{f:α→KasT β}{P:β→Prop}:∀{t:KasT α},Wp N lt t (fun a=>Wp N lt (f a) P)→Wp N lt (t.bind f) P
 | .ret _,h=>h
 | .ask _ _ _,h=>⟨h.1,h.2.1,Wp.bind h.2.2⟩
structure Ord (lt:Nat→Nat→Bool):Prop where
 tr:∀ a b c,lt b a=false→lt c b=false→lt c a=false
 as:∀ a b,lt a b=true→lt b a=false
theorem Ord.rf (o:Ord lt)(a:Nat):lt a a=false:=by
 cases h:lt a a with
 | false=>rfl
 | true=>exact(o.as a a h).symm▸h.symm▸h
def gg (p:Array Nat)(i:Nat):Nat:=p.getD i 0
def Up (lt:Nat→Nat→Bool)(p:Array Nat)(k:Nat):Prop:=∀ i j,i≤j→j<k→lt (gg p j) (gg p i)=false
def Dn (lt:Nat→Nat→Bool)(p:Array Nat)(k:Nat):Prop:=∀ i j,i≤j→j<k→lt (gg p i) (gg p j)=false
structure Bs (N:Nat)(p₀ p:Array Nat):Prop where
 sz:p.size=N
 bd:∀ i,gg p i<N
 pm:p.Perm p₀
theorem Dt {p:Array Nat}{i j:Nat}(hj:j≤p.size)(k:Nat):gg (kas_rev p i j) k=if i≤k∧k<j then gg p (i+j-1-k)else gg p k:=by
 unfold gg kas_rev
 rw[Array.getD_eq_getD_getElem?,getElem?_mirror_all hj]
 split <;> rw[Array.getD_eq_getD_getElem?]
theorem MK {p:Array Nat}{s d:Nat}(hs:s<p.size)(hd:d≤s)(k:Nat):gg (bubble p s d) k=if k=s-d then gg p s else if s-d<k∧k≤s then gg p (k-1)else gg p k:=by
 unfold gg
 rw[Array.getD_eq_getD_getElem?,Array.getD_eq_getD_getElem?,Array.getD_eq_getD_getElem?,Array.getD_eq_getD_getElem?,getElem?_bubble hs d hd]
 by_cases h1:k=s-d
 ·rw[if_pos h1,if_pos h1]
 ·rw[if_neg h1,if_neg h1]
  by_cases h2:s-d<k∧k≤s
  ·rw[if_pos h2,if_pos h2]
  ·rw[if_neg h2,if_neg h2]
theorem Bs.rev {p₀ p:Array Nat}(b:Bs N p₀ p){i j:Nat}(hj:j≤N):Bs N p₀ (kas_rev p i j) where
 sz:=by rw[show(kas_rev p i j).size=p.size from mirror_size _ _ _ _];exact b.sz
 bd:=fun k=>by rw[Dt (by rw[b.sz];exact hj)];split <;> exact b.bd _
 pm:=(mirror_perm _ _ _ _).trans b.pm
theorem Bs.bub {p₀ p:Array Nat}(b:Bs N p₀ p){s d:Nat}(hs:s<N)(hd:d≤s):Bs N p₀ (bubble p s d) where
 sz:=by rw[bubble_size];exact b.sz
 bd:=fun k=>by
  rw[MK (by rw[b.sz];exact hs) hd]
  split
  ·exact b.bd _
  ·split <;> exact b.bd _
 pm:=(bubble_perm _ _ _).trans b.pm
theorem NP (o:Ord lt){p:Array Nat}{n:Nat}(u:Up lt p n)(hn:1≤n)(h:lt (gg p n) (gg p (n-1))=false):Up lt p (n+1):=by
 intro i j hij hj
 rcases Nat.lt_or_ge j n with hjn | hjn
 ·exact u i j hij hjn
 ·have e:j=n:=by omega
  subst e
  rcases Nat.lt_or_ge i j with hi | hi
  ·exact o.tr _ _ _ (u i (j-1) (by omega) (by omega)) h
  ·have e:i=j:=by omega
   subst e;exact o.rf _
theorem Hs (o:Ord lt){p:Array Nat}{n:Nat}(u:Dn lt p n)(hn:1≤n)(h:lt (gg p (n-1)) (gg p n)=false):Dn lt p (n+1):=by
 intro i j hij hj
 rcases Nat.lt_or_ge j n with hjn | hjn
 ·exact u i j hij hjn
 ·have e:j=n:=by omega
  subst e
  rcases Nat.lt_or_ge i j with hi | hi
  ·exact o.tr _ _ _ h (u i (j-1) (by omega) (by omega))
  ·have e:i=j:=by omega
   subst e;exact o.rf _
theorem VA (o:Ord lt){p₀ p:Array Nat}(b:Bs N p₀ p):∀(f n:Nat),1≤n→n+f≤N→Up lt p n→Wp N lt (kas_asc p f n) (fun m=>n≤m∧m≤n+f∧Up lt p m)
 | 0,n,_,_,u=>⟨Nat.le_refl _,Nat.le_refl _,u⟩
 | f+1,n,h1,hf,u=>by
  refine⟨b.bd _,b.bd _,?_⟩
  cases hc:lt (p.getD n 0) (p.getD (n-1) 0)with
  | true=>exact⟨Nat.le_refl _,by omega,u⟩
  | false=>
   exact Wp.mono (fun m h=>⟨by omega,by omega,h.2.2⟩) (VA o b f (n+1) (by omega) (by omega) (NP o u h1 hc))
def WT (lt:Nat→Nat→Bool)(p:Array Nat)(n q:Nat):Prop:=q+1≤n∧∀ i j,n-(q+1)≤i→i<n→n-(q+1)≤j→j<n→lt (gg p i) (gg p j)=false
theorem Pe {p:Array Nat}{n q:Nat}(hn:n≤p.size)(d:Dn lt p n)(e:WT lt p n q):Dn lt (kas_rev p (n-(q+1)) n) n:=by
 intro i j hij hj
 rw[Dt hn,Dt hn]
 have h1:=e.1
 split
 ·split
  ·exact e.2 _ _ (by omega) (by omega) (by omega) (by omega)
  ·omega
 ·split
  ·exact d _ _ (by omega) (by omega)
  ·exact d _ _ hij hj
theorem NQ {p:Array Nat}{n a:Nat}(hn:n≤p.size):gg (kas_rev p a n) n=gg p n:=by rw[Dt hn];split <;> first | omega | rfl
theorem NR (o:Ord lt){p₀:Array Nat}:∀(f:Nat) (p:Array Nat) (n q:Nat),Bs N p₀ p→1≤n→n+f≤N→Dn lt p n→WT lt p n q→
 Wp N lt (kas_desc f p n q) (fun r=>Bs N p₀ r.1∧n≤r.2.1∧r.2.1≤n+f∧Dn lt r.1 r.2.1∧WT lt r.1 r.2.1 r.2.2)
 | 0,p,n,q,b,_,_,d,e=>⟨b,Nat.le_refl _,Nat.le_refl _,d,e⟩
 | f+1,p,n,q,b,h1,hf,d,e=>by
  have he:=e.1
  refine⟨b.bd _,b.bd _,?_⟩
  cases hc:lt (p.getD n 0) (p.getD (n-1) 0)with
  | true=>
   have one:∀ p':Array Nat,WT lt p' (n+1) 0:=fun p'=>⟨by omega,fun i j h1 h2 h3 h4=>by
    have e1:i=n:=by omega
    have e2:j=n:=by omega
    subst e1;subst e2;exact o.rf _⟩
   simp only[if_true]
   split
   ·have b':=b.rev (i:=n-(q+1)) (j:=n) (by omega)
    have dd:=Pe (by rw[b.sz];omega) d e
    have hl:lt (gg (kas_rev p (n-(q+1)) n) (n-1)) (gg (kas_rev p (n-(q+1)) n) n)=false:=by
     rw[NQ (by rw[b.sz];omega),Dt (by rw[b.sz];omega),if_pos (by omega)]
     refine o.tr _ _ _ (o.as _ _ hc) ?_
     exact e.2 _ _ (by omega) (by omega) (by omega) (by omega)
    exact Wp.mono (fun r h=>⟨h.1,by omega,by omega,h.2.2.2⟩) (NR o f _ (n+1) 0 b' (by omega) (by omega) (Hs o dd h1 hl) (one _))
   ·exact Wp.mono (fun r h=>⟨h.1,by omega,by omega,h.2.2.2⟩) (NR o f _ (n+1) 0 b (by omega) (by omega) (Hs o d h1 (o.as _ _ hc)) (one _))
  | false=>
   simp only[Bool.false_eq_true,if_false]
   refine⟨b.bd _,b.bd _,?_⟩
   cases hd:lt (p.getD (n-1) 0) (p.getD n 0)with
   | true=>exact⟨b,Nat.le_refl _,by show n≤_;omega,d,e⟩
   | false=>
    simp only[Bool.false_eq_true,if_false]
    have lo:∀ i,n+1-(q+1+1)≤i→i<n+1→lt (gg p i) (gg p (n-1))=false∧lt (gg p (n-1)) (gg p i)=false:=fun i h2 h3=>by
     rcases Nat.lt_or_ge i n with h4 | h4
     ·exact⟨e.2 _ _ (by omega) (by omega) (by omega) (by omega),e.2 _ _ (by omega) (by omega) (by omega) (by omega)⟩
     ·have ei:i=n:=by omega
      subst ei;exact⟨hc,hd⟩
    refine Wp.mono (fun r h=>⟨h.1,by omega,by omega,h.2.2.2⟩) (NR o f p (n+1) (q+1) b (by omega) (by omega) (Hs o d h1 hd) ⟨by omega,fun i j a1 a2 a3 a4=>?_⟩)
    exact o.tr _ _ _ (lo j a3 a4).2 (lo i a1 a2).1
theorem Pf {p:Array Nat}{n:Nat}(hn:n≤p.size)(d:Dn lt p n):Up lt (kas_rev p 0 n) n:=by
 intro i j hij hj
 rw[Dt hn,Dt hn,if_pos (by omega),if_pos (by omega)]
 exact d _ _ (by omega) (by omega)
theorem Pg (o:Ord lt){p₀ p:Array Nat}(b:Bs N p₀ p){n:Nat}(h1:1≤n)(hn:n≤N)(d:Dn lt p n):
 Wp N lt (kas_tail3 n N p) (fun r=>1≤r.1∧r.1≤N∧Bs N p₀ r.2∧Up lt r.2 r.1):=by
 refine Wp.bind (Wp.mono ?_ (VA o (b.rev (i:=0) (j:=n) hn) (N-n) n h1 (by omega) (Pf (by rw[b.sz];exact hn) d)))
 rintro m ⟨a1,a2,a3⟩
 exact⟨by show 1≤m;omega,by show m≤N;omega,b.rev hn,a3⟩
theorem Jk (o:Ord lt){p₀ p:Array Nat}(b:Bs N p₀ p){n:Nat}(h1:1≤n)(hn:n+1≤N)(d:Dn lt p n)(hl:lt (gg p n) (gg p (n-1))=true):
 Wp N lt (kas_descPart n N p) (fun r=>1≤r.1∧r.1≤N∧Bs N p₀ r.2∧Up lt r.2 r.1):=by
 refine Wp.bind (Wp.mono ?_ (NR o (N-(n+1)) p (n+1) 0 b (by omega) (by omega) (Hs o d h1 (o.as _ _ hl)) ⟨by omega,fun i j a1 a2 a3 a4=>?_⟩))
 ·rintro⟨p',m,q⟩ ⟨b',a1,a2,a3,a4⟩
  dsimp only at *
  have a5:=a4.1
  split
  ·exact Pg o (b'.rev (by omega)) (by omega) (by omega) (Pe (by rw[b'.sz];omega) a3 a4)
  ·exact Pg o b' (by omega) (by omega) a3
 ·have e1:i=n:=by omega
  have e2:j=n:=by omega
  subst e1;subst e2;exact o.rf _
theorem SX (o:Ord lt){p₀ p:Array Nat}(b:Bs N p₀ p):∀(f n:Nat),1≤n→n+f≤N→Up lt p n→Wp N lt (kas_asc p f n) (fun m=>n≤m∧m≤n+f∧Up lt p m∧(m<n+f→lt (gg p m) (gg p (m-1))=true))
 | 0,n,_,_,u=>⟨Nat.le_refl _,Nat.le_refl _,u,fun h=>absurd h (Nat.lt_irrefl _)⟩
 | f+1,n,h1,hf,u=>by
  refine⟨b.bd _,b.bd _,?_⟩
  cases hc:lt (p.getD n 0) (p.getD (n-1) 0)with
  | true=>exact⟨Nat.le_refl _,by omega,u,fun _=>hc⟩
  | false=>
   exact Wp.mono (fun m h=>⟨by omega,by omega,h.2.2.1,fun h'=>h.2.2.2 (by omega)⟩) (SX o b f (n+1) (by omega) (by omega) (NP o u h1 hc))
theorem TQ (o:Ord lt){p₀ p:Array Nat}(b:Bs N p₀ p)(hN:1≤N):Wp N lt (kas_count N p) (fun r=>1≤r.1∧r.1≤N∧Bs N p₀ r.2∧Up lt r.2 r.1):=by
 refine Wp.bind (Wp.mono ?_ (SX o b (N-1) 1 (Nat.le_refl _) (by omega) (fun i j hij hj=>?_)))
 ·rintro n ⟨a1,a2,a3,a4⟩
  split
  ·exact⟨a1,by show n≤N;omega,b,a3⟩
  ·rename_i hne
   have hlt:n<N:=by
    have:n≠N:=fun e=>hne (by rw[e];exact beq_self_eq_true N)
    omega
   have hl:=a4 (by omega)
   split
   ·refine⟨b.bd _,b.bd _,?_⟩
    cases hc:lt (p.getD 0 0) (p.getD (n-1) 0)with
    | true=>exact⟨a1,by show n≤N;omega,b,a3⟩
    | false=>
     simp only[Bool.false_eq_true,if_false]
     have al:∀ i j,i<n→j<n→lt (gg p i) (gg p j)=false:=fun i j hi hj=>
      o.tr _ _ _ (a3 j (n-1) (by omega) (by omega)) (o.tr _ _ _ hc (a3 0 i (by omega) hi))
     have hz:n≤p.size:=by rw[b.sz];omega
     refine Jk o (b.rev (by omega)) a1 (by omega) (fun i j hij hj=>?_) ?_
     ·rw[Dt hz,Dt hz,if_pos (by omega),if_pos (by omega)]
      exact al _ _ (by omega) (by omega)
     ·rw[NQ hz,Dt hz,if_pos (by omega)]
      cases h5:lt (gg p n) (gg p (0+n-1-(n-1)))with
      | true=>rfl
      | false=>exact absurd (o.tr _ _ _ (al (n-1) (0+n-1-(n-1)) (by omega) (by omega) |> fun _=>al (0+n-1-(n-1)) (n-1) (by omega) (by omega)) h5) (by rw[hl];exact Bool.noConfusion)
   ·have e1:n=1:=by omega
    subst e1
    refine Jk o b a1 (by omega) (fun i j hij hj=>?_) hl
    have e1:i=0:=by omega
    have e2:j=0:=by omega
    subst e1;subst e2;exact o.rf _
 ·have e1:i=0:=by omega
  have e2:j=0:=by omega
  subst e1;subst e2;exact o.rf _
theorem ML (o:Ord lt){p₀ p:Array Nat}(b:Bs N p₀ p){k:Nat}(hk:k<N)(u:Up lt p k):∀(f l r:Nat),l≤r→r≤k→r-l≤f→(∀ i,i<l→lt (gg p k) (gg p i)=false)→(∀ i,r≤i→i<k→lt (gg p k) (gg p i)=true)→
 Wp N lt (kas_place p k f l r) (fun m=>m≤k∧(∀ i,i<m→lt (gg p k) (gg p i)=false)∧(∀ i,m≤i→i<k→lt (gg p k) (gg p i)=true))
 | 0,l,r,h1,h2,h3,h4,h5=>⟨by omega,h4,fun i a1 a2=>h5 i (by omega) a2⟩
 | f+1,l,r,h1,h2,h3,h4,h5=>by
  unfold kas_place
  split
  ·exact⟨by omega,h4,fun i a1 a2=>h5 i (by omega) a2⟩
  ·refine⟨b.bd _,b.bd _,?_⟩
   cases hc:lt (p.getD k 0) (p.getD ((l+r) / 2) 0)with
   | true=>
    simp only[if_true]
    refine ML o b hk u f l ((l+r) / 2) (by omega) (by omega) (by omega) h4 fun i a1 a2=>?_
    cases hx:lt (gg p k) (gg p i)with
    | true=>rfl
    | false=>exact absurd (o.tr _ _ _ (u ((l+r) / 2) i a1 a2) hx) (by rw[show lt (gg p k) (gg p ((l+r) / 2))=true from hc];exact Bool.noConfusion)
   | false=>
    simp only[Bool.false_eq_true,if_false]
    refine ML o b hk u f ((l+r) / 2+1) r (by omega) h2 (by omega) (fun i a1=>?_) h5
    exact o.tr _ _ _ (u i ((l+r) / 2) (by omega) (by omega)) hc
theorem VB (o:Ord lt){p₀:Array Nat}:∀(f:Nat) (p:Array Nat) (k:Nat),Bs N p₀ p→k+f=N→1≤k→Up lt p k→Wp N lt (kas_bin f p k) (fun p'=>Bs N p₀ p'∧Up lt p' N)
 | 0,p,k,b,h1,_,u=>⟨b,(show k=N by omega)▸u⟩
 | f+1,p,k,b,h1,hk,u=>by
  refine Wp.bind (Wp.mono ?_ (ML o b (by omega) u k 0 k (by omega) (by omega) (by omega) (fun i h=>absurd h (by omega)) (fun i a1 a2=>absurd a1 (by omega))))
  rintro l ⟨a1,a2,a3⟩
  refine VB o f _ (k+1) (b.bub (by omega) (by omega)) (by omega) (by omega) fun i j hij hj=>?_
  have hz:k<p.size:=by rw[b.sz];omega
  rw[MK hz (by omega),MK hz (by omega)]
  have e:k-(k-l)=l:=by omega
  rw[e]
  by_cases c1:j=l
  ·rw[if_pos c1]
   by_cases c2:i=l
   ·rw[if_pos c2];exact o.rf _
   ·rw[if_neg c2,if_neg (by omega)];exact a2 _ (by omega)
  ·rw[if_neg c1]
   by_cases c3:l<j∧j≤k
   ·rw[if_pos c3]
    by_cases c2:i=l
    ·rw[if_pos c2];exact o.as _ _ (a3 _ (by omega) (by omega))
    ·rw[if_neg c2]
     by_cases c4:l<i∧i≤k
     ·rw[if_pos c4];exact u _ _ (by omega) (by omega)
     ·rw[if_neg c4];exact u _ _ (by omega) (by omega)
   ·rw[if_neg c3,if_neg (by omega),if_neg (by omega)];exact u _ _ hij (by omega)
theorem sort_ (o:Ord lt)(hN:1≤N):Wp N lt (kas_sort N) (fun p=>p.size=N∧p.toList.Perm (List.range N)∧Up lt p N):=by
 have b0:Bs N (List.toArray (List.range N)) (List.toArray (List.range N)):=⟨by simp,fun i=>by
  unfold gg
  rw[Array.getD_eq_getD_getElem?]
  simp only[List.getElem?_toArray,List.getElem?_range]
  by_cases h:i<N
  ·simp[h]
  ·simp[h];omega,Array.Perm.refl _⟩
 refine Wp.bind (Wp.mono ?_ (TQ o b0 hN))
 rintro⟨m,p⟩ ⟨a1,a2,a3,a4⟩
 dsimp only at *
 have pl:∀ q:Array Nat,Bs N (List.toArray (List.range N)) q→q.toList.Perm (List.range N):=fun q b=>by
  have:=Array.perm_iff_toList_perm.mp b.pm
  simpa using this
 split
 ·have e:max m 1=m:=by omega
  rw[e]
  exact Wp.mono (fun q h=>⟨h.1.sz,pl q h.1,h.2⟩) (VB o (N-m) p m a3 (by omega) a1 a4)
 ·have e:m=N:=by omega
  subst e
  exact⟨a3.sz,pl p a3,a4⟩
end
end StrT
namespace L2
open PySem PySem.Spec PyProof.Rows
def Kq (p q:Int×Int):Bool:=if p.1=q.1 then decide (p.2<q.2)else decide (p.1<q.1)
theorem KA (k:Nat→Int×Int):StrT.Ord (fun i j=>Kq (k i) (k j)) where
 tr:=fun a b c h1 h2=>by
  simp only[Kq]at h1 h2 ⊢
  repeat' split at h1
  all_goals repeat' split at h2
  all_goals repeat' split
  all_goals simp only[decide_eq_false_iff_not,decide_eq_true_eq]at *
  all_goals omega
 as:=fun a b h1=>by
  simp only[Kq]at h1 ⊢
  repeat' split at h1
  all_goals repeat' split
  all_goals simp only[decide_eq_false_iff_not,decide_eq_true_eq]at *
  all_goals omega
def BG (h:Heap)(v:Value)(p:Int×Int):Prop:=∃ a t u,v=.ref a∧IsTup h a #[.int p.1 t,.int p.2 u]
theorem Jl:bootBuiltins "sorted"=some (.builtin "sorted"):=by nofun
abbrev Rise (ps:List (Int×Int)):Prop:=ps.Pairwise fun p q=>Kq q p=false
section
variable {P:Program}{w:World}{A:Around}{E:Value→Shared→Prop}{s:Shared}
theorem KB {x y:Value}{p q:Int×Int}(hx:BG s.heap x p)(hy:BG s.heap y q){C:Bool→Shared→Prop}(h:C (Kq p q) s):
 wpAny (model P w) A (keyLt' (tuples' true) x y) C (fun _ _=>False) s:=by
 obtain⟨a,t,u,rfl,o,ho,hc,n,hd⟩:=hx
 obtain⟨a',t',u',rfl,o',ho',hc',n',hd'⟩:=hy
 refine PySem.W.kat_lt ho hd ho' hd' (PySem.W.kat_cons (wpAny_eqBool_int ?_))
 unfold Kq at h
 cases e:(p.1==q.1)with
 | true=>
  have e':p.1=q.1:=by simpa using e
  rw[if_pos e']at h
  refine PySem.W.kat_yes (PySem.W.kat_cons (wpAny_eqBool_int ?_))
  cases e2:(p.2==q.2)with
  | true=>
   have e3:p.2=q.2:=by simpa using e2
   refine PySem.W.kat_yes (PySem.W.kat_nil ?_)
   have:decide (p.2<q.2)=false:=by simp[e3]
   rw[this]at h
   exact h
  | false=>exact PySem.W.kat_no (PySem.W.kat_one _ _ (lt_int h))
 | false=>
  have e':¬ p.1=q.1:=by simpa using e
  rw[if_neg e']at h
  exact PySem.W.kat_no (oneLt_int h)
theorem Fk {vs:List Value}{ps:List (Int×Int)}{Q:SortKind→Shared→Prop}(h2:0<vs.length)(r:Paired (BG s.heap) vs ps)(h:Q (tuples' true) s):wpAny (model P w) A (keyKind' vs.toArray) Q E s:=by
 obtain⟨fs,t,hf,hi⟩:∃ fs:List Value,PySem.W.KatTups s.heap vs fs∧fs.length=vs.length∧∀ v∈fs,∃ i t,v=.int i t:=by
  clear h2 h
  induction r with
  | nil=>exact⟨[],.nil,rfl,fun v hv=>by cases hv⟩
  | cons r _ ih=>
   obtain⟨fs,t,hf,hi⟩:=ih
   obtain⟨a,t1,u,rfl,o,ho,hc,n,hd⟩:=r
   exact⟨_::fs,.cons ho hc hd rfl t,by simp[hf],fun v hv=>by
    rcases List.mem_cons.mp hv with rfl | hv
    ·exact⟨_,_,rfl⟩
    ·exact hi v hv⟩
 refine PySem.W.kat_kind (T:=.type "int") t (by omega) (fun v hv=>?_) (by rfl) h
 obtain⟨i,t,rfl⟩:=hi v hv
 exact PySem.W.Looks.of_pure rfl
theorem Jm {α:Type}{N:Nat}{lt:Nat→Nat→Bool}{cmp:Nat→Nat→(Bool→Shared→Prop)→Shared→Prop}(hc:∀ i j C,i<N→j<N→C (lt i j) s→cmp i j C s){R:α→Prop}{Q:α→Shared→Prop}(hq:∀ a,R a→Q a s):
 ∀{t:PySem.W.KasT α},StrT.Wp N lt t R→t.kasWp cmp Q s
 | .ret a,h=>hq a h
 | .ask i j k,h=>hc i j _ h.1 h.2.1 (Jm hc hq h.2.2)
theorem A7 {α β:Type}{F:α→β→Prop}{d:α}{e:β}:∀{xs:List α} {ys:List β},Paired F xs ys→∀{j:Nat},j<xs.length→F (xs.getD j d) (ys.getD j e)
 | _,_,.nil,_,h=>absurd h (Nat.not_lt_zero _)
 | _,_,.cons r _,0,_=>r
 | _,_,.cons _ t,j+1,h=>by simpa using A7 t (d:=d) (e:=e) (j:=j) (by simpa using h)
theorem Cb {α β γ:Type}{F:α→β→Prop}{f:γ→α}{g:γ→β}:∀{zs:List γ},(∀ z∈zs,F (f z) (g z))→Paired F (zs.map f) (zs.map g)
 | [],_=>.nil
 | z::zs,h=>.cons (h z (List.mem_cons_self ..)) (Cb fun z' hz=>h z' (List.mem_cons_of_mem _ hz))
theorem range_getD {α:Type}(d:α)(xs:List α):(List.range xs.length).map (fun i=>xs.getD i d)=xs:=by
 apply List.ext_getElem
 ·simp
 ·intro i h1 h2
  simp at h1
  simp[h1]
theorem Fl {vs:List Value}{ps:List (Int×Int)}(r:Paired (BG s.heap) vs ps)(h2:2≤vs.length)(h64:vs.length<64){Q:SortSt→Shared→Prop}
 (h:∀ st' out ps',(arrOf st').map (·.2)=List.toArray out→failedOf st'=none→out.length=vs.length→(∀ F:Value→Int×Int→Prop,Paired F vs ps→Paired F out ps')→ps'.Perm ps→Rise ps'→Q st' s):
 wpAny (model P w) A (sortRuns'.run (SortSt.mk' (tuples' true) (vs.toArray.zip vs.toArray) #[] 7 none)) (fun r s'=>Q r.2 s') E s:=by
 have hlen:vs.length=ps.length:=Paired.length r
 refine PySem.W.kat_run (κ:=tuples' true) (G:=fun p s'=>s'=s∧p.size=vs.length∧p.toList.Perm (List.range vs.length)∧StrT.Up (fun i j=>Kq (ps.getD i (0,0)) (ps.getD j (0,0))) p vs.length) rfl h2 h64 ?_ ?_
 ·rintro p st' s' hp har hf ⟨rfl,hz,hperm,hup⟩
  refine h st' _ (p.toList.map fun i=>ps.getD i (0,0)) (PySem.W.kat_snds rfl har) hf (by simp[hz]) (fun F rF=>Cb fun i hi=>?_) ?_ ?_
  ·have:i<vs.length:=by simpa using hperm.mem_iff.mp hi
   exact A7 rF this
  ·have e:=hperm.map fun i=>ps.getD i (0,0)
   rw[hlen,range_getD]at e
   exact e
  ·show List.Pairwise _ _
   rw[List.pairwise_map,List.pairwise_iff_getElem]
   intro i j hi hj hij
   have hj':j<p.size:=by simpa using hj
   have hi':i<p.size:=by simpa using hi
   have u:=hup i j (Nat.le_of_lt hij) (by omega)
   have gi:StrT.gg p i=p.toList[i]:=by simp[StrT.gg,Array.getD,hi']
   have gj:StrT.gg p j=p.toList[j]:=by simp[StrT.gg,Array.getD,hj']
   rw[gi,gj]at u
   exact u
 ·refine Jm (N:=vs.length) (lt:=fun i j=>Kq (ps.getD i (0,0)) (ps.getD j (0,0))) (fun i j C hi hj hC=>?_) (fun p hp=>⟨rfl,hp⟩) (StrT.sort_ (KA _) (by omega))
  exact KB (A7 r hi) (A7 r hj) hC
theorem Gg {a:Addr}{vs:List Value}{n:Nat}{h h':Heap}(ho:h.get? a=some (seqObj "list" vs.toArray n))(k:∀ b o,b≠a→h.get? b=some o→h'.get? b=some o){v:Value}{p:Int×Int}(x:BG h v p):BG h' v p:=by
 obtain⟨b,t,u,rfl,o,e,hc,n',hd⟩:=x
 refine⟨b,t,u,rfl,o,k b o (fun z=>?_) e,hc,n',hd⟩
 subst z
 rw[ho]at e
 cases e
 exact absurd (Value.type.inj hc) (by decide)
theorem Fn {a:Addr}{vs:List Value}{ps:List (Int×Int)}{n:Nat}{R:PySem.Fin→Shared→Prop}(ho:s.heap.get? a=some (seqObj "list" vs.toArray n))(r:Paired (BG s.heap) vs ps)(h64:vs.length<64)
 (h:∀(out:List Value) (ps':List (Int×Int)),(∀ F:Value→Int×Int→Prop,Paired F vs ps→Paired F out ps')→out.length=vs.length→ps'.Perm ps→Rise ps'→R (.done (.ret .none)) { s with heap:=sortedHeap s.heap a vs out.toArray }):
 wpAny (model P w) A (Builtin.«list.sort» ⟨[.ref a],[]⟩) R E s:=by
 have ha:a<s.heap.objs.size:=Heap.lt_size ho
 have hz:sizeLine=16777216:=sizeLine_eq
 rw[list_sort_plain]
 refine wpAny_bind (listItems_at ho rfl (wpAny_bind (listUpdate_at ho rfl ?_ (by rw[List.size_toArray];omega) (Nat.zero_le _))))
 obtain⟨e1,ho1⟩:∃ e1,(s.heap.update a (Obj.mapSeq fun _=>#[])).get? a=some (seqObj "list" #[] e1):=⟨_,get?_update_seq ho _⟩
 refine wpAny_bind (seqEpoch_at ho1 rfl (wpAny_bind (wpAny_newTuple (wpAny_bind (wpAny_newList (wpAny_holding ?_) (Nat.zero_le _))) (by show vs.length≤_;omega))))
 show wpAny (model P w) A _ R E { s with heap:=((s.heap.update a (Obj.mapSeq fun _=>#[])).push (seqObj "tuple" vs.toArray 0)).push (seqObj "list" #[] 0) }
 generalize hg:((s.heap.update a (Obj.mapSeq fun _=>#[])).push (seqObj "tuple" vs.toArray 0)).push (seqObj "list" #[] 0)=hh
 have hk:∀ b o,b≠a→s.heap.get? b=some o→hh.get? b=some o:=fun b o hb e=>by
  subst hg
  exact Heap.get?_push_of_some _ (Heap.get?_push_of_some _ ((Heap.get?_update_ne _ _ _ _ hb).trans e))
 have ho6:hh.get? a=some (seqObj "list" #[] e1):=by
  subst hg
  exact Heap.get?_push_of_some _ (Heap.get?_push_of_some _ ho1)
 have he:∀ out:List Value,sortedHeap s.heap a vs out.toArray=hh.update a (Obj.mapSeq fun _=>out.toArray):=fun out=>by subst hg;rfl
 have ends:∀(st':SortSt) (out:List Value) (ps':List (Int×Int)),(arrOf st').map (·.2)=List.toArray out→failedOf st'=none→(∀ F:Value→Int×Int→Prop,Paired F vs ps→Paired F out ps')→out.length=vs.length→ps'.Perm ps→Rise ps'→
  wpAny (model P w) A (do
   let touched:=(← seqEpoch a) != e1
   Builtin.List.listUpdate (.ref a) fun _=>(arrOf st').map (·.2)
   if let some e:=failedOf st' then rule "list.sort.comparison-raised";throw e
   if touched then rule "list.sort.modified";raiseError "ValueError" "list modified during sort"
   ret .none) R E { s with heap:=hh }:=fun st' out ps' h1 hf h3 h4 h5 h6=>by
  refine wpAny_bind (seqEpoch_at ho6 rfl (wpAny_bind (listUpdate_at ho6 rfl ?_ (Nat.zero_le _) (by rw[h1,List.size_toArray];omega))))
  rw[h1,hf]
  simp only[bne_self_eq_false,Bool.false_eq_true,if_false]
  have q:=h out ps' h3 h4 h5 h6
  rw[he]at q
  exact wpAny_pure q
 dsimp only
 by_cases c2:vs.toArray.size<2
 ·rw[if_pos c2,if_pos c2]
  refine wpAny_bind (wpAny_pure ?_)
  rw[StateT.run_pure]
  refine wpAny_bind (wpAny_pure (ends (SortSt.mk' general' (vs.toArray.zip vs.toArray) #[] 7 none) vs ps ?_ rfl (fun _ x=>x) rfl (List.Perm.refl _) ?_))
  ·show((pairsOf vs).map (·.2))=_
   apply Array.toList_inj.mp
   rw[Array.toList_map,pairsOf_toList]
   exact List.map_snd_zip (Nat.le_refl _)
  ·have hl:vs.length=ps.length:=Paired.length r
   rw[List.size_toArray]at c2
   match ps,hl with
   | [],_=>exact .nil
   | [_],_=>exact List.pairwise_singleton _ _
   | _::_::_,hl=>simp at hl;omega
 ·rw[if_neg c2,if_neg c2]
  rw[List.size_toArray]at c2
  have r':Paired (BG hh) vs ps:=Paired.imp' (fun v p x=>Gg ho hk x) r
  refine wpAny_bind (Fk (s:={ s with heap:=hh }) (by omega) r' (wpAny_bind (wpAny_mono (Fl (s:={ s with heap:=hh })
   (Q:=fun st' s'=>s'={ s with heap:=hh }∧∃ out ps',(arrOf st').map (·.2)=List.toArray out∧failedOf st'=none∧out.length=vs.length∧(∀ F:Value→Int×Int→Prop,Paired F vs ps→Paired F out ps')∧ps'.Perm ps∧Rise ps')
   r' (by omega) h64 fun st' out ps' h1 hf h4 h3 h5 h6=>⟨rfl,out,ps',h1,hf,h4,h3,h5,h6⟩) ?_ fun _ _ e=>e)))
  rintro⟨_,st'⟩ s' ⟨rfl,out,ps',h1,hf,h4,h3,h5,h6⟩
  exact ends st' out ps' h1 hf h3 h4 h5 h6
theorem Ew (h:Heap)(vs:List Value)(out:Array Value):(∀ b o,h.get? b=some o→(sortedAll h vs out).get? b=some o)∧∃ c,(sortedAll h vs out).get? (h.objs.size+1)=some (seqObj "list" out c):=by
 have hz:((h.push (seqObj "list" #[] 0)).update h.objs.size (Obj.mapSeq (·++vs.toArray))).objs.size=h.objs.size+1:=by rw[Heap.size_update,size_push']
 have hn:(((h.push (seqObj "list" #[] 0)).update h.objs.size (Obj.mapSeq (·++vs.toArray))).push (seqObj "list" vs.toArray 0)).get? (h.objs.size+1)=some (seqObj "list" vs.toArray 0):=by
  rw[← hz];exact Heap.get?_push_size _ rfl
 refine⟨fun b o e=>?_,?_⟩
 ·have hb:b<h.objs.size:=Heap.lt_size e
  refine(Heap.get?_update_ne _ _ _ _ (Nat.ne_of_lt (Nat.lt_succ_of_lt hb))).trans (Heap.get?_push_of_some _ (Heap.get?_push_of_some _ ((Heap.get?_update_ne _ _ _ _ (Nat.ne_of_lt (Nat.lt_succ_of_lt hb))).trans ?_)))
  exact Heap.get?_push_of_some _ ((Heap.get?_update_ne _ _ _ _ (Nat.ne_of_lt hb)).trans (Heap.get?_push_of_some _ e))
 ·exact⟨_,get?_update_seq (Heap.get?_push_of_some _ (Heap.get?_push_of_some _ (get?_update_seq hn fun _=>#[]))) fun _=>out⟩
theorem EO {l:Addr}{vs:List Value}{ps:List (Int×Int)}{Q:Value→Shared→Prop}(hl:s.heap.IsList l vs.toArray)(r:Paired (BG s.heap) vs ps)(h64:vs.length<64)
 (h:∀(out:List Value) (ps':List (Int×Int)),(∀ F:Value→Int×Int→Prop,Paired F vs ps→Paired F out ps')→out.length=vs.length→ps'.Perm ps→Rise ps'→Q (.ref (s.heap.objs.size+1)) { s with heap:=sortedAll s.heap vs out.toArray }):
 wpAny (model P w) A (call (.builtin "sorted") [.ref l]) Q E s:=by
 have hz0:sizeLine=16777216:=sizeLine_eq
 refine Calls.call_function_entry kind_sorted plain_sorted entry_sorted (args_sorted1 _) ?_
 unfold Builtin.«sorted»
 refine wpAny_bind (m:=checkCount "sorted" 1 1 _) (wpAny_pure (wpAny_bind (collect_list hl (wpAny_bind (wpAny_newList ?_ (by omega))) (by omega))))
 have hz:((s.heap.push (seqObj "list" #[] 0)).update s.heap.objs.size (Obj.mapSeq (·++vs.toArray))).objs.size=s.heap.objs.size+1:=by rw[Heap.size_update,size_push']
 show wpAny (model P w) _ _ _ _ { s with heap:=((s.heap.push (seqObj "list" #[] 0)).update s.heap.objs.size (Obj.mapSeq (·++vs.toArray))).push (seqObj "list" vs.toArray 0) }
 rw[hz]
 generalize hg:((s.heap.push (seqObj "list" #[] 0)).update s.heap.objs.size (Obj.mapSeq (·++vs.toArray))).push (seqObj "list" vs.toArray 0)=hh
 have hn:hh.get? (s.heap.objs.size+1)=some (seqObj "list" vs.toArray 0):=by
  subst hg
  rw[← hz];exact Heap.get?_push_size _ rfl
 have kp:∀ b o,s.heap.get? b=some o→hh.get? b=some o:=fun b o e=>by
  subst hg
  exact Heap.get?_push_of_some _ ((Heap.get?_update_ne _ _ _ _ (Nat.ne_of_lt (Heap.lt_size e))).trans (Heap.get?_push_of_some _ e))
 have r':Paired (BG hh) vs ps:=Paired.imp' (fun v p x=>by
  obtain⟨b,t,u,rfl,o,e,c⟩:=x
  exact⟨b,t,u,rfl,o,kp b o e,c⟩) r
 refine wpAny_bind (wpAny_holding (wpAny_call_entry (s:={ s with heap:=hh }) slot_list_sort ⟨_,hn,rfl⟩ entry_list_sort (Fn (s:={ s with heap:=hh }) hn r' h64 fun out ps' h1 h2 h3 h4=>⟨_,rfl,wpAny_pure ⟨_,rfl,?_⟩⟩) (args_list_sort _)))
 have q:=h out ps' h1 h2 h3 h4
 rw[show sortedAll s.heap vs out.toArray=sortedHeap hh (s.heap.objs.size+1) vs out.toArray by subst hg;rfl]at q
 exact q
end
def PrV (H:Hp)(v:V)(p:Int×Int):Prop:=∃ b,v=.ref b∧H b=some (.tup [.int p.1,.int p.2])
abbrev Prs (H:Hp)(vs:List V)(ps:List (Int×Int)):Prop:=Paired (PrV H) vs ps
section
variable {X:Cx}{pins:List (Addr×Obj)}{σ:St}{H:Hp}{s:Shared}
theorem PrV.raw (I:Af X pins σ H s){v:V}{u:Value}{p:Int×Int}(rv:Ai v u)(x:PrV H v p):BG s.heap u p:=by
 obtain⟨b,rfl,hb⟩:=x
 cases rv
 obtain⟨its,r,pl,_⟩:=I.tuple (Ae.of hb)
 cases r with
 | cons r1 r=>
  cases r with
  | cons r2 r=>
   cases r
   obtain⟨t,rfl⟩:=r1
   obtain⟨u,rfl⟩:=r2
   exact⟨b,t,u,rfl,pl⟩
theorem B9 {α β γ:Type}{F:α→β→Prop}{G:α→γ→Prop}{K:β→γ→Prop}(f:∀ a b c,F a b→G a c→K b c):∀{xs:List α} {ys:List β} {zs:List γ},Paired F xs ys→Paired G xs zs→Paired K ys zs
 | _,_,_,.nil,.nil=>.nil
 | _,_,_,.cons r t,.cons r' t'=>.cons (f _ _ _ r r') (B9 f t t')
def KC (K:PySem.W.Frag):List V→Hp→VK→Prop:=fun xs H Q=>∃ a vs ps,xs=[V.ref a]∧At K H a vs∧Prs H vs ps∧vs.length<64∧∀ l vs' ps',H l=none→Prs H vs' ps'→ps'.Perm ps→Rise ps'→Q (.ref l) (upd H l (.lst vs'))
theorem call_sorted:Ci X (.builtin "sorted") (KC X.K):=by
 intro pins s σ H xs us Q I r h
 obtain⟨a,vs,ps,rfl,ha,hp,h64,q⟩:=h
 obtain⟨u,rfl,ru⟩:=Fd r
 cases ru
 obtain⟨its,rv,pl,hz⟩:=I.list ha
 have hlen:=rv.length
 refine EO pl.isList (B9 (F:=Ai) (G:=PrV H) (K:=BG s.heap) (fun _ _ _ x y=>PrV.raw I x y) rv hp) (by omega) fun out ps' h1 h2 h3 h4=>?_
 obtain⟨kp,c,hc⟩:=Ew s.heap its out.toArray
 have z:Paired (fun(u:Value) p=>∃ b,u=.ref b∧H b=some (.tup [.int p.1,.int p.2])) out ps':=h1 _ (B9 (F:=Ai) (G:=PrV H) (fun _ _ _ x y=>by
  obtain⟨b,rfl,hb⟩:=y
  cases x
  exact⟨b,rfl,hb⟩) rv hp)
 obtain⟨vs',rv',rp'⟩:∃ vs':List V,Am vs' out∧Prs H vs' ps':=by
  clear h1 h2 h3 h4 hc kp
  induction z with
  | nil=>exact⟨[],.nil,.nil⟩
  | cons r _ ih=>
   obtain⟨vs',a1,a2⟩:=ih
   obtain⟨b,rfl,hb⟩:=r
   exact⟨.ref b::vs',.cons rfl a1,.cons ⟨b,rfl,hb⟩ a2⟩
 have hl':=rv'.length
 have hs:s.heap.objs.size≤s.heap.objs.size+1:=Nat.le_succ _
 exact⟨.ref (s.heap.objs.size+1),_,I.laid (t':=s.toks) kp hs (show A6 X.prog X.w _ _ _ (.lst vs')from⟨by omega,out,c,rv',hc⟩),rfl,q _ _ _ (I.hok.fresh hs) rp' h3 h4⟩
end
structure TR (X:Cx)(scope:Scope)(cl:List (Str×Addr))(x y:Str)(fv:List Str)(js:List Nat):Prop where
 S:Bv X scope cl x fv js
 hy:scope.names.lookup y=some .local
 nd:(x::y::fv).Nodup
theorem TU:bootBuiltins "sum"=some (.builtin "sum"):=by nofun
theorem NS:∀{ns:List Int} {us:List Value},Am (ns.map V.int) us→IntsAre us ns
 | [],_,.nil=>.nil
 | n::ns,_,.cons r t=>by
  obtain⟨k,rfl⟩:=r
  exact .cons n k (NS t)
section
variable {X:Cx}
theorem Ph (hc:X.calm=true):Ci X (.builtin "sum") (fun xs H Q=>∃(p:Addr) (ns:List Int),xs=[.ref p]∧At X.K H p (ns.map V.int)∧Q (.int ns.sum) H):=by
 intro pins s σ H xs us Q I r h
 obtain⟨p,ns,rfl,hp,q⟩:=h
 obtain⟨u,rfl,ru⟩:=Fd r
 cases ru
 obtain⟨its,rv,pl,hz⟩:=I.list hp
 have hi:=NS rv
 obtain⟨xs,ex⟩:=hi.allInts.items
 have hn:(numsOf its.toArray.toList)=ns:=by rw[show its.toArray.toList=its from rfl,hi.numsOf]
 have hl:=pl.isList
 rw[ex]at hl hn
 rw[nums_intItems]at hn
 refine sum_intListG (I.ok.hd hc) hl fun h' tk t' kp=>⟨.int ns.sum,H,I.kept (t':=tk) kp,⟨t',?_⟩,q⟩
 rw[preSum_eq,List.take_of_length_le (by simp),hn]
theorem Pi {xs:List V}{us:List Value}(r:Am xs us):Am xs.reverse us.reverse:=by
 induction r with
 | nil=>exact .nil
 | cons r _ ih=>
  rw[List.reverse_cons,List.reverse_cons]
  exact Am.append ih (.cons r .nil)
end
structure M1 (X:Cx)(o:Expr)(m:Str)(apos:Pos)(e:Expr)(cpos:Pos):Prop where
 base:attributeBase o m X.env (eval o X.env)=eval o X.env
 few:((backTo cpos (starEach [e] X.env)).all (fun x=>!x.1)&&(backToKw cpos (keywordEach [] X.env)).all (fun x=>x.1.isSome)
  && decide (([e]:List Expr).length+([]:List Keyword).length+(if([]:List Keyword).isEmpty then 0 else 1)<30))=true
 line:(apos.endLine==cpos.line)=true
 trees:backTo cpos (starEach [e] X.env)=[(false,eval e X.env)]
structure M2 (X:Cx)(o:Expr)(m:Str)(apos:Pos)(e f:Expr)(cpos:Pos):Prop where
 base:attributeBase o m X.env (eval o X.env)=eval o X.env
 few:((backTo cpos (starEach [e,f] X.env)).all (fun x=>!x.1)&&(backToKw cpos (keywordEach [] X.env)).all (fun x=>x.1.isSome)
  && decide (([e,f]:List Expr).length+([]:List Keyword).length+(if([]:List Keyword).isEmpty then 0 else 1)<30))=true
 line:(apos.endLine==cpos.line)=true
 trees:backTo cpos (starEach [e,f] X.env)=[(false,eval e X.env),(false,eval f X.env)]
def LF (w:World)(kv:A9×V)(e:DictEntry):Prop:=IE kv.1 e.key=true∧e.hash=Ue w kv.1∧Ai kv.2 e.val
def TV (w:World)(o:Obj)(kvs:List (A9×V)):Prop:=o.ExactDict∧∃ es ep,o.data=.dict es ep∧Paired (LF w) kvs es.toList∧(kvs.map (·.1)).Nodup
def OH (w:World)(K:PySem.W.Frag)(a:Addr)(kvs:List (A9×V)):Prop:=∃ ob,K.lookup a=some ob∧TV w ob kvs∧(a==sysModules)=false
theorem NT {P:Program}{w:World}:∀{kvs:List (A9×V)} {es:List DictEntry},Paired (LF w) kvs es→∃ vs:List (A9×Value),KV kvs vs∧Pairs (BA P w) es vs∧vs.map (·.1)=kvs.map (·.1)∧∀ e∈es,∃ k,(BA P w).is k e.key=true∧e.hash=(BA P w).hash k
 | _,_,.nil=>⟨[],.nil,.nil,rfl,fun _ h=>nomatch h⟩
 | (kv::_),(e::_),.cons r t=>by
  obtain⟨vs,h1,h2,h3,h4⟩:=NT (P:=P) t
  obtain⟨q1,q2,q3⟩:=r
  refine⟨(kv.1,e.val)::vs,.cons ⟨rfl,q3⟩ h1,.cons q1 rfl h2,by rw[List.map_cons,List.map_cons,h3],fun x hx=>?_⟩
  rcases List.mem_cons.mp hx with z | z
  ·rw[z];exact⟨kv.1,q1,q2⟩
  ·exact h4 x z
section
variable {X:Cx}{pins:List (Addr×Obj)}{σ:St}{H:Hp}{s:Shared}{a:Addr}{kvs:List (A9×V)}
theorem OH.at (I:Af X pins σ H s)(d:OH X.w X.K a kvs):∃ vs,KV kvs vs∧s.heap.DictOf (BA X.prog X.w) a vs∧∃ ob,s.heap.get? a=some ob∧ob.dict=none:=by
 obtain⟨ob,hk,⟨hx,es,ep,hd,hp,hn⟩,_⟩:=d
 obtain⟨vs,h1,h2,h3,h4⟩:=NT (P:=X.prog) hp
 refine⟨vs,h1,⟨ob,es,ep,I.kIn a ob hk,hx,hd,fun e he=>h4 e (Array.mem_def.mp he),h2,by rw[h3];exact hn⟩,ob,I.kIn a ob hk,hx.2.1⟩
end
def TW (w:World)(K:PySem.W.Frag)(mg:Str→Option Value)(x:Str)(kvs:List (A9×V)):Prop:=∃ a,mg x=some (.ref a)∧OH w K a kvs
def YA (w:World)(K:PySem.W.Frag)(kvs:List (A9×V)):TE:=fun _ H Q=>∀ a,OH w K a kvs→Q (.ref a) H
theorem RY {X:Cx}{x:Str}{kvs:List (A9×V)}{pos:Pos}(hm:TW X.w X.K X.mg x kvs)(hg:Gl X x:=by rfl)(hd:(x==("__debug__":Str))=false:=by decide):PE X (.Name x pos) (YA X.w X.K kvs):=by
 obtain⟨a,h,k⟩:=hm
 intro pins s σ H Q I q
 exact FL I hg h ⟨.ref a,H,I,rfl,q a k⟩ hd
def VC (w:World)(K:PySem.W.Frag)(mg:Str→Option Value)(x:Str)(kts:List (A9×List V)):Prop:=∃ kvs,TW w K mg x kvs∧Paired (fun(kv:A9×V) (kt:A9×List V)=>kv.1=kt.1∧∃ a,kv.2=.ref a∧∀ H,Ae K H a kt.2) kvs kts
def W7 (w:World)(K:PySem.W.Frag)(kts:List (A9×List V)):TE:=fun _ H Q=>∀ a kvs,OH w K a kvs→Paired (fun(kv:A9×V) (kt:A9×List V)=>kv.1=kt.1∧∃ a,kv.2=.ref a∧∀ H,Ae K H a kt.2) kvs kts→Q (.ref a) H
theorem KD {X:Cx}{x:Str}{kts:List (A9×List V)}{pos:Pos}(hm:VC X.w X.K X.mg x kts)(hg:Gl X x:=by rfl)(hd:(x==("__debug__":Str))=false:=by decide):PE X (.Name x pos) (W7 X.w X.K kts):=by
 obtain⟨kvs,⟨a,h,k⟩,p⟩:=hm
 intro pins s σ H Q I q
 exact FL I hg h ⟨.ref a,H,I,rfl,q a kvs k p⟩ hd
section
variable {X:Cx}{o i e f:Expr}{pos apos cpos:Pos}{td ty te tf:TE}
def TX (w:World)(K:PySem.W.Frag)(td ty tx:TE):TE:=fun σ H Q=>td σ H fun x H1=>∃ a kvs,x=.ref a∧OH w K a kvs∧ty σ H1 fun y H2=>tx σ H2 fun z H3=>∃ k,y=kV k∧Q ((B4 kvs k).getD z) H3
theorem GG (ho:PE X o td)(he:PE X e te)(hf:PE X f tf)(m:M2 X o "get" apos e f cpos):PE X (.Call (.Attribute o "get" apos) [e,f] [] cpos) (TX X.w X.K td te tf):=by
 intro pins s σ H Q I h
 refine wpAny_Call_method m.base m.few m.line PySem.F.plainAttrs_dict PySem.F.slot_dict_get PySem.F.type_dict_get (BI (ho pins s σ H _ I h) fun u s1 zq=>?_)
 obtain⟨x,H1,I1,rx,a,kvs,ex,d,q1⟩:=zq
 subst ex
 obtain rfl:u=Value.ref a:=rx
 obtain⟨_,_,dd,ob,hob,hno⟩:=d.at I1
 refine⟨dd.typeIs,fun b q=>by cases q;exact⟨ob,hob,hno⟩,?_⟩
 rw[m.trees]
 refine Calls.callWith_builtin rfl (Calls.evalArgs_plain (Calls.spliced_cons (BI (he pins s1 σ H1 _ I1 q1) fun iv s2 ⟨y,H2,I2,ry,q2⟩=>
  Calls.spliced_cons (BI (hf pins s2 σ H2 _ I2 q2) fun fv s3 ⟨z,H3,I3,rz,k,ey,q3⟩=>Calls.spliced_nil ?_))))
 subst ey
 obtain⟨vs3,rel3,dd3,_⟩:=d.at I3
 refine call_meetsIn PySem.F.slot_dict_get dd3.typeIs PySem.F.entry_dict_get (PySem.F.args_dict_get_3 _ _ _) (meets_dict_get_default (BA X.prog X.w) a (LD ry) d.choose_spec.2.2 fv) ⟨_,dd3.mapOf,?_⟩
 exact⟨_,H3,I3.tok _,(rel3.val k).getD rz,q3⟩
end
section
variable {prog:Program}{w:World}{A:Around}{E:Value→Shared→Prop}{s:Shared}
theorem IS {it t:Addr}{i:Nat}{items:Array Value}{x:Value}{Q:Value→Shared→Prop}(hit:s.heap.IsTupleIter it t i)(ht:s.heap.IsTuple t items)(hx:items[i]?=some x)
 (hQ:∀ h',h'.IsTupleIter it t (i+1)→Heap.SameBut it s.heap h'→Q x { s with heap:=h' }):wpAny (model prog w) A (Builtin.SmallTypes.nextOf (.ref it)) Q E s:=by
 obtain⟨o,ho,hc,hd⟩:=id hit
 obtain⟨ol,hol,_,nl,hdl⟩:=ht
 unfold Builtin.SmallTypes.nextOf
 refine wpAny_bind (wpAny_callSpecial?_slot (name:=Str.ofString "__next__") hit.typeIs F.slot_tuple_iterator_next (wpAny_call_entry F.slot_tuple_iterator_next hit.typeIs F.entry_tuple_iterator_next ?_ (F.args_tuple_iterator_next_1 _)))
 show wpAny _ _ (field (.ref it) 0 >>= _) _ _ s
 refine wpAny_bind (wpAny_field ho hd (x:=.ref t) rfl ?_)
 show wpAny _ _ (if(Value.ref t==Value.none)=true then _ else _) _ _ s
 rw[if_neg (show ¬ ((Value.ref t==Value.none)=true)from Bool.false_ne_true)]
 show wpAny _ _ (field (.ref it) 1 >>= _) _ _ s
 refine wpAny_bind (wpAny_field ho hd (x:=.int i 0) rfl ?_)
 show wpAny _ _ (seqItems? (.ref t) >>= _) _ _ s
 refine wpAny_bind (wpAny_seqItems hol hdl ?_)
 simp only[Int.toNat_natCast,hx]
 refine wpAny_bind (wpAny_setField ho hd (by simp) (wpAny_pure ⟨x,rfl,wpAny_pure (hQ _ ?_ (Heap.SameBut.update ..))⟩))
 exact⟨_,Heap.get?_update_self _ ho (Obj.isFreed_of_fields (Obj.data_mapFields hd _)),(Obj.cls_mapFields ..).trans hc,by
  rw[Obj.data_mapFields hd];simp[rawInt]⟩
theorem OI {it t:Addr}{i:Nat}{items:Array Value}{Q:Value→Shared→Prop}(hh:A.handled=none)(hit:s.heap.IsTupleIter it t i)(ht:s.heap.IsTuple t items)(hx:items[i]?=none)
 (hE:∀ h' e,Heap.ExtBut it s.heap h'→(∃ o,h'.get? e=some o∧o.cls=.type "StopIteration")→E (.ref e) { s with heap:=h' }):wpAny (model prog w) A (Builtin.SmallTypes.nextOf (.ref it)) Q E s:=by
 obtain⟨o,ho,hc,hd⟩:=id hit
 obtain⟨ol,hol,_,nl,hdl⟩:=ht
 unfold Builtin.SmallTypes.nextOf
 refine wpAny_bind (wpAny_callSpecial?_slot (name:=Str.ofString "__next__") hit.typeIs F.slot_tuple_iterator_next (wpAny_call_entry F.slot_tuple_iterator_next hit.typeIs F.entry_tuple_iterator_next ?_ (F.args_tuple_iterator_next_1 _)))
 show wpAny _ _ (field (.ref it) 0 >>= _) _ _ s
 refine wpAny_bind (wpAny_field ho hd (x:=.ref t) rfl ?_)
 show wpAny _ _ (if(Value.ref t==Value.none)=true then _ else _) _ _ s
 rw[if_neg (show ¬ ((Value.ref t==Value.none)=true)from Bool.false_ne_true)]
 show wpAny _ _ (field (.ref it) 1 >>= _) _ _ s
 refine wpAny_bind (wpAny_field ho hd (x:=.int i 0) rfl ?_)
 show wpAny _ _ (seqItems? (.ref t) >>= _) _ _ s
 refine wpAny_bind (wpAny_seqItems hol hdl ?_)
 simp only[Int.toNat_natCast,hx]
 refine wpAny_bind (wpAny_rule (wpAny_bind (wpAny_setField ho hd (by simp) ?_)))
 show wpAny _ _ (newExc (.type "StopIteration") [] >>= _) _ _ _
 refine wpAny_bind ?_
 simp only[newExc,newTuple]
 refine wpAny_bind (wpAny_newObj_type ?_ (by size_fits))
 refine wpAny_bind (m:=firstArgMember _ _) (wpAny_of_eq (a:=Value.none) (by first | rfl | (simp only[firstArgMember];rfl)) ?_)
 refine wpAny_newObj_type ?_ (by size_fits)
 simp only[raiseNew]
 refine wpAny_bind (wpAny_handled ?_)
 first | rw[show A.in1.handled=none from hh] | rw[hh]
 refine wpAny_bind (wpAny_pure (wpAny_throw ?_))
 exact hE _ _ (((Heap.SameBut.update ..).extBut.push _).push _) ⟨_,Heap.get?_push_size _ rfl,rfl⟩
theorem OJ {z TI TO i1 i2 l1 l2:Addr}{k1 k2:Nat}{xs ys:Array Value}{x y a b:Value}{Q:Value→Shared→Prop}(D:ZipApart z TI TO i1 i2 l1 l2)
 (hz:IsZip s.heap z TI TO .none) (hTI:IsPair s.heap TI (.ref i1) (.ref i2)) (hTO:IsPair s.heap TO a b)
 (h1:s.heap.IsTupleIter i1 l1 k1) (h2:s.heap.IsListIter i2 l2 k2) (hl1:s.heap.IsTuple l1 xs) (hl2:s.heap.IsList l2 ys) (hx:xs[k1]?=some x) (hy:ys[k2]?=some y)
 (hQ:∀ h',IsZip h' z TI TO (rawInt s.heap.objs.size)→IsPair h' TO x y→h'.IsTupleIter i1 l1 (k1+1)→h'.IsListIter i2 l2 (k2+1)→IsPair h' s.heap.objs.size x y→h'.objs.size=s.heap.objs.size+1→
  (∀ c o,c≠z→c≠TO→c≠i1→c≠i2→s.heap.get? c=some o→h'.get? c=some o)→Q (.ref s.heap.objs.size) { s with heap:=h' }):
 wpAny (model prog w) A (Builtin.«zip.__next__» ⟨[.ref z],[]⟩) (fun fin s'=>∃ v,fin=.done (.ret v)∧Q v s') E s:=by
 show wpAny _ _ (field (.ref z) 2 >>= _) _ _ _
 refine wpAny_bind (wpAny_field hz rfl (x:=.bool false) rfl ?_)
 show wpAny _ _ (field (.ref z) 3 >>= _) _ _ _
 refine wpAny_bind (wpAny_field hz rfl (x:=.ref TI) rfl ?_)
 refine wpAny_bind (wpAny_seqItems hTI rfl ?_)
 show wpAny _ _ (Builtin.SmallTypes.ownedTupleIsFree (.ref z) >>= _) _ _ _
 refine wpAny_bind ?_
 unfold Builtin.SmallTypes.ownedTupleIsFree
 refine wpAny_bind (wpAny_field hz rfl (x:=.none) rfl (wpAny_pure ?_))
 simp only[if_true]
 refine wpAny_bind (wpAny_rule ?_)
 refine wpAny_bind (wpAny_field hz rfl (x:=.ref TO) rfl ?_)
 refine wpAny_bind (wpAny_setField_rec hz (by simp) fun h₁ hz₁ hs₁=>?_)
 replace hz₁:IsZip h₁ z TI TO .ellipsis:=hz₁
 refine wpAny_bind ?_
 simp only[List.zipIdx_cons,List.zipIdx_nil,List.forIn_cons,List.forIn_nil]
 refine wpAny_bind (wpAny_bind (wpAny_onRaise ?_))
 show wpAny _ _ (Builtin.SmallTypes.nextOf (.ref i1) >>= _) _ _ _
 refine wpAny_bind (IS (h1.extBut hs₁.extBut D.i1z) (hl1.extBut hs₁.extBut D.l1z) hx fun h₂ h1₂ hs₂=>wpAny_pure ?_)
 have hTO₂:IsPair h₂ TO a b:=hs₂.extBut _ _ D.TOi1 (hs₁.extBut _ _ D.TOz hTO)
 refine wpAny_bind (wpAny_seqItems hTO₂ rfl ?_)
 refine wpAny_bind (wpAny_updateSeq_pair hTO₂ fun h₃ hTO₃ hs₃=>?_)
 replace hTO₃:IsPair h₃ TO x b:=hTO₃
 refine wpAny_bind (wpAny_letGo (wpAny_pure ?_))
 refine wpAny_bind (wpAny_bind (wpAny_onRaise ?_))
 show wpAny _ _ (Builtin.SmallTypes.nextOf (.ref i2) >>= _) _ _ _
 refine wpAny_bind (wpAny_nextOf_list_item (((h2.extBut hs₁.extBut D.i2z).extBut hs₂.extBut D.i12.symm).extBut hs₃.extBut D.TOi2.symm)
  (((hl2.extBut hs₁.extBut D.l2z).extBut hs₂.extBut D.l2i1).extBut hs₃.extBut D.l2TO) hy fun h₄ h2₄ hs₄=>wpAny_pure ?_)
 have hTO₄:IsPair h₄ TO x b:=hs₄.extBut _ _ D.TOi2 hTO₃
 refine wpAny_bind (wpAny_seqItems hTO₄ rfl ?_)
 refine wpAny_bind (wpAny_updateSeq_pair hTO₄ fun h₅ hTO₅ hs₅=>?_)
 replace hTO₅:IsPair h₅ TO x y:=hTO₅
 refine wpAny_bind (wpAny_letGo (wpAny_pure (wpAny_pure ?_)))
 refine wpAny_bind (wpAny_seqItems hTO₅ rfl ?_)
 refine wpAny_bind (wpAny_newTuple ?_)
 have hsz:h₅.objs.size=s.heap.objs.size:=by rw[hs₅.1,hs₄.1,hs₃.1,hs₂.1,hs₁.1]
 have hz₅:IsZip h₅ z TI TO .ellipsis:=hs₅.extBut _ _ D.TOz.symm (hs₄.extBut _ _ D.i2z.symm (hs₃.extBut _ _ D.TOz.symm (hs₂.extBut _ _ D.i1z.symm hz₁)))
 have hk₅:∀ c o,c≠z→c≠TO→c≠i1→c≠i2→s.heap.get? c=some o→h₅.get? c=some o:=fun c o c1 c2 c3 c4 e=>
  hs₅.extBut _ _ c2 (hs₄.extBut _ _ c4 (hs₃.extBut _ _ c2 (hs₂.extBut _ _ c3 (hs₁.extBut _ _ c1 e))))
 have h1₅:h₅.IsTupleIter i1 l1 (k1+1):=((h1₂.extBut hs₃.extBut D.TOi1.symm).extBut hs₄.extBut D.i12).extBut hs₅.extBut D.TOi1.symm
 have h2₅:h₅.IsListIter i2 l2 (k2+1):=h2₄.extBut hs₅.extBut D.TOi2.symm
 have hzlt:z<h₅.objs.size:=Heap.lt_size hz₅
 show wpAny _ _ (Builtin.SmallTypes.ownedTupleHandOut (.ref z) (.ref h₅.objs.size) >>= _) _ _ _
 refine wpAny_bind ?_
 unfold Builtin.SmallTypes.ownedTupleHandOut
 have hz₆:IsZip (h₅.push { cls:=.type "tuple",data:=.seq #[x,y] }) z TI TO .ellipsis:=Heap.get?_push_of_some _ hz₅
 refine wpAny_bind (wpAny_setField_rec hz₆ (by simp) fun h₇ hz₇ hs₇=>?_)
 replace hz₇:IsZip h₇ z TI TO (rawInt h₅.objs.size):=hz₇
 refine wpAny_setField_rec hz₇ (by simp) fun h₈ hz₈ hs₈=>?_
 replace hz₈:IsZip h₈ z TI TO (rawInt h₅.objs.size):=hz₈
 have up:∀ c o,c≠z→h₅.get? c=some o→h₈.get? c=some o:=fun c o c1 e=>hs₈.extBut _ _ c1 (hs₇.extBut _ _ c1 (Heap.get?_push_of_some _ e))
 have hT₈:IsPair h₈ h₅.objs.size x y:=hs₈.extBut _ _ (Nat.ne_of_gt hzlt) (hs₇.extBut _ _ (Nat.ne_of_gt hzlt) (Heap.get?_push_size _ rfl))
 have hz8:h₈.objs.size=h₅.objs.size+1:=by rw[hs₈.1,hs₇.1,Heap.size_push]
 rw[hsz]at hz₈ hT₈ hz8
 refine wpAny_pure ⟨_,rfl,?_⟩
 show Q (.ref h₅.objs.size) _
 rw[hsz]
 exact hQ h₈ hz₈ (up _ _ D.TOz hTO₅) (h1₅.at fun o e=>up _ o D.i1z e) (h2₅.at fun o e=>up _ o D.i2z e) hT₈ hz8 fun c o c1 c2 c3 c4 e=>up c o c1 (hk₅ c o c1 c2 c3 c4 e)
theorem Pj {z TI TO i1 i2 l1 l2:Addr}{k1 k2:Nat}{xs ys:Array Value}{a b:Value}{Q:Fin→Shared→Prop}(hh:A.handled=none)(D:ZipApart z TI TO i1 i2 l1 l2)
 (hz:IsZip s.heap z TI TO .none) (hTI:IsPair s.heap TI (.ref i1) (.ref i2)) (hTO:IsPair s.heap TO a b)
 (h1:s.heap.IsTupleIter i1 l1 k1) (h2:s.heap.IsListIter i2 l2 k2) (hl1:s.heap.IsTuple l1 xs) (hl2:s.heap.IsList l2 ys) (hend:xs[k1]?=none∨ys[k2]?=none)
 (hE:∀ h' e,(∀ c o,c≠z→c≠TO→c≠i1→c≠i2→s.heap.get? c=some o→h'.get? c=some o)→(∃ o,h'.get? e=some o∧o.cls=.type "StopIteration")→E (.ref e) { s with heap:=h' }):
 wpAny (model prog w) A (Builtin.«zip.__next__» ⟨[.ref z],[]⟩) Q E s:=by
 show wpAny _ _ (field (.ref z) 2 >>= _) _ _ _
 refine wpAny_bind (wpAny_field hz rfl (x:=.bool false) rfl ?_)
 show wpAny _ _ (field (.ref z) 3 >>= _) _ _ _
 refine wpAny_bind (wpAny_field hz rfl (x:=.ref TI) rfl ?_)
 refine wpAny_bind (wpAny_seqItems hTI rfl ?_)
 show wpAny _ _ (Builtin.SmallTypes.ownedTupleIsFree (.ref z) >>= _) _ _ _
 refine wpAny_bind ?_
 unfold Builtin.SmallTypes.ownedTupleIsFree
 refine wpAny_bind (wpAny_field hz rfl (x:=.none) rfl (wpAny_pure ?_))
 simp only[if_true]
 refine wpAny_bind (wpAny_rule ?_)
 refine wpAny_bind (wpAny_field hz rfl (x:=.ref TO) rfl ?_)
 refine wpAny_bind (wpAny_setField_rec hz (by simp) fun h₁ hz₁ hs₁=>?_)
 replace hz₁:IsZip h₁ z TI TO .ellipsis:=hz₁
 refine wpAny_bind ?_
 simp only[List.zipIdx_cons,List.zipIdx_nil,List.forIn_cons,List.forIn_nil]
 refine wpAny_bind (wpAny_bind (wpAny_onRaise ?_))
 show wpAny _ _ (Builtin.SmallTypes.nextOf (.ref i1) >>= _) _ _ _
 cases hx:xs[k1]? with
 | none=>
  refine wpAny_bind (OI hh (h1.extBut hs₁.extBut D.i1z) (hl1.extBut hs₁.extBut D.l1z) hx fun h₂ e hs₂ he=>?_)
  obtain⟨oe,hoe,hce⟩:=he
  have hz₂:IsZip h₂ z TI TO .ellipsis:=hs₂ _ _ D.i1z.symm hz₁
  have hez:e≠z:=fun x=>by subst x;rw[hz₂]at hoe;cases hoe;simp at hce
  refine wpAny_setField_rec hz₂ (by simp) fun h₃ _ hs₃=>hE h₃ e (fun c o c1 _ c3 _ x=>hs₃.extBut _ _ c1 (hs₂ _ _ c3 (hs₁.extBut _ _ c1 x))) ⟨oe,hs₃.extBut _ _ hez hoe,hce⟩
 | some x=>
  have hy:ys[k2]?=none:=by rcases hend with h | h;rw[hx]at h;cases h;exact h
  refine wpAny_bind (IS (h1.extBut hs₁.extBut D.i1z) (hl1.extBut hs₁.extBut D.l1z) hx fun h₂ h1₂ hs₂=>wpAny_pure ?_)
  have hTO₂:IsPair h₂ TO a b:=hs₂.extBut _ _ D.TOi1 (hs₁.extBut _ _ D.TOz hTO)
  refine wpAny_bind (wpAny_seqItems hTO₂ rfl ?_)
  refine wpAny_bind (wpAny_updateSeq_pair hTO₂ fun h₃ hTO₃ hs₃=>?_)
  refine wpAny_bind (wpAny_letGo (wpAny_pure ?_))
  refine wpAny_bind (wpAny_bind (wpAny_onRaise ?_))
  show wpAny _ _ (Builtin.SmallTypes.nextOf (.ref i2) >>= _) _ _ _
  refine wpAny_bind (wpAny_nextOf_list_end hh (((h2.extBut hs₁.extBut D.i2z).extBut hs₂.extBut D.i12.symm).extBut hs₃.extBut D.TOi2.symm)
   (((hl2.extBut hs₁.extBut D.l2z).extBut hs₂.extBut D.l2i1).extBut hs₃.extBut D.l2TO) hy fun h₄ e hs₄ he=>?_)
  obtain⟨oe,hoe,hce⟩:=he
  have hz₄:IsZip h₄ z TI TO .ellipsis:=hs₄ _ _ D.i2z.symm (hs₃.extBut _ _ D.TOz.symm (hs₂.extBut _ _ D.i1z.symm hz₁))
  have hez:e≠z:=fun x=>by subst x;rw[hz₄]at hoe;cases hoe;simp at hce
  refine wpAny_setField_rec hz₄ (by simp) fun h₅ _ hs₅=>hE h₅ e (fun c o c1 c2 c3 c4 x=>hs₅.extBut _ _ c1 (hs₄ _ _ c4 (hs₃.extBut _ _ c2 (hs₂.extBut _ _ c3 (hs₁.extBut _ _ c1 x))))) ⟨oe,hs₅.extBut _ _ hez hoe,hce⟩
theorem KE {z TI TO i1 i2 l1 l2:Addr}{k1 k2:Nat}{xs ys:Array Value}{x y a b:Value}{Q:Option Value→Shared→Prop}(D:ZipApart z TI TO i1 i2 l1 l2)
 (hz:IsZip s.heap z TI TO .none) (hTI:IsPair s.heap TI (.ref i1) (.ref i2)) (hTO:IsPair s.heap TO a b)
 (h1:s.heap.IsTupleIter i1 l1 k1) (h2:s.heap.IsListIter i2 l2 k2) (hl1:s.heap.IsTuple l1 xs) (hl2:s.heap.IsList l2 ys) (hx:xs[k1]?=some x) (hy:ys[k2]?=some y)
 (hQ:∀ h',IsZip h' z TI TO (rawInt s.heap.objs.size)→IsPair h' TO x y→h'.IsTupleIter i1 l1 (k1+1)→h'.IsListIter i2 l2 (k2+1)→IsPair h' s.heap.objs.size x y→h'.objs.size=s.heap.objs.size+1→
  (∀ c o,c≠z→c≠TO→c≠i1→c≠i2→s.heap.get? c=some o→h'.get? c=some o)→Q (some (.ref s.heap.objs.size)) { s with heap:=h' }):
 wpAny (model prog w) A (pyNext (.ref z)) Q E s:=by
 have hT:s.TypeIs (.ref z) "zip":=⟨_,hz,rfl⟩
 unfold pyNext
 exact wpAny_bind (wpAny_attempt (wpAny_callSpecial?_slot (name:=Str.ofString "__next__") hT F.slot_zip_next
  (wpAny_call_entry F.slot_zip_next hT F.entry_zip_next (OJ D hz hTI hTO h1 h2 hl1 hl2 hx hy fun h' a1 a2 a3 a4 a5 a6 a7=>wpAny_pure (hQ h' a1 a2 a3 a4 a5 a6 a7)) (F.args_zip_next_1 _))))
theorem LG {z TI TO i1 i2 l1 l2:Addr}{k1 k2:Nat}{xs ys:Array Value}{a b:Value}{Q:Option Value→Shared→Prop}(hh:A.handled=none)(D:ZipApart z TI TO i1 i2 l1 l2)
 (hz:IsZip s.heap z TI TO .none) (hTI:IsPair s.heap TI (.ref i1) (.ref i2)) (hTO:IsPair s.heap TO a b)
 (h1:s.heap.IsTupleIter i1 l1 k1) (h2:s.heap.IsListIter i2 l2 k2) (hl1:s.heap.IsTuple l1 xs) (hl2:s.heap.IsList l2 ys) (hend:xs[k1]?=none∨ys[k2]?=none)
 (hQ:∀ h',(∀ c o,c≠z→c≠TO→c≠i1→c≠i2→s.heap.get? c=some o→h'.get? c=some o)→Q none { s with heap:=h' }):wpAny (model prog w) A (pyNext (.ref z)) Q E s:=by
 have hT:s.TypeIs (.ref z) "zip":=⟨_,hz,rfl⟩
 unfold pyNext
 refine wpAny_bind (wpAny_attempt (wpAny_callSpecial?_slot (name:=Str.ofString "__next__") hT F.slot_zip_next
  (wpAny_call_entry F.slot_zip_next hT F.entry_zip_next (Pj hh D hz hTI hTO h1 h2 hl1 hl2 hend fun h' e hk he=>?_) (F.args_zip_next_1 _))))
 obtain⟨o,ho,hc⟩:=he
 refine wpAny_bind (wpAny_isInstance (T:="StopIteration") (b:=true) ⟨o,ho,hc⟩ isSubtype_stop ?_)
 exact wpAny_pure (hQ _ hk)
end
abbrev WU (h:Heap)(l1:Addr):Heap:=h.push { cls:=.type "tuple_iterator",data:=.fields #[.ref l1,.int 0 0] }
abbrev WV (h:Heap)(l1 l2:Addr):Heap:=(WU h l1).push { cls:=.type "list_iterator",data:=.fields #[.ref l2,.int 0 0] }
abbrev WW (h:Heap)(l1 l2:Addr):Heap:=(WV h l1 l2).push { cls:=.type "tuple",data:=.seq #[.ref h.objs.size,.ref (WU h l1).objs.size] }
abbrev WX (h:Heap)(l1 l2:Addr):Heap:=(WW h l1 l2).push { cls:=.type "tuple",data:=.seq #[.none,.none] }
abbrev TY (h:Heap)(l1 l2:Addr):Heap:=(WX h l1 l2).push { cls:=.type "zip",data:=.fields #[.none,.bool false,.bool false,.ref (WV h l1 l2).objs.size,.ref (WW h l1 l2).objs.size] }
theorem MM (l1 l2:Addr)(xs ys:Array Value):
 Meets (Builtin.«zip.__new__» ⟨[.type "zip",.ref l1,.ref l2],[]⟩) (fun _ R s=>s.heap.IsTuple l1 xs∧s.heap.IsList l2 ys∧R (.ok (.ret (.ref (WX s.heap l1 l2).objs.size))) { s with heap:=TY s.heap l1 l2 }):=
 .of_wp fun prog w A R s h=>by
  obtain⟨hp,g,d,tk,os⟩:=s;obtain⟨hl1,hl2,h⟩:=h
  have hsub:=sub_zip
  have hL1:Heap.IsTuple (Shared.heap ⟨hp,g,d,tk,os⟩) l1 xs:=hl1
  have hL2:Heap.IsList (Shared.heap ⟨hp.push { cls:=.type "tuple_iterator",data:=.fields #[.ref l1,.int 0 0] },g,d,tk,os⟩) l2 ys:=Heap.IsList.push hl2 _
  wp_walk using wpAny_pyIter_tuple hL1,wpAny_pyIter_list hL2
  exact⟨_,rfl,h⟩
section
variable {prog:Program}{w:World}{A:Around}{E:Value→Shared→Prop}{s:Shared}
theorem OK {l1 l2:Addr}{xs ys:Array Value}{Q:Value→Shared→Prop}(hl1:s.heap.IsTuple l1 xs)(hl2:s.heap.IsList l2 ys)
 (h:∀ h',IsZip h' (s.heap.objs.size+4) (s.heap.objs.size+2) (s.heap.objs.size+3) .none→IsPair h' (s.heap.objs.size+2) (.ref s.heap.objs.size) (.ref (s.heap.objs.size+1))→
  IsPair h' (s.heap.objs.size+3) .none .none→h'.IsTupleIter s.heap.objs.size l1 0→h'.IsListIter (s.heap.objs.size+1) l2 0→h'.objs.size=s.heap.objs.size+5→
  (∀ c o,s.heap.get? c=some o→h'.get? c=some o)→Q (.ref (s.heap.objs.size+4)) { s with heap:=h' }):
 wpAny (model prog w) A (call (.type "zip") [.ref l1,.ref l2]) Q E s:=by
 refine callType_new F.called_zip (by decide) (F.typeCall_zip_2 _ _) (F.newCall_zip_2 _ _) (fun obj=>F.args_object_init_3 obj _ _) F.entry_zip_new (MM l1 l2 xs ys) ⟨hl1,hl2,?_⟩
 have z1:(WU s.heap l1).objs.size=s.heap.objs.size+1:=Heap.size_push ..
 have z2:(WV s.heap l1 l2).objs.size=s.heap.objs.size+2:=by rw[Heap.size_push,z1]
 have z3:(WW s.heap l1 l2).objs.size=s.heap.objs.size+3:=by rw[Heap.size_push,z2]
 have z4:(WX s.heap l1 l2).objs.size=s.heap.objs.size+4:=by rw[Heap.size_push,z3]
 have z5:(TY s.heap l1 l2).objs.size=s.heap.objs.size+5:=by rw[Heap.size_push,z4]
 have g5:(TY s.heap l1 l2).get? (WX s.heap l1 l2).objs.size=some _:=Heap.get?_push_size _ rfl
 have g4:(TY s.heap l1 l2).get? (WW s.heap l1 l2).objs.size=some _:=Heap.get?_push_of_some _ (Heap.get?_push_size _ rfl)
 have g3:(TY s.heap l1 l2).get? (WV s.heap l1 l2).objs.size=some _:=Heap.get?_push_of_some _ (Heap.get?_push_of_some _ (Heap.get?_push_size _ rfl))
 have g2:(TY s.heap l1 l2).get? (WU s.heap l1).objs.size=some _:=Heap.get?_push_of_some _ (Heap.get?_push_of_some _ (Heap.get?_push_of_some _ (Heap.get?_push_size _ rfl)))
 have g1:(TY s.heap l1 l2).get? s.heap.objs.size=some _:=Heap.get?_push_of_some _ (Heap.get?_push_of_some _ (Heap.get?_push_of_some _ (Heap.get?_push_of_some _ (Heap.get?_push_size _ rfl))))
 show _∧_
 rw[z2,z3,z4]at g5
 rw[z1,z2]at g3
 rw[z3]at g4
 rw[z1]at g2
 rw[z4]
 exact⟨⟨_,g5,rfl⟩,h _ g5 g3 g4 ⟨_,g1,rfl,rfl⟩ ⟨_,g2,rfl,rfl⟩ z5 fun c o x=>
  Heap.get?_push_of_some _ (Heap.get?_push_of_some _ (Heap.get?_push_of_some _ (Heap.get?_push_of_some _ (Heap.get?_push_of_some _ x))))⟩
end
theorem VD {h h2:Heap}:∀ fs:List Addr,(∀ b∈fs,∃ o,h.get? b=some o)→(∀ b∈fs,∃ o,h2.get? b=some o∧o.isFreed=false)→
 ∃ mid:Heap,mid.objs.size=h.objs.size∧(∀ b∈fs,mid.get? b=h2.get? b)∧∀ b,b∉fs→mid.get? b=h.get? b
 | [],_,_=>⟨h,rfl,(fun _ hb=>nomatch hb),fun _ _=>rfl⟩
 | b::fs,h1,h2'=>by
  obtain⟨m,e1,e2,e3⟩:=VD fs (fun c hc=>h1 c (List.mem_cons_of_mem _ hc)) (fun c hc=>h2' c (List.mem_cons_of_mem _ hc))
  obtain⟨o,ho,hf⟩:=h2' b (by simp)
  obtain⟨o1,ho1⟩:∃ o1,m.get? b=some o1:=by
   by_cases c:b∈fs
   ·exact⟨o,(e2 b c).trans ho⟩
   ·obtain⟨o1,q⟩:=h1 b (by simp)
    exact⟨o1,(e3 b c).trans q⟩
  have hb:(m.update b fun _=>o).get? b=some o:=Heap.get?_update_self (fun _=>o) ho1 hf
  refine⟨m.update b fun _=>o,(Heap.size_update ..).trans e1,fun c hc=>?_,fun c hc=>?_⟩
  ·by_cases e:c=b
   ·subst e;exact hb.trans ho.symm
   ·rw[Heap.get?_update_ne _ _ _ _ e]
    rcases List.mem_cons.mp hc with z | z
    ·exact absurd z e
    ·exact e2 c z
  ·have e:c≠b:=fun z=>hc (by simp[z])
   rw[Heap.get?_update_ne _ _ _ _ e]
   exact e3 c fun z=>hc (List.mem_cons_of_mem _ z)
section
variable {X:Cx}{pins:List (Addr×Obj)}{σ:St}{H:Hp}{s:Shared}{h':Heap}
theorem Af.turnedL {t':Nat}{fs:List Addr}(I:Af X pins σ H s)(k:∀ b o,b∉fs→s.heap.get? b=some o→h'.get? b=some o)(ok:∀ b∈fs,EK X pins H b):Af X pins σ H { s with heap:=h',toks:=t' }:=by
 have nit:∀ b u,H b=some u→b∉fs:=fun b u e z=>by rw[(ok b z).1]at e;cases e
 refine I.step (g':=s.gens) (d':=s.drawn) (ch:=fs) (fun b hb=>?_) (fun b o _ _ hc e _=>k b o hc e) (fun b o _ _ hc e _=>⟨o.slots,k b o hc e⟩) (fun _ _ _ _ n=>n)
  (fun b o hc e=>⟨o,k b o hc e⟩) (fun _ _ e=>e) (fun _ _ _ e=>e) (fun b ps e=>⟨#[],by rw[e];simp⟩) (fun m hm=>?_) (fun b u e=>?_) I.bare
 ·obtain⟨f0,f1,f2,f3,f4,f5⟩:=ok b hb
  exact⟨f3,f1,f4,f5⟩
 ·obtain⟨o,es,ep,ho,r⟩:=hm
  exact⟨o,es,ep,k _ o (fun z=>(ok _ z).2.1 rfl) ho,r⟩
 ·refine(I.hok b u e).stay (fun c v hc q=>k c v ?_ q) (fun _ q=>q) fun _ _ q=>q
  rcases hc with z | z
  ·rw[z];exact nit b u e
  ·exact nit c _ z
end
def VE (K:PySem.W.Frag)(t l:Addr):It:=
 ⟨fun i H=>∃ xs ys x y,Ae K H t xs∧At K H l ys∧xs[i]?=some x∧ys[i]?=some y,
  fun i H v H'=>∃ x y b,(∀ xs,Ae K H t xs→xs[i]?=some x)∧(∀ ys,At K H l ys→ys[i]?=some y)∧H b=none∧v=.ref b∧H'=upd H b (.tup [x,y]),
  fun i H=>∃ xs ys,Ae K H t xs∧At K H l ys∧(xs.length≤i∨ys.length≤i)⟩
theorem Pk {P:Program}{w:World}{K:PySem.W.Frag}{els:List Expr}{x1}{pt:Pos}(t l z TI TO i1 i2:Addr)(D:ZipApart z TI TO i1 i2 t l):
 N2 P w K (.Tuple els x1 pt) (VE K t l) [z,TI,TO,i1,i2] z (fun i h=>IsZip h z TI TO .none∧IsPair h TI (.ref i1) (.ref i2)∧(∃ a b,IsPair h TO a b)∧h.IsTupleIter i1 t i∧h.IsListIter i2 l i) where
 mem:=by simp
 obj:=fun i h st b hb=>by
  obtain⟨h1,h2,⟨_,_,h3⟩,⟨o4,h4,_,d4⟩,⟨o5,h5,_,d5⟩⟩:=st
  have hb':b=z∨b=TI∨b=TO∨b=i1∨b=i2:=by simpa using hb
  rcases hb' with rfl | rfl | rfl | rfl | rfl
  ·exact⟨_,h1,fun v z=>by cases z⟩
  ·exact⟨_,h2,fun v z=>by cases z⟩
  ·exact⟨_,h3,fun v z=>by cases z⟩
  ·exact⟨_,h4,fun v z=>by rw[d4]at z;cases z⟩
  ·exact⟨_,h5,fun v z=>by rw[d5]at z;cases z⟩
 keep:=fun i h h' st k=>by
  obtain⟨h1,h2,⟨a,b,h3⟩,h4,h5⟩:=st
  exact⟨k z (by simp) _ h1,k TI (by simp) _ h2,⟨a,b,k TO (by simp) _ h3⟩,h4.at fun o q=>k i1 (by simp) o q,h5.at fun o q=>k i2 (by simp) o q⟩
 item:=by
  intro X hP hw hK hc i pins s σ H E I hf st hg
  subst hP hw hK
  obtain⟨xs,ys,x,y,hqx,hqy,hx,hy⟩:=hg
  obtain⟨hz,hTI,⟨a,b,hTO⟩,h1,h2⟩:=st
  obtain⟨its,rv,p,_⟩:=I.tuple hqx
  obtain⟨its2,rv2,p2,_⟩:=I.list hqy
  obtain⟨u,hu,ru⟩:=rv.get hx
  obtain⟨v,hv,rv'⟩:=rv2.get hy
  refine KE D hz hTI hTO h1 h2 (show s.heap.IsTuple t its.toArray from p) p2.isList (x:=u) (y:=v) (by simpa using hu) (by simpa using hv) fun h1' hz1 hTO1 hi1 hi2 hT1 hsz1 hk1=>⟨_,rfl,?_⟩
  refine wpAny_letOwnedTupleGo_zip (s:={ s with heap:=h1' }) hz1 fun h2' hz2 hs2=>?_
  replace hs2:Heap.SameBut z h1' h2':=hs2
  have zH:z<s.heap.objs.size:=Heap.lt_size hz
  have TOH:TO<s.heap.objs.size:=Heap.lt_size hTO
  have TIH:TI<s.heap.objs.size:=Heap.lt_size hTI
  have i1H:i1<s.heap.objs.size:=by obtain⟨_,q,_⟩:=id h1;exact Heap.lt_size q
  have i2H:i2<s.heap.objs.size:=by obtain⟨_,q,_⟩:=id h2;exact Heap.lt_size q
  have hTI2:IsPair h2' TI (.ref i1) (.ref i2):=hs2.extBut _ _ D.TIz (hk1 _ _ D.TIz D.TITO D.TIi1 D.TIi2 hTI)
  have hTO2:IsPair h2' TO u v:=hs2.extBut _ _ D.TOz hTO1
  have hi12:h2'.IsTupleIter i1 t (i+1):=hi1.extBut hs2.extBut D.i1z
  have hi22:h2'.IsListIter i2 l (i+1):=hi2.extBut hs2.extBut D.i2z
  have hT2:IsPair h2' s.heap.objs.size u v:=hs2.extBut _ _ (Nat.ne_of_gt zH) hT1
  obtain⟨o1,ho1,_,hd1⟩:=id hi12
  obtain⟨o2,ho2,_,hd2⟩:=id hi22
  obtain⟨mid,hm1,hm2,hm3⟩:=VD (h:=s.heap) (h2:=h2') [z,TI,TO,i1,i2] (fun b hb=>by
   have hb':b=z∨b=TI∨b=TO∨b=i1∨b=i2:=by simpa using hb
   rcases hb' with rfl | rfl | rfl | rfl | rfl
   ·exact⟨_,hz⟩
   ·exact⟨_,hTI⟩
   ·exact⟨_,hTO⟩
   ·obtain⟨o,q,_⟩:=id h1;exact⟨o,q⟩
   ·obtain⟨o,q,_⟩:=id h2;exact⟨o,q⟩) (fun b hb=>by
   have hb':b=z∨b=TI∨b=TO∨b=i1∨b=i2:=by simpa using hb
   rcases hb' with rfl | rfl | rfl | rfl | rfl
   ·exact⟨_,hz2,rfl⟩
   ·exact⟨_,hTI2,rfl⟩
   ·exact⟨_,hTO2,rfl⟩
   ·exact⟨_,ho1,Obj.isFreed_of_fields hd1⟩
   ·exact⟨_,ho2,Obj.isFreed_of_fields hd2⟩)
  have I1:Af X pins σ H { s with heap:=mid }:=I.turnedL (t':=s.toks) (fs:=[z,TI,TO,i1,i2]) (fun b o hb q=>(hm3 b hb).trans q) hf
  have k2:∀ b o,mid.get? b=some o→h2'.get? b=some o:=fun b o q=>by
   by_cases c:b∈[z,TI,TO,i1,i2]
   ·exact(hm2 b c).symm.trans q
   ·rw[hm3 b c]at q
    have c':b≠z∧b≠TI∧b≠TO∧b≠i1∧b≠i2:=by simpa using c
    exact hs2.extBut _ _ c'.1 (hk1 _ _ c'.1 c'.2.2.1 c'.2.2.2.1 c'.2.2.2.2 q)
  have fz:mid.objs.size≤s.heap.objs.size:=by rw[hm1];exact Nat.le_refl _
  have I3:Af X pins σ (upd H s.heap.objs.size (.tup [x,y])) { s with heap:=h2' }:=
   I1.laid (t':=s.toks) k2 fz (show A6 X.prog X.w _ h2' _ (.tup [x,y])from⟨by show 2≤sizeLine;rw[sizeLine_eq];decide,[u,v],.cons ru (.cons rv' .nil),⟨_,hT2,rfl,_,rfl⟩⟩)
  refine⟨.ref s.heap.objs.size,_,I3,rfl,⟨x,y,s.heap.objs.size,(fun zs hz=>by rw[I.tuple_inj hz hqx];exact hx),(fun zs hz=>by rw[I.list_inj hz hqy];exact hy),I.hok.fresh (Nat.le_refl _),rfl,rfl⟩,⟨hz2,hTI2,⟨_,_,hTO2⟩,hi12,hi22⟩,fun b hb=>?_⟩
  have lt:b<s.heap.objs.size:=by
   have hb':b=z∨b=TI∨b=TO∨b=i1∨b=i2:=by simpa using hb
   rcases hb' with rfl | rfl | rfl | rfl | rfl <;> assumption
  rw[AR (Nat.ne_of_lt lt)]
  exact(hf b hb).1
 done:=by
  intro X hP hw hK hc i pins s σ H E I hf st hg
  subst hP hw hK
  obtain⟨xs,ys,hqx,hqy,hx⟩:=hg
  obtain⟨hz,hTI,⟨a,b,hTO⟩,h1,h2⟩:=st
  obtain⟨its,rv,p,_⟩:=I.tuple hqx
  obtain⟨its2,rv2,p2,_⟩:=I.list hqy
  have l1:=rv.length
  have l2:=rv2.length
  refine LG (I.ok.hd hc) D hz hTI hTO h1 h2 (show s.heap.IsTuple t its.toArray from p) p2.isList (hx.imp (fun q=>by simp;omega) (fun q=>by simp;omega)) fun h' hk=>⟨rfl,?_⟩
  refine I.turnedL (t':=s.toks) (fs:=[z,TI,TO,i1,i2]) (fun b o hb q=>?_) hf
  have c':b≠z∧b≠TI∧b≠TO∧b≠i1∧b≠i2:=by simpa using hb
  exact hk _ _ c'.1 c'.2.2.1 c'.2.2.2.1 c'.2.2.2.2 q
 self:=fun _ _ _ _ _ st h=>wpAny_pyIter_zip st.1 h
section
variable {X:Cx}
def W8 (K:PySem.W.Frag)(ta:TA):TI:=fun σ H R=>ta σ H fun vs H1=>∃ t l,vs=[V.ref t,V.ref l]∧(∃ xs,Ae K H1 t xs)∧(∃ ys,At K H1 l ys)∧R (VE K t l) H1
theorem TZ {a c:Expr}{ta:TA}{p pos pt:Pos}{els:List Expr}{x1}(hg:Gl X "zip")(hm:X.mg "zip"=none)(hv:bootBuiltins "zip"=some (.type "zip"))(ha:PA X [a,c] ta)(hs:starEach [a,c] X.env=(false,eval a X.env)::starEach [c] X.env:=by rfl)(hs2:(backTo pos (starEach [c] X.env)).any (·.1)=false:=by rfl):
 PI X (.Tuple els x1 pt) (.Call (.Name "zip" p) [a,c] [] pos) (W8 X.K ta):=by
 intro pins s σ H R I h
 refine Call_ (Dp I hg hm hv (PyProof.Rows.callWith_type1 (BI (ha pos pins s σ H _ I h) fun us s1 zq=>?_) hs hs2))
 obtain⟨vs,H1,I1,r1,q1⟩:=zq
 obtain⟨t,l,e,⟨xs,hqx⟩,⟨ys,hqy⟩,q⟩:=q1
 subst e
 obtain⟨u,v,rfl,ru,rv⟩:=Am.two r1
 cases ru
 cases rv
 obtain⟨its,rv,pt',_⟩:=I1.tuple hqx
 obtain⟨its2,rv2,pl,_⟩:=I1.list hqy
 have tl:t<s1.heap.objs.size:=by obtain⟨o,q,_⟩:=(show s1.heap.IsTuple t its.toArray from pt');exact Heap.lt_size q
 have ll:l<s1.heap.objs.size:=by obtain⟨o,q,_⟩:=pl.isList;exact Heap.lt_size q
 refine OK (show s1.heap.IsTuple t its.toArray from pt') pl.isList fun h' hz hTI hTO hi1 hi2 hsz kp=>wpAny_pyIter_zip (s:={ s1 with heap:=h' }) hz ?_
 have I2:Af X pins σ H1 { s1 with heap:=h' }:=I1.kept (t':=s1.toks) kp
 generalize hn:s1.heap.objs.size=n at *
 have ge:∀ b∈[n+4,n+2,n+3,n,n+1],n≤b:=fun b hb=>by
  have hb':b=n+4∨b=n+2∨b=n+3∨b=n∨b=n+1:=by simpa using hb
  rcases hb' with rfl | rfl | rfl | rfl | rfl
  ·exact Nat.le_add_right _ _
  ·exact Nat.le_add_right _ _
  ·exact Nat.le_add_right _ _
  ·exact Nat.le_refl _
  ·exact Nat.le_add_right _ _
 have D:ZipApart (n+4) (n+2) (n+3) n (n+1) t l:=by
  have a1:t<n+4:=Nat.lt_of_lt_of_le tl (Nat.le_add_right _ _)
  have a2:l<n+4:=Nat.lt_of_lt_of_le ll (Nat.le_add_right _ _)
  have b1:t<n+3:=Nat.lt_of_lt_of_le tl (Nat.le_add_right _ _)
  have b2:l<n+3:=Nat.lt_of_lt_of_le ll (Nat.le_add_right _ _)
  have c1:t<n+1:=Nat.lt_of_lt_of_le tl (Nat.le_add_right _ _)
  have c2:l<n+1:=Nat.lt_of_lt_of_le ll (Nat.le_add_right _ _)
  have nn:∀{i j:Nat},i≠j→(n+i:Nat)≠n+j:=fun h z=>h (Nat.add_left_cancel z)
  exact⟨nn (by decide),nn (by decide),nn (i:=0) (by decide),nn (by decide),nn (by decide),nn (j:=0) (by decide),nn (by decide),nn (j:=0) (by decide),nn (by decide),nn (i:=0) (by decide),
   Nat.ne_of_lt a1,Nat.ne_of_lt b1,Nat.ne_of_lt tl,Nat.ne_of_lt c1,Nat.ne_of_lt a2,Nat.ne_of_lt b2,Nat.ne_of_lt ll,Nat.ne_of_lt c2⟩
 exact⟨n+4,_,_,_,H1,rfl,I2,Pk t l _ _ _ _ _ D,⟨hz,hTI,⟨_,_,hTO⟩,hi1,hi2⟩,fun b hb=>I1.fpOk (by rw[hn];exact ge b hb) (I1.hok.fresh (by rw[hn];exact ge b hb)),q⟩
theorem NU {K:PySem.W.Frag}{t l:Addr}{xs ys:List V}{g:TG}{tb:TS}{D:IF}{σ:St}{H:Hp}(Pv:Nat→St→Hp→Prop)(hxy:xs.length=ys.length)(h0:Pv 0 σ H)(hl:∀ i σ H,i≤xs.length→Pv i σ H→Ae K H t xs∧At K H l ys)
 (hs:∀ i x y σ H b,xs[i]?=some x→ys[i]?=some y→Pv i σ H→H b=none→g (.ref b) σ (upd H b (.tup [x,y])) fun σ2 H2=>tb { D with nx:=Pv (i+1),ct:=Pv (i+1),bk:=D.nx } σ2 H2) (hd:∀ σ H,Pv xs.length σ H→D.nx σ H):
 ∃ W:Nat→Nat→St→Hp→Prop,(∃ m,W 0 m σ H)∧∀ i m σ H,W i m σ H→
  ((VE K t l).stop i H∧D.nx σ H)∨((VE K t l).go i H∧∃ N:St→Hp→Prop,(∀ σ' H',N σ' H'→∃ m',m'<m∧W (i+1) m' σ' H')∧∀ x H',(VE K t l).yld i H x H'→g x σ H' fun σ2 H2=>tb { D with nx:=N,ct:=N,bk:=D.nx } σ2 H2):=by
 refine⟨fun i m σ H=>m=xs.length-i∧i≤xs.length∧Pv i σ H,⟨xs.length,by simp,Nat.zero_le _,h0⟩,?_⟩
 rintro i m σ H ⟨rfl,hi,p⟩
 obtain⟨qx,qy⟩:=hl i σ H hi p
 by_cases hlt:i<xs.length
 ·have hlt2:i<ys.length:=by omega
  refine .inr ⟨⟨xs,ys,xs[i],ys[i],qx,qy,by simp[hlt],by simp[hlt2]⟩,Pv (i+1),fun σ' H' p'=>⟨xs.length-(i+1),by omega,rfl,hlt,p'⟩,fun v H' y=>?_⟩
  obtain⟨x0,y0,b,y1,y2,hb,rfl,rfl⟩:=y
  exact hs i x0 y0 σ H b (y1 xs qx) (y2 ys qy) p hb
 ·have e:i=xs.length:=by omega
  subst e
  exact .inl ⟨⟨xs,ys,qx,qy,.inl (Nat.le_refl _)⟩,hd σ H p⟩
end
inductive RZ (H:Hp):Nat→V→V→Prop where
 | fl {n:Nat} {x:V} (h:BC x=true):RZ H n x x
 | rf {n:Nat} {a:Addr}:RZ H n (.ref a) (.ref a)
 | tp {n:Nat} {a b:Addr} {xs ys:List V} (h1:H a=some (.tup xs)) (h2:H b=some (.tup ys)) (hl:xs.length=ys.length)
  (hh:∀(j:Nat) (u v:V),xs[j]?=some u→ys[j]?=some v→RZ H n u v):RZ H (n+1) (.ref a) (.ref b)
section
variable {prog:Program}{w:World}{A:Around}{E:Value→Shared→Prop}{s:Shared}
theorem Ra:typeLookup (.type "list_reverseiterator") "__len__"=pure none:=by rw[typeLookup_type,builtinLookup_eq_fast];kernel_rfl
theorem Pl:typeLookup (.type "list_reverseiterator") "__length_hint__"=pure (some (.builtin "list_reverseiterator.__length_hint__")):=by rw[typeLookup_type,builtinLookup_eq_fast];kernel_rfl
theorem Pm {it l:Addr}{i:Int}{Q:Bool→Shared→Prop}(hit:s.heap.IsRevIter it l i)(h:Q false s):wpAny (model prog w) A (Builtin.List.listLengthHint (.ref it)) Q E s:=by
 unfold Builtin.List.listLengthHint
 refine wpAny_bind (wpAny_specialOf hit.typeIs Ra ?_)
 wp_delta
 refine wpAny_ite_split (fun hab=>absurd hab (by nofun)) (fun _=>?_)
 refine wpAny_ite_split (fun hab=>absurd hab (by decide)) (fun _=>?_)
 refine wpAny_bind (wpAny_specialOf hit.typeIs Pl ?_)
 generalize hid:("list_reverseiterator.__length_hint__":String)=id0
 wp_delta
 rw[show splitId id0=some ("list_reverseiterator","__length_hint__")from by subst hid;nofun]
 subst hid
 refine wpAny_bind (wpAny_isInstance (T:="list_reverseiterator") (b:=true) hit.typeIs (by rw[isSubtype_type];kernel_rfl) ?_)
 refine wpAny_ite_split (fun hab=>absurd hab (by decide)) (fun _=>?_)
 refine wpAny_ite_split (fun _=>?_) (fun hab=>absurd (by nofun) hab)
 refine wpAny_ite_split (fun hab=>absurd hab (by nofun)) (fun _=>?_)
 exact wpAny_pure h
end
section
variable {prog:Program}{w:World}{A:Around}{E:Value→Shared→Prop}{s:Shared}
theorem MN {R:Result→Shared→Prop}{it l:Addr}{items:Array Value}(hh:A.handled=none)(hit:s.heap.IsRevIter it l ((items.size:Int)-1))(hl:s.heap.IsList l items)(hne:l≠it)(hn:items.size≤sizeLine)
 (S:Addr) (hSi:S≠it) (hSl:S≠l) (res:Value) (c₀:Nat) (hS:s.heap.get? S=some { cls:=.type "list",data:=.seq #[] c₀ })
 (hR:∀ h' tk acc' c',(∀ b o,b≠S→b≠it→s.heap.get? b=some o→h'.get? b=some o)→h'.get? S=some { cls:=.type "list",dict:=none,data:=.seq acc' c',slots:=#[] }→
  ItemsOf (fun i v=>items[items.size-1-i]?=some v) acc' items.size→R (.ok (.ret res)) { s with heap:=h',toks:=tk }):
 wpAny (model prog w) A.in1 (Builtin.List.listExtendWith (.ref S) (.ref it) res)
  (fun fin s'=>match fin with | .done f=>R (.ok f) s' | .again c'=>c'.quiet=true∧codeAny (model prog w) A c' R s') (fun e s'=>R (.error e) s') s:=by
 have hSf:S∉[it,l]:=fun hm=>by
  rcases List.mem_cons.mp hm with e | hm
  ·exact hSi e
  ·exact hSl (List.mem_singleton.mp hm)
 have W:=(Walks.listRev (prog:=prog) (w:=w) (A:=A.in1) hh it l hne items).toS
 unfold Builtin.List.listExtendWith
 refine wpAny_bind (wpAny_typeOf (T:="list_reverseiterator") hit.typeIs ?_)
 have h1:Builtin.List.listSameRef (.ref S) (.ref it)=false:=by simp[Builtin.List.listSameRef,hSi]
 have h2:(Value.type "list_reverseiterator"==Value.type "list")=false:=by decide
 have h3:(Value.type "list_reverseiterator"==Value.type "tuple")=false:=by decide
 simp only[h1,h2,h3,Bool.or_false,Bool.false_eq_true,if_false]
 refine wpAny_bind (wpAny_pyIter_revIter hit ?_)
 refine wpAny_bind (wpAny_holding (Pm hit ?_))
 rw[if_neg (by nofun)]
 have e0:(items.size:Int)-1-((0:Nat):Int)=(items.size:Int)-1:=by omega
 refine wpAny_pure ⟨plainId_quiet F.plain_extend_loop _,codeAny_extend_loopS W hn S hSf res items.size 0 s #[] c₀ rfl (Nat.zero_le _) ⟨Nat.zero_le _,by rw[e0];exact hit,hl⟩ hS (ItemsOf.nil _) fun s' acc' c' hm hS' hacc=>?_⟩
 rw[Moved.eq_with hm]
 refine hR s'.heap s'.toks acc' c' (fun b o hb hb2 e=>hm.heap b o (fun hmem=>?_) e) hS' hacc
 rcases List.mem_cons.mp hmem with e' | hmem
 ·exact hb e'
 ·exact hb2 (List.mem_singleton.mp hmem)
theorem JJ {R:Result→Shared→Prop}{it l:Addr}{items:Array Value}(hh:A.handled=none)(hit:s.heap.IsRevIter it l ((items.size:Int)-1))(hl:s.heap.IsList l items)(hne:l≠it)(hn:items.size≤sizeLine)
 (S:Addr) (hSi:S≠it) (hSl:S≠l) (hS:s.heap.get? S=some { cls:=.type "list",data:=.seq #[] })
 (hR:∀ h' tk acc' c',(∀ b o,b≠S→b≠it→s.heap.get? b=some o→h'.get? b=some o)→h'.get? S=some { cls:=.type "list",dict:=none,data:=.seq acc' c',slots:=#[] }→
  ItemsOf (fun i v=>items[items.size-1-i]?=some v) acc' items.size→R (.ok (.ret .none)) { s with heap:=h',toks:=tk }):
 wpAny (model prog w) A.in1 (Builtin.«list.__init__» ⟨[.ref S,.ref it],[]⟩)
  (fun fin s'=>match fin with | .done f=>R (.ok f) s' | .again c'=>c'.quiet=true∧codeAny (model prog w) A c' R s') (fun e s'=>R (.error e) s') s:=by
 show wpAny _ _ (do let old ← Builtin.List.listItems (.ref S);Builtin.List.listUpdate (.ref S) (fun _=>#[]);letGo old.toList.reverse;Builtin.List.listExtendWith (.ref S) (.ref it) .none) _ _ s
 refine wpAny_bind ?_
 unfold Builtin.List.listItems
 refine wpAny_bind (wpAny_seqItems hS rfl (wpAny_pure ?_))
 show wpAny _ _ (updateSeq S (fun _=>#[]) >>= fun _=>letGo (#[]:Array Value).toList.reverse >>= fun _=>Builtin.List.listExtendWith (.ref S) (.ref it) .none) _ _ s
 refine wpAny_bind (wpAny_updateSeq hS rfl ?_)
 have hS₂:=Heap.get?_update_self (Obj.mapSeq (fun _=>(#[]:Array Value))) hS rfl
 have oth:∀ b o,b≠S→s.heap.get? b=some o→(s.heap.update S (Obj.mapSeq (fun _=>(#[]:Array Value)))).get? b=some o:=
  fun b o hb e=>(Heap.get?_update_other _ _ (Ne.symm hb)).trans e
 refine wpAny_bind (wpAny_letGo ?_)
 refine MN hh (hit.at fun o e=>oth _ o (Ne.symm hSi) e) (hl.at fun o e=>oth _ o (Ne.symm hSl) e) hne hn S hSi hSl .none _ hS₂ fun h' tk acc' c' hk hS' hacc=>?_
 exact hR h' tk acc' c' (fun b o hb hb2 e=>hk b o hb hb2 (oth b o hb e)) hS' hacc
theorem JK {Q:Value→Shared→Prop}{it l:Addr}{items:Array Value}(hh:A.handled=none)(hit:s.heap.IsRevIter it l ((items.size:Int)-1))(hl:s.heap.IsList l items)(hne:l≠it)(hn:items.size≤sizeLine)
 (hQ:∀ h' tk acc' c',(∀ b o,b≠it→s.heap.get? b=some o→h'.get? b=some o)→
  h'.get? s.heap.objs.size=some { cls:=.type "list",dict:=none,data:=.seq acc' c',slots:=#[] }→ItemsOf (fun i v=>items[items.size-1-i]?=some v) acc' items.size→Q (.ref s.heap.objs.size) { s with heap:=h',toks:=tk }):
 wpAny (model prog w) A (call (.type "list") [.ref it]) Q E s:=by
 refine callType_codes (Q₁:=fun obj s₁=>obj=.ref s.heap.objs.size∧s₁={ s with heap:=s.heap.push { cls:=.type "list",data:=.seq #[] } }) F.called_list (F.typeCall_list_1 _) F.entry_list_init
  (code_list_new _ ⟨rfl,rfl⟩) fun obj s₁ h₁=>?_
 obtain⟨rfl,rfl⟩:=h₁
 have hS:(s.heap.push { cls:=.type "list",data:=.seq #[] }).get? s.heap.objs.size=some { cls:=.type "list",data:=.seq #[] }:=Heap.get?_push_size _ rfl
 have i1:s.heap.objs.size≠it:=by obtain⟨o,q,_⟩:=hit;exact Nat.ne_of_gt (Heap.lt_size q)
 have i2:s.heap.objs.size≠l:=by obtain⟨o,q,_⟩:=hl;exact Nat.ne_of_gt (Heap.lt_size q)
 refine⟨⟨_,hS,rfl⟩,F.args_list_init_2 _ _,JJ (A:=A.in1) hh (hit.at fun o e=>Heap.get?_push_of_some _ e) (hl.at fun o e=>Heap.get?_push_of_some _ e) hne hn _ i1 i2 hS fun h' tk acc' c' hk hS' hacc=>?_⟩
 exact⟨rfl,hQ h' tk acc' c' (fun b o hb e=>hk b o (Nat.ne_of_lt (Heap.lt_size e)) hb (Heap.get?_push_of_some _ e)) hS' hacc⟩
end
theorem OL {its:List Value}{acc:Array Value}(h:ItemsOf (fun i v=>its.toArray[its.toArray.size-1-i]?=some v) acc its.toArray.size):acc=its.reverse.toArray:=by
 obtain⟨h1,h2⟩:=h
 apply Array.ext'
 rw[List.toList_toArray]
 apply List.ext_getElem?
 intro j
 have hz:acc.toList.length=its.length:=by rw[Array.length_toList,h1,List.size_toArray]
 by_cases c:j<its.length
 ·have hj:acc[j]?=some (acc[j]'(by rw[h1,List.size_toArray];exact c)):=Array.getElem?_eq_getElem _
  have e:=h2 j _ hj
  rw[List.getElem?_reverse c,Array.getElem?_toList,hj,← e]
  simp
 ·rw[List.getElem?_eq_none (by omega),List.getElem?_eq_none (by rw[List.length_reverse];omega)]
section
variable {X:Cx}
def VF (K:PySem.W.Frag)(te:TE):TE:=fun σ H Q=>te σ H fun x H1=>∃ a xs,x=.ref a∧At K H1 a xs∧∀ l,H1 l=none→Q (.ref l) (upd H1 l (.lst xs.reverse))
theorem LH:bootBuiltins "reversed"=some (.type "reversed"):=by nofun
theorem MO {e:Expr}{te:TE}{p p2 pos pos2:Pos}(hc:X.calm=true)(hg:Gl X "list")(hm:X.mg "list"=none)(hv:bootBuiltins "list"=some (.type "list"))(hg2:Gl X "reversed")(hm2:X.mg "reversed"=none)(he:PE X e te)
 (hs:starEach [e] X.env=(false,eval e X.env)::starEach [] X.env:=by rfl):
 PE X (.Call (.Name "list" p) [.Call (.Name "reversed" p2) [e] [] pos2] [] pos) (VF X.K te):=by
 intro pins s σ H Q I h
 refine wpAny_Call_Name_kw (Dp I hg hm hv ?_)
 refine PyProof.Rows.callWith_type1 ?_ rfl rfl
 show wpAny _ _ (spliced ((false,eval (.Call (.Name "reversed" p2) [e] [] pos2) X.env)::backTo pos (starEach [] X.env))) _ _ s
 refine Calls.spliced_cons ?_
 refine wpAny_Call_Name_kw (Dp I hg2 hm2 LH ?_)
 refine PyProof.Rows.callWith_type1 ?_ hs rfl
 rw[hs]
 show wpAny _ _ (spliced ((false,eval e X.env)::backTo pos2 (starEach [] X.env))) _ _ s
 refine Calls.spliced_cons (BI (he pins s σ H _ I h) fun u s1 ⟨x,H1,I1,r1,q1⟩=>Calls.spliced_nil ?_)
 obtain⟨a,xs,rfl,hq,q⟩:=q1
 cases r1
 obtain⟨its,rv,pl,hz⟩:=I1.list hq
 have hlen:=rv.length
 have hl:=pl.isList
 refine call_reversed_list hl (Calls.spliced_nil ?_)
 have la:a<s1.heap.objs.size:=by obtain⟨o,z,_⟩:=hl;exact Heap.lt_size z
 refine JK (items:=its.toArray) (I.ok.hd hc) ⟨_,Heap.get?_push_size _ rfl,rfl,rfl⟩ (hl.at fun o z=>Heap.get?_push_of_some _ z) (Nat.ne_of_lt la) (by rw[List.size_toArray];omega) fun h' tk acc' c' hk hS' hacc=>?_
 have e:=OL hacc
 subst e
 have hp:s1.heap.objs.size≤(s1.heap.push (revObj a ((its.toArray.size:Int)-1))).objs.size:=by rw[Heap.size_push];exact Nat.le_succ _
 refine⟨.ref _,_,I1.laid (t':=tk) (o:=.lst xs.reverse) (fun b o z=>hk b o (Nat.ne_of_lt (Heap.lt_size z)) (Heap.get?_push_of_some _ z)) hp ?_,rfl,q _ (I1.hok.fresh hp)⟩
 exact⟨by rw[List.length_reverse];exact hz,its.reverse,c',Pi rv,hS'⟩
end
def BM (mg:Str→Option Value)(base:Heap):Prop:=
 ∃ bm o,mg "__builtins__"=some (.ref bm)∧(bm≠builtinsNs∧bm≠mainGlobals)∧base.get? bm=some o∧o.cls=.type "module"∧o.dict=some builtinsNs∧o.data=.plain
def Jn (H:Hp)(q:Str)(c:Addr):Prop:=∃ o vs t,H c=some (.frz o (.own 0))∧o.data=.fields vs∧vs[1]?=some (.str q t)
def EA (H:Hp)(P:Addr)(q:Str):Prop:=∃ ps,H P=some (.tbl ps)∧TriplesOk ps.toList∧∀ pos cv,codeAmong pos ps.toList=some cv→∃ c,cv=.ref c∧Jn H q c
theorem Jn.keep {H H':Hp}{q:Str}{c:Addr}(x:Jn H q c)(h:∀ b o,H b=some (.frz o (.own 0))→H' b=some (.frz o (.own 0))):Jn H' q c:=by
 obtain⟨o,vs,t,e,r⟩:=x
 exact⟨o,vs,t,h _ _ e,r⟩
theorem EA.sm {H H':Hp}{P:Addr}{q:Str}(x:EA H P q)(h:AF H H'):EA H' P q:=by
 obtain⟨ps,e,t,k⟩:=x
 refine⟨ps,h _ _ e,t,fun pos cv z=>?_⟩
 obtain⟨c,e1,e2⟩:=k pos cv z
 exact⟨c,e1,e2.keep fun b o=>h b _⟩
theorem EA.nil {H:Hp}{P:Addr}{q:Str}(h:H P=some (.tbl #[])):EA H P q:=⟨#[],h,trivial,fun _ _ z=>by cases z⟩
theorem KF {a b:Int}{ta tb:Tok}{c:Value}:∀ l:List Value,TriplesOk l→TriplesOk (l++[.int a ta,.int b tb,c]):=fun l=>by
 fun_induction TriplesOk l with
 | case1=>intro _;exact trivial
 | case2 a t b u x BH ih=>intro h;exact ih h
 | case3=>intro h;exact h.elim
theorem MP {p:Pos}{a b:Int}{ta tb:Tok}{c cv:Value}:∀ l:List Value,TriplesOk l→codeAmong p (l++[.int a ta,.int b tb,c])=some cv→codeAmong p l=some cv∨cv=c:=fun l=>by
 fun_induction TriplesOk l with
 | case1=>
  intro _ h
  simp only[List.nil_append,codeAmong]at h
  split at h
  ·cases h;exact .inr rfl
  ·cases h
 | case2 a t b u x BH ih=>
  intro ht h
  simp only[List.cons_append,codeAmong]at h ⊢
  split at h
  ·rename_i hc;rw[if_pos hc];exact .inl h
  ·rename_i hc;rw[if_neg hc];exact ih ht h
 | case3=>intro h;exact h.elim
def VG (H:Hp)(q:Str)(f:Addr)(params:Arguments)(body:Expr)(scope:Scope)(cl:List (Str×Addr))(pm:Value):Prop:=
 ∃ c ctv,H f=some (.frz (PySem.W.kla_obj "<lambda>" q params body scope cl pm c ctv) (.own 0))∧Jn H q c
def W9 (P:Addr)(q:Str)(params:Arguments)(body:Expr)(scope:Scope)(cl:List (Str×Addr))(pm:Value):TE:=fun _ H Q=>EA H P q∧
 ∀ f H',H f=none→(∀ b o,b≠P→H b=some o→H' b=some o)→EA H' P q→VG H' q f params body scope cl pm→Q (.ref f) H'
section
variable {X:Cx}{pins:List (Addr×Obj)}{σ:St}{H:Hp}{s:Shared}
theorem Pn {P f c:Addr}{h1:Heap}{o oc:Obj}{ps:Array Value}{i j:Int}{ta tb:Tok}{tk:Nat}(I:Af X pins σ H s)(hP:H P=some (.tbl ps))
 (hx:Heap.ExtBut P s.heap h1) (hge:s.heap.objs.size≤c) (hlt:c<h1.objs.size) (hf:f=h1.objs.size) (hc:h1.get? c=some oc) (htb:h1.get? P=some (PySem.W.tabObj (ps++#[.int i ta,.int j tb,.ref c])))
 (hof:o.isFreed=false):
 Af X pins σ (upd (upd (upd H P (.tbl (ps++#[.int i ta,.int j tb,.ref c]))) c (.frz oc (.own 0))) f (.frz o (.own 0))) { s with heap:=h1.push o,toks:=tk }:=by
 subst hf
 have Plt:P<s.heap.objs.size:=I.hok.lt hP
 have hcP:c≠P:=fun z=>by rw[z]at hge;exact absurd Plt (Nat.not_lt.mpr hge)
 have hfP:h1.objs.size≠P:=fun z=>by rw[← z]at Plt;exact absurd (Nat.lt_trans Plt (Nat.lt_of_le_of_lt hge hlt)) (Nat.lt_irrefl _)
 have hfc:h1.objs.size≠c:=(Nat.ne_of_lt hlt).symm
 have other:∀ b,b<s.heap.objs.size→b≠P→(upd (upd (upd H P (.tbl (ps++#[.int i ta,.int j tb,.ref c]))) c (.frz oc (.own 0))) h1.objs.size (.frz o (.own 0))) b=H b:=fun b hb hne=>by
  rw[AR (Nat.ne_of_lt (Nat.lt_trans (Nat.lt_of_lt_of_le hb hge) hlt)),AR (Nat.ne_of_lt (Nat.lt_of_lt_of_le hb hge)),AR hne]
 have keep:∀ b u,b≠P→s.heap.get? b=some u→(h1.push o).get? b=some u:=fun b u hb e=>Heap.get?_push_of_some _ (hx b u hb e)
 have atP:(h1.push o).get? P=some (PySem.W.tabObj (ps++#[.int i ta,.int j tb,.ref c])):=Heap.get?_push_of_some _ htb
 have hPv:(upd (upd (upd H P (.tbl (ps++#[.int i ta,.int j tb,.ref c]))) c (.frz oc (.own 0))) h1.objs.size (.frz o (.own 0))) P=some (.tbl (ps++#[.int i ta,.int j tb,.ref c])):=by
  rw[AR hfP.symm,AR hcP.symm,AC]
 have nP:∀ b,H b=none→b≠P:=fun b n z=>by rw[z,hP]at n;cases n
 refine I.un (t':=tk) ⟨fun b u e n _ _=>keep b u (nP b n) e,fun b u e n _ _=>⟨u.slots,keep b u (nP b n) e⟩,fun b u e n _=>?_,fun b u e _=>?_,fun b xs e=>?_,fun b u xs e=>?_,fun b qs e=>?_⟩ fun b u e=>?_
 ·rw[other b (Heap.lt_size e) (nP b n)];exact n
 ·by_cases hb:b=P
  ·subst hb;exact⟨_,atP⟩
  ·exact⟨u,keep b u hb e⟩
 ·rw[other b (I.hok.lt e) fun z=>by rw[z,hP]at e;cases e];exact e
 ·rw[other b (I.hok.lt e) fun z=>by rw[z,hP]at e;cases e];exact e
 ·by_cases hb:b=P
  ·subst hb
   rw[hP]at e;cases e
   exact⟨_,hPv⟩
  ·exact⟨#[],by rw[other b (I.hok.lt e) hb,e];simp⟩
 ·by_cases hbf:b=h1.objs.size
  ·subst hbf
   rw[AC]at e;cases e
   exact⟨Heap.get?_push_size _ hof,_,Heap.get?_push_size _ hof⟩
  ·by_cases hbc:b=c
   ·subst hbc
    rw[AR hbf,AC]at e;cases e
    exact⟨Heap.get?_push_of_some _ hc,_,Heap.get?_push_of_some _ hc⟩
   ·by_cases hbP:b=P
    ·subst hbP
     rw[hPv]at e;cases e
     exact atP
    ·rw[AR hbf,AR hbc,AR hbP]at e
     refine(I.hok b u e).stay (fun d v hd q=>keep d v ?_ q) (fun d z=>?_) fun d xs z=>?_
     ·rcases hd with z | z
      ·rw[z];exact hbP
      ·intro y;rw[y,hP]at z;cases z
     ·rw[other d (I.hok.lt z) fun y=>by rw[y,hP]at z;cases z];exact z
     ·rw[other d (I.hok.lt z) fun y=>by rw[y,hP]at z;cases z];exact z
theorem Ta {params:Arguments}{body:Expr}{scope:Scope}{pos:Pos}{c P:Addr}{clos:List (Str×Addr)}(hdef:defaultsOf params X.env=([],[]))(hcl:closureFor scope X.env=pure clos)(hcode:X.env.code=.ref c)
 (C:PySem.W.CodeHd X.base c P) (B:BM X.mg X.base):PE X (.Lambda params body scope pos) (W9 P (X.env.qual++"<lambda>") params body scope clos ((X.mg "__name__").getD .none)):=by
 intro pins s σ H Q I h
 obtain⟨⟨ps,hP,ht,hall⟩,hq⟩:=h
 obtain⟨bm,ob,b1,⟨b2,b3⟩,b4,b5,b6,b7⟩:=B
 have hPh:s.heap.get? P=some (PySem.W.tabObj ps):=I.hok P _ hP
 have hgs:=I.mod.glob.keeps I.bk
 have hgP:mainGlobals≠P:=fun q=>by
  obtain⟨o,es,ep,e,hd,_⟩:=hgs
  rw[q,hPh]at e;cases e;cases hd
 have hbP:bm≠P:=fun q=>by
  have e:=I.bk _ _ b4
  rw[q,hPh]at e;cases e;cases b5
 have hb:s.heap.BuiltinsAt X.mg P:=⟨bm,ob,b1,b2,b3,hbP,I.bk _ _ b4,b5,b6,b7⟩
 refine PySem.W.kla_eval hdef ?_
 cases hf:codeAmong pos ps.toList with
 | none=>
  refine PySem.W.kla_makeFunction (mg:=X.mg) hcl I.ok.glob hgs hcode (C.keeps I.bk) hPh ht hf hgP hb fun c' ctv h' tk hx hge hlt hrec htb=>?_
  obtain⟨c₂,oc,vs,t,e2,hoc,hd,hv⟩:=hrec
  cases e2
  have Plt:P<s.heap.objs.size:=I.hok.lt hP
  have ltf:s.heap.objs.size<h'.objs.size:=Nat.lt_of_le_of_lt hge hlt
  have fnew:H h'.objs.size=none:=I.hok.fresh (Nat.le_of_lt ltf)
  have cnew:H c'=none:=I.hok.fresh hge
  have hcP:c'≠P:=fun z=>by rw[z]at hge;exact absurd Plt (Nat.not_lt.mpr hge)
  have hfP:h'.objs.size≠P:=fun z=>by rw[← z]at Plt;exact absurd (Nat.lt_trans Plt ltf) (Nat.lt_irrefl _)
  have I2:=Pn (tk:=tk) (o:=PySem.W.kla_obj "<lambda>" (X.env.qual++"<lambda>") params body scope clos ((X.mg "__name__").getD .none) c' ctv) I hP hx hge hlt rfl hoc htb rfl
  have hfc:c'≠h'.objs.size:=Nat.ne_of_lt hlt
  refine⟨.ref h'.objs.size,_,I2,rfl,hq _ _ fnew (fun b o hb e=>?_) ⟨ps++#[rawInt pos.line,rawInt pos.col,.ref c'],?_,?_,fun p cv z=>?_⟩ ⟨c',ctv,AC,oc,vs,t,?_,hd,hv⟩⟩
  ·rw[AR (AX e fnew),AR (AX e cnew),AR hb];exact e
  ·rw[AR hfP.symm,AR hcP.symm,AC];rfl
  ·rw[Array.toList_append];exact KF _ ht
  ·rw[Array.toList_append]at z
   rcases MP _ ht z with z | z
   ·obtain⟨d,e1,o,vs',t',e3,r⟩:=hall p cv z
    have ndP:d≠P:=fun y=>by rw[y,hP]at e3;cases e3
    exact⟨d,e1,o,vs',t',by rw[AR (AX e3 fnew),AR (AX e3 cnew),AR ndP];exact e3,r⟩
   ·exact⟨c',z,oc,vs,t,by rw[AR hfc,AC],hd,hv⟩
  ·rw[AR hfc,AC]
 | some cv=>
  obtain⟨c',rfl,o,vs,t,ec,r⟩:=hall pos cv hf
  refine PySem.W.kla_makeFunctionHit (mg:=X.mg) hcl I.ok.glob hgs hcode (C.keeps I.bk) hPh ht hf hb fun ctv h' tk hk hsz=>?_
  have fnew:H h'.objs.size=none:=I.hok.fresh hsz
  have k2:∀ b u,s.heap.get? b=some u→(h'.push (PySem.W.kla_obj "<lambda>" (X.env.qual++"<lambda>") params body scope clos ((X.mg "__name__").getD .none) c' ctv)).get? b=some u:=fun b u e=>Heap.get?_push_of_some _ (hk b u e)
  have sm:AF H (upd H h'.objs.size (.frz (PySem.W.kla_obj "<lambda>" (X.env.qual++"<lambda>") params body scope clos ((X.mg "__name__").getD .none) c' ctv) (.own 0))):=fun b u e=>by rw[AR (AX e fnew)];exact e
  have I2:=I.laid (t':=tk) (a:=h'.objs.size) (o:=.frz (PySem.W.kla_obj "<lambda>" (X.env.qual++"<lambda>") params body scope clos ((X.mg "__name__").getD .none) c' ctv) (.own 0)) k2 hsz ⟨Heap.get?_push_size _ rfl,_,Heap.get?_push_size _ rfl⟩
  exact⟨.ref h'.objs.size,_,I2,rfl,hq _ _ fnew (fun b o _ e=>sm b o e) (EA.sm ⟨ps,hP,ht,hall⟩ sm) ⟨c',ctv,AC,o,vs,t,sm _ _ ec,r⟩⟩
end
def Rb (q:Str)(o:Obj):Bool:=match o.data with
 | .func fd=>fd.qualname==q
 | .fields vs=>(match (vs[1]?:Option Value)with
  | some (.str z _)=>z==q
  | _=>false)
 | _=>false
def kn (q:Str):Option HO→Option Obj
 | some (.frz o (.own 0))=>if Rb q o=true then some o else none
 | _=>none
section
variable {q:Str}
theorem Ht {x:Option HO}{o:Obj}(h:kn q x=some o):x=some (.frz o (.own 0)):=by
 unfold kn at h
 split at h
 ·split at h
  ·cases h;rfl
  ·cases h
 ·cases h
theorem SY {H:Hp}{b:Addr}{o:Obj}(h:H b=some (.frz o (.own 0)))(w:Rb q o=true):kn q (H b)=some o:=by rw[h];unfold kn;exact if_pos w
theorem Po {o:Obj}{vs:Array Value}{t:Tok}{z:Str}(d:o.data=.fields vs)(h:vs[1]?=some (.str z t)):Rb q o=(z==q):=by
 unfold Rb
 rw[d]
 dsimp only
 rw[h]
def Kr (q:Str)(H:Hp):Hp:=fun b=>if(kn q (H b)).isSome=true then none else H b
def put (q:Str)(H H':Hp):Hp:=fun b=>match kn q (H b)with
 | some o=>some (.frz o (.own 0))
 | none=>H' b
theorem MQ {H:Hp}{b:Addr}{o:Obj}(h:kn q (H b)=some o):Kr q H b=none:=if_pos (by rw[h];rfl)
theorem KG {H:Hp}{b:Addr}(h:kn q (H b)=none):Kr q H b=H b:=if_neg (by rw[h];exact Bool.false_ne_true)
theorem IT {H:Hp}{b:Addr}{o:HO}(h:H b=some o)(n:kn q (some o)=none):Kr q H b=some o:=by rw[KG (by rw[h];exact n),h]
theorem Cn {H:Hp}{b:Addr}(h:H b=none):Kr q H b=none:=by
 unfold Kr
 split
 ·rfl
 ·exact h
theorem Pp {H:Hp}{b:Addr}{o:HO}(h:Kr q H b=some o):H b=some o∧kn q (H b)=none:=by
 unfold Kr at h
 split at h
 ·cases h
 ·rename_i n
  refine⟨h,?_⟩
  cases w:kn q (H b)with
  | none=>rfl
  | some u=>exact absurd (by rw[w];rfl) n
theorem MR {H H':Hp}{b:Addr}{o:Obj}(h:kn q (H b)=some o):put q H H' b=some (.frz o (.own 0)):=by
 unfold put
 rw[h]
theorem De {H H':Hp}{b:Addr}(h:kn q (H b)=none):put q H H' b=H' b:=by
 unfold put
 rw[h]
end
structure NV (X:Cx)(σ:St)(q:Str)(H:Hp)(base':Heap):Prop where
 sub:∀ b o,X.base.get? b=some o→base'.get? b=some o
 sz:X.base.objs.size≤base'.objs.size
 mod:Mod X.K X.mg base'
 old:Mod X.K X.mg X.base
 new:∀ b o,kn q (H b)=some o→base'.get? b=some o
 cel:∀ x c,X.env.cells.lookup x=some c→∃ v,base'.IsCell c v
 val:∀(i:Nat) (x:Str) (v:V) (c:Addr),X.N[i]?=some x→σ[i]?=some (some v)→X.env.scope.names.lookup x=some .cell→X.env.cells.lookup x=some c→∃ u,Ai v u∧base'.IsCell c (some u)
 inj:∀ x y c,X.env.cells.lookup x=some c→X.env.cells.lookup y=some c→x=y
section
variable {P:Program}{w:World}{K:PySem.W.Frag}{mg:Str→Option Value}{base base':Heap}{k:Nat}{f:Addr}{fd:FuncData}{ps:List Str}{sp:Sp}
def FV (P:Program)(w:World)(K:PySem.W.Frag)(mg:Str→Option Value)(base:Heap)(k:Nat)(f:Addr)(sp:Sp):Prop:=
 ∃ fd ps oc od sl,base.get? f=some ⟨oc,od,.func fd,sl⟩∧(∀(s:Shared) (us:List Value),K.In s.heap→us.length=ps.length→BindsTo s fd ⟨us,[]⟩ (ps.zip us))∧Ao P w K mg base Bc k f fd ps sp
end
theorem Jo {h base base':Heap}:∀{l:List Env},h.FunFrames base l→(∀ b∈Hm l,base'.get? b=none)→h.FunFrames base' l
 | [],_,_=>trivial
 | _::_,⟨a,⟨L,o,f,n,e,d⟩,r⟩,hn=>⟨a,⟨L,o,f,hn L (by unfold Hm;rw[List.filterMap_cons,f];exact List.mem_cons_self),e,d⟩,Jo r fun b hb=>hn b (by unfold Hm;rw[List.filterMap_cons,f];exact List.mem_cons_of_mem _ hb)⟩
theorem Rc {q:Str}{P:Program}{w:World}{H:Hp}{h:Heap}(x:Eh P w H h):Eh P w (Kr q H) h:=fun b o e=>by
 obtain⟨e1,_⟩:=Pp e
 exact(x b o e1).stay (fun _ _ _ e=>e) (fun c e=>IT e rfl) fun c xs e=>IT e rfl
section
variable {X:Cx}{pins:List (Addr×Obj)}{σ:St}{H:Hp}{s:Shared}{q:Str}
def Tb (X:Cx)(q:Str)(H:Hp)(s:Shared):Heap:=PySem.W.hideAll (HU s.heap (Kr q H)) (Hm X.stack)
theorem MS {b:Addr}{o:Obj}(e:s.heap.get? b=some o)(n:Kr q H b=none)(hb:b∉Hm X.stack):(Tb X q H s).get? b=some o:=PySem.W.hideAll_get _ (Kv e n) hb
theorem Tc {b:Addr}{o:Obj}(e:(Tb X q H s).get? b=some o):s.heap.get? b=some o∧Kr q H b=none:=M9 (PySem.W.of_hideAll _ e)
theorem LI:(Tb X q H s).objs.size=s.heap.objs.size:=(PySem.W.hideAll_size _ _).trans (JX _ _)
theorem Af.wider (I:Af X pins σ H s)(hfn:∀ x,X.fn x=true):NV X σ q H (Tb X q H s):=by
 have nst:∀ b,b≠X.env.locals→b∉X.fs→b∉Hm X.stack:=fun b h1 h2 z=>(List.mem_cons.mp (I.stkSub b z)).elim h1 h2
 have sub:∀ b o,X.base.get? b=some o→(Tb X q H s).get? b=some o:=fun b o e=>by
  obtain⟨e1,n⟩:=I.bs b o e
  refine MS e1 (Cn n) (nst b (fun z=>?_) (I.ok.nofr e))
  have h1:=Heap.lt_size e
  rw[z]at h1
  exact absurd (Nat.lt_of_lt_of_le h1 (Nat.le_trans I.ok.bsz I.ok.above)) (Nat.lt_irrefl _)
 have cst:∀ x c,X.env.cells.lookup x=some c→c∉Hm X.stack:=fun x c e=>nst c (I.cne x c e) fun z=>by
  obtain⟨_,o,ho,_⟩:=I.ok.funs.mem z
  exact absurd (Nat.lt_of_lt_of_le (Heap.lt_size ho) (I.ok.cab x c (hfn x) e)) (Nat.lt_irrefl _)
 have cin:∀ x c v,X.env.cells.lookup x=some c→s.heap.IsCell c v→(Tb X q H s).IsCell c v:=fun x c v e ⟨o,ho,hd⟩=>⟨o,MS ho (Cn (I.freeC x c e)) (cst x c e),hd⟩
 refine⟨sub,?_,⟨I.ok.mod.kin.keeps sub,I.ok.mod.glob.keeps sub,?_,I.ok.mod.nolimit.keeps sub⟩,I.ok.mod,fun b o e=>?_,fun x c e=>?_,fun i x v c e1 e2 e3 e4=>?_,I.ok.inj⟩
 ·rw[LI];exact Nat.le_trans I.ok.bsz I.sz
 ·obtain⟨mb,h1,h2⟩:=I.ok.mod.blt
  exact⟨mb,h1.keeps sub,h2⟩
 ·have e1:=Ht e
  refine MS (I.hok _ _ e1).1 (MQ e) fun z=>?_
  rw[I.stkFree b z]at e1;cases e1
 ·obtain⟨v,hv⟩:=I.cell x c e
  exact⟨v,cin x c v e hv⟩
 ·obtain⟨m,hn,hl⟩:=I.loc
  obtain⟨u,r,l⟩:=hl i x v e1 e2 (.inr (.inl e3))
  refine⟨u,r,?_⟩
  rcases l with⟨k,_⟩ | ⟨_,c',ec,z⟩
  ·have k':X.env.scope.names.lookup x=some .local:=k
   rw[e3]at k';cases k'
  ·rw[e4]at ec;cases ec
   exact cin x c _ e4 z
theorem Af.envL (I:Af X pins σ H s)(hfn:∀ x,X.fn x=true):IL X.prog X.w X.K X.mg (Tb X q H s) X.A X.stack s (Kr q H):=
 ⟨I.ok.frames,(I.wider (q:=q) hfn).mod,fun _ _ e=>Tc e,Nat.le_of_eq LI,Jo I.stack fun _ hb=>PySem.W.hideAll_none _ hb,fun b hb=>Cn (I.stkFree b hb),Rc I.hok,I.bare⟩
theorem Af.afterL {Q:VK}{u:Value}{s':Shared}(I:Af X pins σ H s)(h:CE X.stack X.prog X.w (Kr q H) s (fun v H2=>(∀ b o,kn q (H b)=some o→H2 b=none)→Q v (put q H H2)) u s'):EP X pins σ Q u s':=by
 obtain⟨v,H',os,bare,un,hok,r,qq⟩:=h
 have nkn:∀ b o,H b=some o→kn q (some o)=none→kn q (H b)=none:=fun b o e n=>by rw[e];exact n
 have kfree:∀ b o,kn q (H b)=some o→s.heap.get? b=some o∧H' b=none∧s'.heap.get? b=some o:=fun b o e=>by
  have e1:=Ht e
  have e2:=(I.hok _ _ e1).1
  refine⟨e2,un.free b o e2 (MQ e) (by simp),un.keep b o e2 (MQ e) (fun z=>?_) (by simp)⟩
  rw[I.stkFree b z]at e1;cases e1
 refine I.after ⟨v,put q H H',os,bare,⟨fun b o e n=>un.keep b o e (Cn n),fun b o e n=>un.slot b o e (Cn n),fun b o e n hx=>?_,un.there,fun b xs e=>?_,fun b o w e=>?_,fun b ps e=>?_⟩,fun b o e=>?_,r,qq fun b o e=>(kfree b o e).2.1⟩
 ·rw[De (by rw[n];rfl)];exact un.free b o e (Cn n) hx
 ·rw[De (nkn b _ e rfl)];exact un.tups b xs (IT e rfl)
 ·cases z:kn q (H b)with
  | none=>rw[De z];exact un.frzs b o w (by rw[KG z];exact e)
  | some u=>
   rw[MR z]
   rw[Ht z]at e
   exact e
 ·rw[De (nkn b _ e rfl)];exact un.tbls b ps (IT e rfl)
 ·cases z:kn q (H b)with
  | none=>
   rw[De z]at e
   have np:∀ c u,H' c=some u→kn q (H c)=none:=fun c u ec=>by
    cases y:kn q (H c)with
    | none=>rfl
    | some w=>rw[(kfree c w y).2.1]at ec;cases ec
   exact(hok b o e).stay (fun _ _ _ e=>e) (fun c e=>by rw[De (np c _ e)];exact e) fun c xs e=>by rw[De (np c _ e)];exact e
  | some u=>
   rw[MR z]at e;cases e
   exact⟨(kfree b u z).2.2,_,(kfree b u z).2.2⟩
end
def Pq (P:Program)(w:World)(K:PySem.W.Frag)(mg:Str→Option Value)(base:Heap)(N:List Str)(q:Str)(scope:Scope)(f:Addr)(cd:Value)(cl:List (Str×Addr))(A:Around)(outer:List Env)(s:Shared)(H:Hp):Cx where
 prog:=P
 w:=w
 K:=K
 mg:=mg
 base:=base
 A:=A.deeper (PySem.W.envX q scope s.heap.objs.size f cd cl)
 N:=N
 s₀:=s
 H₀:=H
 env:=PySem.W.envX q scope s.heap.objs.size f cd cl
 outer:=outer
 stack:=PySem.W.envX q scope s.heap.objs.size f cd cl::outer
 ex:=[]
 calm:=true
 fn:=fun _=>false
 pn:=[]
 xe:=fun _ _=>False
structure Pr (X:Cx)(scope:Scope)(cl:List (Str×Addr))(ps fv:List Str)(js:List Nat):Prop where
 kind:scope.kind=.function
 co:scope.isCoroutine=false
 gen:scope.isGenerator=false
 nc:∀ y∈scope.names,y.2≠.cell
 par:∀ y∈ps,scope.names.lookup y=some .local
 fr:∀ y∈scope.names,y.2=.free→y.1∈fv
 nd:(ps++fv).Nodup
 vis:∀ y∈fv,scope.names.lookup y=some .free∧X.env.scope.names.lookup y=some .cell∧(cl.lookup y).isSome=true
 cls:∀ p∈cl,X.env.cells.lookup p.1=some p.2
 sl:Paired (fun y j=>X.N[j]?=some y) fv js
theorem HI:∀(ps:List Str) (us:List Value),List.Sublist ((ps.zip us).map (·.1)) ps
 | [],_=>.slnil
 | _::_,[]=>List.nil_sublist _
 | p::ps,u::us=>.cons₂ p (HI ps us)
theorem LJ {x:Str}{u:Value}:∀{ps:List Str} {us:List Value} {i:Nat},ps.Nodup→ps[i]?=some x→us[i]?=some u→(ps.zip us).reverse.lookup x=some u:=fun {ps us i} nd h1 h2=>by
 have hm:(x,u)∈ps.zip us:=by
  refine List.mem_of_getElem? (i:=i) ?_
  rw[List.getElem?_zip_eq_some]
  exact⟨h1,h2⟩
 have nd2:((ps.zip us).reverse.map (·.1)).Nodup:=by
  rw[List.map_reverse]
  refine List.nodup_iff_pairwise_ne.mpr (List.pairwise_reverse.mpr (List.Pairwise.imp (fun h=>Ne.symm h) (List.nodup_iff_pairwise_ne.mp ?_)))
  exact List.Nodup.sublist (HI ps us) nd
 have go:∀ l:List (Str×Value),(l.map (·.1)).Nodup→(x,u)∈l→l.lookup x=some u:=by
  intro l
  induction l with
  | nil=>intro _ h;cases h
  | cons p r ih=>
   intro hn h
   obtain⟨y,v⟩:=p
   rw[List.map_cons,List.nodup_cons]at hn
   rcases List.mem_cons.mp h with e | e
   ·cases e;simp[List.lookup_cons]
   ·have ne:(x==y)=false:=by
     cases q:x==y with
     | false=>rfl
     | true=>exact absurd (eq_of_beq q▸List.mem_map_of_mem (f:=(·.1)) e) hn.1
    simp only[List.lookup_cons,ne]
    exact ih hn.2 e
 exact go _ nd2 (List.mem_reverse.mpr hm)
theorem NV.lam {X:Cx}{σ:St}{Hk:Hp}{base':Heap}{k:Nat}{f c:Addr}{q:Str}{params:Arguments}{body:Expr}{scope:Scope}{cl:List (Str×Addr)}{pm ctv:Value}{ps fv:List Str}{js:List Nat}{sp:Sp}(W:NV X σ q Hk base')
 (hf:Hk f=some (.frz (PySem.W.kla_obj "<lambda>" q params body scope cl pm c ctv) (.own 0))) (hc:Jn Hk q c) (S:Pr X scope cl ps fv js)
 (hbind:∀ us:List Value,us.length=ps.length→bindArgs (PySem.W.kla_fn "<lambda>" q params body scope cl pm (.ref c) ctv) ⟨us,[]⟩=pure (ps.zip us)) (len:∀ vs H Q E,sp vs H Q E→vs.length=ps.length)
 (hbody:∀(A:Around) (outer:List Env) (s:Shared) (H:Hp) (vs:List V) (Q:VK) (E:XK),BY k (A.deeper (PySem.W.envX q scope s.heap.objs.size f (.ref c) cl))→sp vs H Q E→
  ∃ te,PE (Pq X.prog X.w X.K X.mg base' (ps++fv) q scope f (.ref c) cl A outer s H) body te∧te (vs.map some++JH js σ) H Q):FV X.prog X.w X.K X.mg base' (k+1) f sp:=by
 obtain⟨oc,vc,tc,ec,dc,qc⟩:=hc
 have bf:=W.new f _ (SY hf (show(q==q)=true from beq_self_eq_true q))
 have bc:=W.new c _ (SY ec ((Po dc qc).trans (beq_self_eq_true q)))
 refine⟨_,ps,_,_,_,bf,fun s us _ hl=>.of_eq (hbind us hl),len,fun A outer s H args us vs Q E hr e0 hb r hsp=>?_⟩
 have hl:=len _ _ _ _ hsp
 have lim:s.heap.NoLimit:=e0.mod.nolimit.keeps fun b o e=>(e0.bs b o e).1
 have hps:us.length=ps.length:=by rw[← r.length];exact hl
 refine PySem.W.kla_callFunE hr.depth (e0.bs _ _ bf).1 rfl S.co S.gen rfl ⟨c,oc,vc,tc,rfl,(e0.bs _ _ bc).1,dc,qc⟩ (hb _ _ _ _ ?_)
 refine wpAny_newFunctionEnv S.nc (fun y hy=>S.par y.1 (List.of_mem_zip hy).1) (fun h₁ hns hsb=>⟨lim.fresh _ hsb,?_⟩) S.kind
 have hk₁:∀ b o,s.heap.get? b=some o→h₁.get? b=some o:=fun b o e=>hsb.extBut b o (Nat.ne_of_lt (Heap.lt_size e)) (Heap.get?_push_of_some _ e)
 obtain⟨te,hte,hq⟩:=hbody A outer s H vs Q E (hr.deeper _) hsp
 have cellOf:∀ y cc,cl.lookup y=some cc→X.env.cells.lookup y=some cc:=fun y cc e=>S.cls (y,cc) (PySem.mem_of_lookup e)
 have noA:∀ b:Addr,b∉(Pq X.prog X.w X.K X.mg base' (ps++fv) q scope f (.ref c) cl A outer s H).ex:=fun b z=>absurd (show b∈([]:List Addr)from z) (by simp)
 have I:Af (Pq X.prog X.w X.K X.mg base' (ps++fv) q scope f (.ref c) cl A outer s H) [] (vs.map some++JH js σ) H { s with heap:=h₁,toks:=s.toks+(ps.zip us).length }:=by
  refine⟨⟨e0.mod,S.kind,rfl,rfl,Nat.le_refl _,fun y z d h1 h2=>W.inj y z d (cellOf y d h1) (cellOf z d h2),fun y hy=>?_,fun y d h=>absurd (show false=true from h) Bool.false_ne_true,fun _=>hr.hd,Around.frames_deeper e0.frames,.inr ⟨rfl,rfl⟩,fun b z=>absurd z (noA b),e0.bs,e0.bsz,
   fun b _ _=>noA b,fun b z=>absurd z (noA b),e0.funs,e0.frf⟩,rfl,e0.bare,Un.kept hk₁,⟨_,hns,fun i y v h1 h2 h3=>?_⟩,fun y d h=>?_,e0.hok.fresh (Nat.le_refl _),fun y d h=>?_,fun p hp=>absurd (show p∈([]:List (Addr×Obj))from hp) (by simp),e0.hok.kept hk₁,?_⟩
  ·have hy':scope.names.lookup y=some .cell∨scope.names.lookup y=some .free:=hy
   rcases hy' with z | z
   ·exact absurd rfl (S.nc _ (PySem.mem_of_lookup z))
   ·exact Option.isSome_iff_exists.mp (S.vis y (S.fr _ (PySem.mem_of_lookup z) rfl)).2.2
  ·have h1':(ps++fv)[i]?=some y:=h1
   by_cases hi:i<ps.length
   ·rw[List.getElem?_append_left hi]at h1'
    rw[List.getElem?_append_left (by rw[List.length_map,hl];exact hi),List.getElem?_map]at h2
    have h2':vs[i]?=some v:=by
     cases z:vs[i]? with
     | none=>rw[z]at h2;cases h2
     | some a=>rw[z]at h2;cases h2;rfl
    obtain⟨u,hu,rv⟩:=r.get h2'
    have nd:ps.Nodup:=(List.nodup_append.mp S.nd).1
    exact⟨u,rv,.inl ⟨S.par y (List.mem_of_getElem? h1'),LJ nd h1' hu⟩⟩
   ·have hi':ps.length≤i:=Nat.not_lt.mp hi
    rw[List.getElem?_append_right hi']at h1'
    rw[List.getElem?_append_right (by rw[List.length_map,hl];exact hi'),List.length_map,hl]at h2
    obtain⟨j,hj,hN⟩:=IQ S.sl h1'
    have hv:σ[j]?=some (some v):=by
     unfold JH at h2
     rw[List.getElem?_map,hj]at h2
     have z':(σ[j]?).getD none=some v:=Option.some.inj h2
     cases z:σ[j]? with
     | none=>rw[z]at z';cases z'
     | some o=>rw[z]at z';exact congrArg some z'
    obtain⟨hfree,hcell,hsome⟩:=S.vis y (List.mem_of_getElem? h1')
    obtain⟨d,hd⟩:=Option.isSome_iff_exists.mp hsome
    obtain⟨u,ru,o,ho,hdt⟩:=W.val j y v d hN hv hcell (cellOf y d hd)
    exact⟨u,ru,.inr ⟨.inr hfree,d,hd,o,hk₁ _ _ (e0.bs _ _ ho).1,hdt⟩⟩
  ·obtain⟨v,o,ho,hd⟩:=W.cel y d (cellOf y d h)
   exact⟨v,o,hk₁ _ _ (e0.bs _ _ ho).1,hd⟩
  ·obtain⟨v,o,ho,hd⟩:=W.cel y d (cellOf y d h)
   exact(e0.bs _ _ ho).2
  ·show(vs.map some++JH js σ).length=(ps++fv).length
   have:fv.length=js.length:=Paired.length S.sl
   simp[JH,this,hl]
 refine PySem.W.kla_codeExpr (wpAny_mono (hte [] _ _ H Q I hq) (fun v s' hs=>?_) fun e s' hs=>False.elim hs)
 obtain⟨x,H',J,rv,qv⟩:=hs
 exact⟨x,H',J.os,J.bare,J.base,J.hok,rv,qv⟩
section
variable {P:Program}{w:World}{K:PySem.W.Frag}{mg:Str→Option Value}{base:Heap}
theorem Fun.okC {x qual:Str}{st:Stmt}{f:Addr}{fd:FuncData}{N ps:List Str}{k:Nat}{sp:Sp}(F:Fun K x qual st f fd)(S:AW N ps (AI st))(len:∀ vs H Q E,sp vs H Q E→vs.length=ps.length)
 (hbody:∀(cdv:Value) (A:Around) (outer:List Env) (s:Shared) (H:Hp) (vs:List V) (Q:VK) (E:XK),fd.code=cdv→BY k (A.deeper (envOfC qual (AI st) s.heap.objs.size f cdv))→sp vs H Q E→
  ∃ t,Ky (IM Bc P w K mg base N qual (AI st) f cdv A outer s H E).nox (Bm st) t∧t { nx:=fun _ H'=>Q .non H',rt:=Q } (Eo N vs) H):Ao P w K mg base Bc (k+1) f fd ps sp:=by
 obtain⟨oc,od,kV,doc,pm,an,cdv,ct,osl,rfl,lk,hcd⟩:=F.ex
 refine SU lk hcd S len fun A outer s H vs Q E hr hsp=>?_
 obtain⟨t,h,q⟩:=hbody cdv A outer s H vs Q E rfl hr hsp
 exact⟨t,h.nox,q⟩
theorem Re {x qual:Str}{st:Stmt}{f c T:Addr}{fd:FuncData}(F:Fun K x qual st f fd)(hn:PySem.W.nsIn K mainGlobals x=some (some (.ref f)))(ht:PySem.W.tabIn K x=some (c,T)):fd.code=.ref c:=by
 obtain⟨oc,od,kV,doc,pm,an,cdv,ct,osl,rfl,lk,hcd⟩:=F.ex
 unfold PySem.W.tabIn at ht
 rw[hn]at ht
 dsimp only at ht
 rw[lk]at ht
 dsimp only at ht
 split at ht
 ·rename_i c' e
  split at ht
  ·split at ht
   ·cases ht
    rfl
   ·cases ht
  ·cases ht
 ·cases ht
end
theorem Td {p:Program}{x:Str}(h:(recsOf p).any (fun e=>e.name==x)=true):∃ d,(recsOf p).find? (fun e=>e.name==x)=some d:=by
 obtain⟨d,hd,e⟩:=List.any_eq_true.mp h
 cases q:(recsOf p).find? (fun e=>e.name==x)with
 | some u=>exact⟨u,rfl⟩
 | none=>exact absurd e (by simpa using List.find?_eq_none.mp q d hd)
theorem OM {P:Program}{w:World}{K:PySem.W.Frag}{mg mb:Str→Option Value}{CX:OA}{k:Nat}{fa a:Addr}{fd:FuncData}{x:Str}{sp:Sp}{s₁:Shared}{vs:List Value}{ns:List Int}{tabs:List (Addr×Addr)}
 (KX:K.In s₁.heap) (hns:s₁.heap.Ns mainGlobals mg) (hb:s₁.heap.Ns builtinsNs mb) (hbb:∀ x:Str,x≠"__name__"→mb x=bootBuiltins x) (hlim:s₁.heap.NoLimit) (hg:s₁.gens=#[])
 (ha:s₁.heap.get? a=some { cls:=.type "list",data:=.seq vs.toArray }) (hi:IntsAre vs ns) (hl:ns.length≤sizeLine) (hr:BY k callerA)
 (hBM:BM mg s₁.heap) (F:∀ base:Heap,K.In base→base.Ns mainGlobals mg→(∀ q∈tabs,PySem.W.CodeHd base q.1 q.2)→BM mg base→Ao P w K mg base CX k fa fd [x] sp) (hbind:∀(s:Shared) (u:Value),BindsTo s fd ⟨[u],[]⟩ [(x,u)])
 (hT:PySem.W.TabsAt tabs s₁.heap) (hKT:PySem.W.noTabs K=true)
 (hsp:∀ H:Hp,(∀ q∈tabs,H q.2=some (.tbl #[]))→At K H a (ns.map V.int)→sp [.ref a] H (fun v _=>v=.bl true) fun _ _ _=>False)
 (hCX:∀ H e s',CX [] H s₁ (fun _ _ _=>False) e s'→False):
 codeAny (model P w) callerA (.call (.ref fa) ⟨[.ref a],[]⟩) (fun r s'=>r=.ok (.ret (.bool true))∧OldK s₁.heap s'.heap∧s'.os=s₁.os∧AllBare s'.gens) s₁:=by
 have rv:=Jg hi
 have lenV:=hi.length
 have noKT:∀ b,b∈tabs.map (·.2)→K.lookup b=none:=fun b hb=>by
  obtain⟨q,hq,rfl⟩:=List.mem_map.mp hb
  cases e:K.lookup q.2 with
  | none=>rfl
  | some o=>
   have h1:=KX _ _ e
   rw[(hT q hq).2]at h1
   cases h1
   have h2:=List.all_eq_true.mp hKT _ (PySem.W.mem_of_lookupK e)
   cases h2
 have core:∀ H:Hp,(∀ q∈tabs,H q.2=some (.tbl #[]))→(∀ b,b∉tabs.map (·.2)→H b=none∨∃ o xs,H b=some (.frz o (.lst xs)))→At K H a (ns.map V.int)→Eh P w H s₁.heap→(∀ b,H b≠none→b=a∨b∈tabs.map (·.2))→(H a≠none→K.lookup a=none)→
  codeAny (model P w) callerA (.call (.ref fa) ⟨[.ref a],[]⟩) (fun r s'=>r=.ok (.ret (.bool true))∧OldK s₁.heap s'.heap∧s'.os=s₁.os∧AllBare s'.gens) s₁:=by
  intro H hTb hO hS hok hA hK
  have base_of:∀{b:Addr} {o:Obj},s₁.heap.get? b=some o→H b=none→(HU s₁.heap H).get? b=some o:=fun e n=>Kv e n
  have noA:∀{b:Addr} {o:Obj} {es:Array DictEntry} {ep:Nat},s₁.heap.get? b=some o→o.data=.dict es ep→H b=none:=fun {b o es ep} e d=>by
   cases q:H b with
   | none=>rfl
   | some u=>
    rcases hA b (by rw[q];simp)with e' | e'
    ·subst e'
     rw[ha]at e;cases e
     have d':Data.seq vs.toArray _=Data.dict es ep:=d
     cases d'
    ·obtain⟨r,hr',rfl⟩:=List.mem_map.mp e'
     rw[(hT r hr').2]at e
     cases e
     cases d
  have nsK:∀{b:Addr} {m:Str→Option Value},s₁.heap.Ns b m→(HU s₁.heap H).Ns b m:=fun {b m} ⟨o,es,ep,e,d,r⟩=>⟨o,es,ep,base_of e (noA e d),d,r⟩
  have hKb:K.In (HU s₁.heap H):=fun b o e=>base_of (KX b o e) (by
   cases q:H b with
   | none=>rfl
   | some u=>
    rcases hA b (by rw[q];simp)with e' | e'
    ·subst e'
     rw[hK (by rw[q];simp)]at e;cases e
    ·rw[noKT b e']at e;cases e)
  have hM:Mod K mg (HU s₁.heap H):=⟨hKb,nsK hns,⟨mb,nsK hb,hbb⟩,let ⟨mc,h1,h2⟩:=hlim;⟨mc,nsK h1,h2⟩⟩
  have e0:IL P w K mg (HU s₁.heap H) callerA [] s₁ H:=⟨rfl,hM,fun b o e=>M9 e,Nat.le_of_eq (JX _ _),trivial,fun b hb=>absurd (show b∈([]:List Addr)from hb) (by simp),hok,.of_eq hg⟩
  have noB:∀{b:Addr} {o:Obj} {n:String},s₁.heap.get? b=some o→o.cls=.type n→n≠"list"→H b=none:=fun {b o n} e d dn=>by
   cases q:H b with
   | none=>rfl
   | some u=>
    rcases hA b (by rw[q];simp)with e' | e'
    ·subst e'
     rw[ha]at e;cases e
     have d':Value.type "list"=Value.type n:=d
     cases d'
     exact absurd rfl dn
    ·obtain⟨r,hr',rfl⟩:=List.mem_map.mp e'
     rw[(hT r hr').2]at e
     cases e
     cases d
  have hCd:∀ q∈tabs,PySem.W.CodeHd (HU s₁.heap H) q.1 q.2:=fun q hq=>by
   obtain⟨o,vs,file,tf,flags,tg,inF,text,tt,e,ec,r⟩:=(hT q hq).1
   exact⟨o,vs,file,tf,flags,tg,inF,text,tt,base_of e (noB e ec (by decide)),ec,r⟩
  have hBd:BM mg (HU s₁.heap H):=by
   obtain⟨bm,o,b1,b2,b3,b4,b5⟩:=hBM
   exact⟨bm,o,b1,b2,base_of b3 (noB b3 b4 (by decide)),b4,b5⟩
  refine codeAny_mono ((F _ hKb (nsK hns) hCd hBd).run callerA [] s₁ H ⟨[.ref a],[]⟩ [.ref a] [.ref a] _ _ hr e0 (hbind s₁ (.ref a)) (.cons rfl .nil) (hsp H hTb hS)) fun r s' h=>?_
  cases r with
  | error e=>exact(hCX H e s' h).elim
  | ok fl=>
   cases fl with
   | next=>exact False.elim h
   | brk=>exact False.elim h
   | cont=>exact False.elim h
   | ret u=>
    obtain⟨v,H',os,bare,un,hok',r',q⟩:=h
    have q':v=.bl true:=q
    subst q'
    obtain rfl:u=Value.bool true:=r'
    refine⟨rfl,⟨fun b o e=>?_,fun b o e=>un.there b o e (by simp)⟩,os,bare⟩
    by_cases hb:b∈tabs.map (·.2)
    ·obtain⟨q,hq,rfl⟩:=List.mem_map.mp hb
     obtain⟨more,e2⟩:=un.tbls _ _ (hTb q hq)
     have e3:s'.heap.get? q.2=some { cls:=.none,data:=.fields (#[]++more) }:=hok' _ _ e2
     rw[(hT q hq).2]at e
     cases e
     obtain⟨oc,vc,file,tf,flags,tg,inF,text,tt,g1,g2,g3,g4,_⟩:=(hT q hq).1
     exact .inr (.inl ⟨⟨_,_,_,g1,g2,g3,g4⟩,rfl,_,_,rfl,e3⟩)
    ·refine .inl ?_
     rcases hO b hb with q | ⟨ob,xs,z⟩
     ·exact un.keep b o e q (fun z=>absurd (show b∈([]:List Addr)from z) (by simp)) (by simp)
     ·obtain⟨e1,_⟩:=hok b _ z
      obtain⟨e2,_⟩:=hok' b _ (un.frzs b ob _ z)
      rw[e]at e1;cases e1
      exact e2
 have nTa:a∉tabs.map (·.2):=fun hm=>by
  obtain⟨q,hq,e⟩:=List.mem_map.mp hm
  have h1:=(hT q hq).2
  rw[e,ha]at h1
  cases h1
 have tok:∀ q∈tabs,s₁.heap.get? q.2=some { cls:=.none,data:=.fields #[] }:=fun q hq=>(hT q hq).2
 cases hk:K.lookup a with
 | some o=>
  have e:=KX a o hk
  rw[ha]at e
  cases e
  refine core (fun b=>if b∈tabs.map (·.2)then some (.tbl #[])else none) (fun q hq=>if_pos (List.mem_map_of_mem hq)) (fun b hb=>.inl (if_neg hb)) (.inr ⟨_,vs.toArray,_,hk,rfl,rfl,rfl,by rw[List.size_toArray,lenV];exact hl,by simpa using rv⟩) (fun b u z=>?_) (fun b z=>?_) (fun z=>absurd (if_neg nTa) z)
  ·by_cases hb:b∈tabs.map (·.2)
   ·have z':=(if_pos hb).symm.trans z
    cases z'
    obtain⟨q,hq,rfl⟩:=List.mem_map.mp hb
    exact tok q hq
   ·have z':=(if_neg hb).symm.trans z
    cases z'
  ·by_cases hb:b∈tabs.map (·.2)
   ·exact .inr hb
   ·exact absurd (if_neg hb) z
 | none=>
  refine core (fun b=>if b∈tabs.map (·.2)then some (.tbl #[])else if b=a then some (.frz { cls:=.type "list",data:=.seq vs.toArray } (.lst (ns.map V.int)))else none) (fun q hq=>if_pos (List.mem_map_of_mem hq)) (fun b hb=>?_) (.inl (.inr ⟨{ cls:=.type "list",data:=.seq vs.toArray },(if_neg nTa).trans (if_pos rfl)⟩)) (fun b u z=>?_) (fun b z=>?_) (fun _=>hk)
  ·by_cases hba:b=a
   ·exact .inr ⟨_,_,(if_neg hb).trans (if_pos hba)⟩
   ·exact .inl ((if_neg hb).trans (if_neg hba))
  ·by_cases hb:b∈tabs.map (·.2)
   ·have z':=(if_pos hb).symm.trans z
    cases z'
    obtain⟨q,hq,rfl⟩:=List.mem_map.mp hb
    exact tok q hq
   ·by_cases hba:b=a
    ·have z':=((if_neg hb).trans (if_pos hba)).symm.trans z
     cases z'
     subst hba
     exact⟨ha,by rw[List.length_map];exact hl,vs,_,rv,ha⟩
    ·have z':=((if_neg hb).trans (if_neg hba)).symm.trans z
     cases z'
  ·by_cases hb:b∈tabs.map (·.2)
   ·exact .inr hb
   ·by_cases hba:b=a
    ·exact .inl hba
    ·exact absurd ((if_neg hb).trans (if_neg hba)) z
theorem VH {p:Program}{loose:List Str}{mean:ExcName→Option Value}{mg mb:Str→Option Value}{h:Heap}(T:Top p loose mean mg mb h):BM mg h:=by
 obtain⟨bm,ob,b1,b2,b3,b4,b5,b6⟩:=T.bmain
 refine⟨bm,ob,b1,⟨b2,fun q=>?_⟩,b3,b4,b5,b6⟩
 obtain⟨o,es,ep,e,hd,_⟩:=T.g
 rw[q,e]at b3
 cases b3
 rw[hd]at b6
 cases b6
theorem Ps {l:PySem.W.OpenLaw}{n k:Nat}{q:Program}{loose:List Str}{XP:(Str→Option Value)→Heap→Prop}{YP:World→Heap→Prop}{d:DefRec}{K:Params→PySem.W.Frag}{x:Str}
 (hn:l.most=some n) (hn2:n≤sizeLine) (hdf:d.params.defaults=[]) (hr:BY k callerA) (hY:∀(w:World) (h:Heap),YP w h→(K w.params).In h) (hKT:∀ w:World,PySem.W.noTabs (K w.params)=true)
 (F:∀(w:World) (mean:ExcName→Option Value) (mg mb:Str→Option Value) (fa:Addr) (h:Heap),(K w.params).In h→Top q (PySem.W.looseW q loose) mean mg mb h→mg d.name=some (.ref fa)→
  ∃(fd:FuncData) (tabs:List (Addr×Addr)) (sp:Sp),(∀(s:Shared) (u:Value),BindsTo s fd ⟨[u],[]⟩ [(x,u)])∧PySem.W.TabsAt tabs h∧
   (∀(H:Hp) (a:Addr) (ns:List Int),ns.length≤n→(∀ q∈tabs,H q.2=some (.tbl #[]))→At (K w.params) H a (ns.map V.int)→sp [.ref a] H (fun v _=>v=.bl true) E0)∧
   ∀ base:Heap,(K w.params).In base→base.Ns mainGlobals mg→(∀ q∈tabs,PySem.W.CodeHd base q.1 q.2)→BM mg base→Ao l.prog w (K w.params) mg base Bc k fa fd [x] sp):
 PySem.W.WalkO q loose XP YP l.row.toRowW d [] (fun f vs=>PySem.call f vs):=by
 refine Att.K5 hn hdf fun w s₀ s₁ mg mb fa o pm cd doc a vs ns G Y ho hd hcd hmg hobj hints hlen hg=>?_
 have KX:=hY w _ Y
 obtain⟨fd,tabs,sp,hb,hT,hS,hF⟩:=F w _ mg mb fa _ KX G.T hmg
 exact OM KX G.T.g G.T.b G.T.builtins G.T.nolimit hg hobj hints (Nat.le_trans hlen hn2) hr (VH G.T) hF hb hT (hKT w) (fun H hO hS'=>hS H a ns hlen hO hS') fun H e s' h=>h.elim
structure Te (X:Cx)(scope:Scope)(cl:List (Str×Addr))(x:Str)(fv:List Str)(js:List Nat):Prop where
 kind:scope.kind=.function
 nc:∀ y∈scope.names,y.2=.cell→y.1=x
 nm:∀ y∈scope.names,y.2=.local→scope.names.lookup y.1=some .local
 hx:scope.names.lookup x=some .cell
 fr:∀ y∈scope.names,y.2=.free→y.1∈fv
 nd:(x::fv).Nodup
 vis:∀ y∈fv,scope.names.lookup y=some .free∧X.env.scope.names.lookup y=some .cell∧(cl.lookup y).isSome=true
 cls:∀ p∈cl,X.env.cells.lookup p.1=some p.2
 sl:Paired (fun y j=>X.N[j]?=some y) fv js
 cf:∀ n l,cellsFrom n scope.names l=(x,n)::l
 pc:∀ h:Heap,pushCells h scope.names=h.push { cls:=.type "cell",data:=.cell none }
def VI (H:Hp):V→L1
 | .ref q=>match H q with
  | some (.tup xs)=>.tp xs
  | _=>.fl (.ref q)
 | v=>.fl v
theorem Tf {H:Hp}{v:V}{i:L1}(h:Ge H v i):VI H v=i:=by
 cases i with
 | fl y=>
  obtain⟨rfl,f⟩:=h
  cases v <;> first | rfl | exact absurd (show false=true from f) Bool.false_ne_true
 | tp xs=>
  obtain⟨q,rfl,hq,_⟩:=h
  show(match H q with | some (.tup xs)=>L1.tp xs | _=>.fl (.ref q))=_
  rw[hq]
theorem KH {H:Hp}:∀{xs:List V} {is:List L1},Paired (Ge H) xs is→xs.map (VI H)=is:=by
 intro A B h
 induction h with
 | nil=>rfl
 | cons h t ih=>rw[List.map_cons,Tf h,ih]
theorem LK {a:V}(f:BC a=true):Hq a a=true:=by
 cases a <;> first | rfl | exact absurd (show false=true from f) Bool.false_ne_true | simp[Hq]
theorem Jp:∀{l:List V},l.all BC=true→FT l l=true
 | [],_=>rfl
 | a::r,f=>by
  rw[List.all_cons,Bool.and_eq_true]at f
  show(Hq a a&&FT r r)=true
  rw[LK f.1,Jp f.2];rfl
theorem LL {H:Hp}:∀{xs:List V} {is:List L1},Paired (Ge H) xs is→MJ Cm is is=true
 | _,_,.nil=>rfl
 | _,_,@Paired.cons _ _ _ v i vs is h t=>by
  show(Cm i i&&MJ Cm is is)=true
  rw[LL t]
  cases i with
  | fl y=>rw[show Cm (.fl y) (.fl y)=Hq y y from rfl,LK h.2];rfl
  | tp ys=>obtain⟨_,_,_,f⟩:=h;rw[show Cm (.tp ys) (.tp ys)=FT ys ys from rfl,Jp f];rfl
def Rf (H:Hp)(is:List L1):V→Bool
 | .ref q=>match H q with
  | some (.tup ys)=>MJ Cm (ys.map (VI H)) is
  | _=>false
 | _=>false
def ON (H:Hp)(is:List L1):Value→Bool
 | .ref q=>match H q with
  | some (.tup ys)=>MJ Cm (ys.map (VI H)) is
  | _=>false
 | _=>false
theorem NW {H:Hp}{is js:List L1}{q:Addr}{ys:List V}(h:H q=some (.tup ys))(p:Paired (Ge H) ys js):Rf H is (.ref q)=MJ Cm js is:=by
 show(match H q with | some (.tup ys)=>MJ Cm (ys.map (VI H)) is | _=>false)=_
 rw[h,← KH p]
section
variable {X:Cx}{pins:List (Addr×Obj)}{σ:St}{H:Hp}{s:Shared}
theorem MT (A':Around)(I:Af X pins σ H s)(hu1:A'.units<cLine){x y:V}{u v:Value}{i j:L1}(rx:Ai x u)(ry:Ai y v)(hx:Ge H x i)(hy:Ge H y j):SeqAt.EqAt A' s u v (Cm i j):=by
 cases i with
 | fl a=>
  obtain⟨rfl,fa⟩:=hx
  cases j with
  | fl b=>
   obtain⟨rfl,fb⟩:=hy
   exact J5 rx ry fa fb
  | tp ys=>
   obtain⟨q,rfl,hq,_⟩:=hy
   cases ry
   obtain⟨its,_,p,_⟩:=I.tuple (Ae.of hq)
   cases x with
   | non=>cases rx;exact SeqAt.EqAt.none_tuple p hu1
   | bl b=>cases rx;exact SeqAt.EqAt.bool_tuple b p hu1
   | int b=>obtain⟨t,rfl⟩:=rx;exact SeqAt.EqAt.int_tuple b t p hu1
   | str b=>obtain⟨t,rfl⟩:=rx;exact SeqAt.EqAt.str_tuple b t p hu1
   | _=>exact absurd (show false=true from fa) Bool.false_ne_true
 | tp xs=>
  obtain⟨q,rfl,hq,fx⟩:=hx
  cases rx
  obtain⟨its,r1,p,_⟩:=I.tuple (Ae.of hq)
  cases j with
  | fl b=>
   obtain⟨rfl,fb⟩:=hy
   cases y with
   | non=>cases ry;exact SeqAt.EqAt.tuple_none p hu1
   | bl b=>cases ry;exact SeqAt.EqAt.tuple_bool b p hu1
   | int b=>obtain⟨t,rfl⟩:=ry;exact SeqAt.EqAt.tuple_int b t p hu1
   | str b=>obtain⟨t,rfl⟩:=ry;exact SeqAt.EqAt.tuple_str b t p hu1
   | _=>exact absurd (show false=true from fb) Bool.false_ne_true
  | tp ys=>
   obtain⟨q2,rfl,hq2,fy⟩:=hy
   cases ry
   obtain⟨its2,r2,p2,_⟩:=I.tuple (Ae.of hq2)
   by_cases e:q=q2
   ·subst e
    rw[hq]at hq2
    cases hq2
    have hs:FT xs xs=true:=by
     have:∀ l:List V,l.all BC=true→FT l l=true:=by
      intro l
      induction l with
      | nil=>intro _;rfl
      | cons a r ih=>
       intro f
       rw[List.all_cons,Bool.and_eq_true]at f
       have ea:Hq a a=true:=by
        cases a <;> first | rfl | exact absurd (show false=true from f.1) Bool.false_ne_true | simp[Hq]
       show(Hq a a&&FT r r)=true
       rw[ea,ih f.2];rfl
     exact this xs fx
    show SeqAt.EqAt _ _ _ _ (FT xs xs)
    rw[hs]
    exact SeqAt.EqAt.same _
   ·have rc:=SeqAt.RcAt.tuples (A:=A') (s:=s) (e:=Et xs ys) (show s.heap.IsTuple q its.toArray from p) (show s.heap.IsTuple q2 its2.toArray from p2) hu1 (K8 (pins:=pins) (σ:=σ) (H:=H) r1 r2 fx fy)
    rw[List.size_toArray,List.size_toArray,← r1.length,← r2.length,Fi]at rc
    exact SeqAt.EqAt.of_refs e rc
theorem OO (A':Around)(I:Af X pins σ H s)(hu:A'.units<cLine){xs ys:List V}{is js:List L1}{us vs:List Value}(r1:Am xs us)(r2:Am ys vs)(hx:Paired (Ge H) xs is)(hy:Paired (Ge H) ys js):
 ∀ j (h1:j<us.toArray.size) (h2:j<vs.toArray.size),SeqAt.EqAt A' s us.toArray[j] vs.toArray[j] (Ff Cm is js j):=by
 intro j h1 h2
 have l1:=r1.length
 have l2:=r2.length
 rw[List.size_toArray]at h1 h2
 have ex:xs[j]?=some (xs[j]'(by omega)):=List.getElem?_eq_getElem _
 have ey:ys[j]?=some (ys[j]'(by omega)):=List.getElem?_eq_getElem _
 obtain⟨u,hu',ru⟩:=r1.get ex
 obtain⟨v,hv',rv⟩:=r2.get ey
 obtain⟨i,hi,ai⟩:=Au hx ex
 obtain⟨k,hk,ak⟩:=Au hy ey
 have eu:us.toArray[j]'(by simpa using h1)=u:=by
  rw[List.getElem?_eq_getElem h1]at hu'
  simpa using Option.some.inj hu'
 have ev:vs.toArray[j]'(by simpa using h2)=v:=by
  rw[List.getElem?_eq_getElem h2]at hv'
  simpa using Option.some.inj hv'
 rw[eu,ev]
 have e:Ff Cm is js j=Cm i k:=by unfold Ff;rw[hi,hk]
 rw[e]
 exact MT A' I hu ru rv ai ak
theorem Rg (A':Around)(I:Af X pins σ H s)(hu:A'.units+1<cLine){a b:Addr}{xs ys:List V}{is js:List L1}(ha:H a=some (.tup xs))(hb:H b=some (.tup ys))(hx:Paired (Ge H) xs is)(hy:Paired (Ge H) ys js):SeqAt.EqAt A' s (.ref a) (.ref b) (MJ Cm is js):=by
 obtain⟨its,r1,p1,_⟩:=I.tuple (Ae.of ha)
 obtain⟨its2,r2,p2,_⟩:=I.tuple (Ae.of hb)
 by_cases e:a=b
 ·subst e
  rw[ha]at hb
  cases hb
  rw[← KH hx,← KH hy,KH hx,LL hx]
  exact SeqAt.EqAt.same _
 ·have rc:=SeqAt.RcAt.tuples (A:=A') (s:=s) (e:=Ff Cm is js) (show s.heap.IsTuple a its.toArray from p1) (show s.heap.IsTuple b its2.toArray from p2) (Nat.lt_of_succ_lt hu) (OO A'.in1 I hu r1 r2 hx hy)
  rw[List.size_toArray,List.size_toArray,← r1.length,← r2.length,Paired.length hx,Paired.length hy,Ji]at rc
  exact SeqAt.EqAt.of_refs e rc
def Pt (H:Hp)(us:List V):Prop:=∀ u∈us,∃ q ys js,u=.ref q∧H q=some (.tup ys)∧Paired (Ge H) ys js
theorem NX {is:List L1}:∀{us:List V} {ws:List Value},Am us ws→Pt H us→ws.any (ON H is)=us.any (Rf H is)
 | _,_,.nil,_=>rfl
 | _,_,.cons r t,h=>by
  obtain⟨q,ys,js,rfl,_,_⟩:=h _ List.mem_cons_self
  cases r
  rw[List.any_cons,List.any_cons,NX t fun u hu=>h u (List.mem_cons_of_mem _ hu)]
  rfl
theorem Rh (I:Af X pins σ H s)(hu:X.A.units+2<cLine){a:Addr}{xs:List V}{is:List L1}(ha:H a=some (.tup xs))(hx:Paired (Ge H) xs is){us:List V}{ws:List Value}(r:Am us ws)(h:Pt H us):∀ w∈ws,SeqAt.EqAt X.A.in1 s w (.ref a) (ON H is w):=fun w hw=>by
 obtain⟨u,hu',ru⟩:=PV r w hw
 obtain⟨q,ys,js,rfl,hq,py⟩:=h u hu'
 cases ru
 rw[show ON H is (.ref q)=Rf H is (.ref q)from rfl,NW hq py]
 exact Rg X.A.in1 I hu hq ha py hx
end
end L2
namespace L2
open PySem PySem.Spec PyProof.Rows PySem.W
section
variable {prog:Program}{w:World}{A:Around}{E:Value→Shared→Prop}{s:Shared}
def seen (val:Nat→Str)(i:Nat):Str→Bool:=fun z=>(List.range i).any fun j=>decide (z=val j)
theorem OP (val:Nat→Str)(i:Nat):(fun k'=>seen val i k'||decide (k'=val i))=seen val (i+1):=by
 funext z
 unfold seen
 rw[List.range_succ,List.any_append]
 simp
theorem Ri {val:Nat→Str}{i:Nat}(h:∀ j,j<i→val j≠val i):seen val i (val i)=false:=by
 unfold seen
 rw[List.any_eq_false]
 intro j hj
 have:=h j (List.mem_range.mp hj)
 simp only[decide_eq_true_eq]
 exact fun e=>this e.symm
theorem HJ {wr:List Addr}{S:Addr}{G:Array GenState→Array GenState→Prop}(gt:∀ a b c,G a b→G b c→G a c){s s' s'':Shared}(a:Moved (S::wr) G s s')(b:Moved (S::wr) G s' s''):Moved (S::wr) G s s'':=
 ⟨fun c o h e=>b.heap c o h (a.heap c o h e),gt _ _ _ a.gens b.gens,b.drawn.trans a.drawn,b.os.trans a.os,Nat.le_trans a.toks b.toks⟩
theorem SZ {wr:List Addr}{S:Addr}{G:Array GenState→Array GenState→Prop}{s s':Shared}(a:Moved wr G s s'):Moved (S::wr) G s s':=⟨fun b o h e=>a.heap b o (fun q=>h (List.mem_cons_of_mem _ q)) e,a.gens,a.drawn,a.os,a.toks⟩
theorem LM {K:Type}[DecidableEq K]{knd:KeyKind prog w K}{h h':Heap}{a:Addr}{S:K→Bool}{n:Nat}(x:Heap.SetOf knd h a S n)(k:∀ o,h.get? a=some o→h'.get? a=some o):Heap.SetOf knd h' a S n:=by
 obtain⟨o,es,ep,t,e,r⟩:=x
 exact⟨o,es,ep,t,k o e,r⟩
theorem MU (z:Str)(t:Tok):(strKind prog w).is z (.str z t)=true:=by
 show Value.isStrOf z (.str z t)=true
 simp[Value.isStrOf]
theorem Pu {R:Result→Shared→Prop}{I:Addr}{fp wr:List Addr}{G:Array GenState→Array GenState→Prop}{n:Nat}{P:Nat→Value→Prop}{St:Nat→Shared→Prop}
 (W:WalksS prog w A.in1 I fp wr G n P St) (S:Addr) (hS:S∉fp) (val:Nat→Str) (hv:∀ i v,P i v→∃ t,v=.str (val i) t) (hn:n+1<scanBound) (hd:∀ i j,i<j→j<n→val i≠val j):
 ∀(k i:Nat) (s:Shared),n-i=k→i≤n→St i s→Heap.SetOf (strKind prog w) s.heap S (seen val i) i→(∀ s',Moved (S::wr) G s s'→Heap.SetOf (strKind prog w) s'.heap S (seen val n) n→R (.ok (.ret .none)) s')→
 codeAny (model prog w) A (.builtin "set.update.loop" ⟨[.ref S,.ref I],[]⟩) R s:=by
 intro k
 induction k with
 | zero=>
  intro i s hk hi hst hso hR
  have e:i=n:=by omega
  subst e
  refine codeAny_builtin F.entry_set_update_loop ?_
  refine wpAny_bind (W.done s _ _ hst fun s' hm=>?_)
  exact wpAny_pure (hR s' (SZ hm) (LM hso fun o e=>hm.heap S o (fun h=>hS (W.sub S h)) e))
 | succ k ih=>
  intro i s hk hi hst hso hR
  have hlt:i<n:=by omega
  refine codeAny_builtin F.entry_set_update_loop ?_
  refine wpAny_bind (W.item i s _ _ hlt hst fun v s' hp hst' hm=>?_)
  obtain⟨t,rfl⟩:=hv i v hp
  have hso':=LM hso fun o e=>hm.heap S o (fun h=>hS (W.sub S h)) e
  have is:(strKind prog w).is (val i) (.str (val i) t)=true:=MU _ _
  refine wpAny_bind (wpAny_holding ?_)
  unfold setAdd
  refine wpAny_holding (wpAny_bind ((strKind prog w).pyHash is ?_))
  refine wpAny_setAddHashed_of is rfl hso' (by omega) fun h' hsb hso2=>?_
  rw[OP,Ri (fun j hj=>hd j i hj hlt),if_neg (by decide)]at hso2
  have mv:Moved (S::wr) G s' { s' with heap:=h',toks:=s'.toks+1 }:=⟨fun b o hb e=>by rw[hsb.2 b (fun q=>hb (by rw[q];simp))];exact e,W.grefl _,rfl,rfl,Nat.le_succ _⟩
  refine wpAny_pure ⟨plainId_quiet F.plain_set_update_loop _,ih (i+1) _ (by omega) (by omega) ?_ hso2 fun s2 hm2 hso3=>hR s2 (HJ W.gtrans (SZ hm) (HJ W.gtrans mv hm2)) hso3⟩
  exact W.frame (i+1) s' h' _ hst' (Nat.le_succ _) fun b hb o e=>by rw[hsb.2 b (fun q=>hS (q▸hb))];exact e
theorem JL {R:Result→Shared→Prop}{l S:Addr}{items:Array Value}{led:Bool}(hh:A.handled=none)(hl:s.heap.IsList l items)(hS:s.heap.get? S=some { cls:=.type "set",data:=.set #[] 0 (SetTable.fresh 0 0 led) })(hSl:S≠l)
 (val:Nat→Str) (hv:∀(i:Nat) (v:Value),items[i]?=some v→∃ t,v=Value.str (val i) t) (hn:items.size+1<scanBound) (hd:∀ i j,i<j→j<items.size→val i≠val j)
 (hR:∀ h' tk,(∀ b o,b≠S→s.heap.get? b=some o→h'.get? b=some o)→Heap.SetOf (strKind prog w) h' S (seen val items.size) items.size→R (.ok (.ret .none)) { s with heap:=h',toks:=tk }):
 wpAny (model prog w) A.in1 (Builtin.«set.__init__» ⟨[.ref S,.ref l],[]⟩)
  (fun fin s'=>match fin with | .done f=>R (.ok f) s' | .again c'=>c'.quiet=true∧codeAny (model prog w) A c' R s') (fun e s'=>R (.error e) s') s:=by
 have ty:s.TypeIs (.ref S) "set":=⟨_,hS,rfl⟩
 have tl:s.TypeIs (.ref l) "list":=hl.typeIs
 unfold Builtin.«set.__init__»
 refine wpAny_bind (show wpAny _ _ (pure ()) _ _ s from wpAny_pure ?_)
 dsimp only
 refine wpAny_bind ?_
 unfold typeNameOfCut shownTypeOf
 refine wpAny_bind (wpAny_bind (wpAny_typeOf ty ?_))
 rw[if_neg (by decide)]
 refine wpAny_pure (show wpAny _ _ (pure _) _ _ s from wpAny_pure ?_)
 refine wpAny_bind (show wpAny _ _ (pure ()) _ _ s from wpAny_pure ?_)
 refine wpAny_bind (show wpAny _ _ (pure S) _ _ s from wpAny_pure ?_)
 unfold setUsed
 refine wpAny_bind (wpAny_bind (wpAny_setState_of hS rfl rfl (wpAny_pure ?_)))
 rw[if_neg (show ¬ ((#[],0,SetTable.fresh 0 0 led).snd.snd.fill != 0)=true from(by intro h;cases h))]
 refine wpAny_bind ?_
 unfold Builtin.Frozenset.updateFrom Builtin.Frozenset.isAnySet
 refine wpAny_bind ?_
 refine wpAny_bind (wpAny_isInstance (b:=false) tl (by rw[isSubtype_type];kernel_rfl) ?_)
 refine(show wpAny _ _ (isInstance (.ref l) (.type "frozenset")) _ _ s from ?_)
 refine wpAny_isInstance (b:=false) tl (by rw[isSubtype_type];kernel_rfl) ?_
 rw[if_neg (by decide)]
 refine wpAny_bind (wpAny_typeOf tl ?_)
 rw[if_neg (by decide)]
 have hne:l≠s.heap.objs.size:=by obtain⟨o,q,_⟩:=hl;exact Nat.ne_of_lt (Heap.lt_size q)
 have hSn:S≠s.heap.objs.size:=Nat.ne_of_lt (Heap.lt_size hS)
 have W:=(Walks.list (prog:=prog) (w:=w) (A:=A.in1.in1) hh s.heap.objs.size l hne items).toS
 have hSf:S∉[s.heap.objs.size,l]:=fun hm=>by
  rcases List.mem_cons.mp hm with e | hm
  ·exact hSn e
  ·exact hSl (List.mem_singleton.mp hm)
 refine wpAny_bind (wpAny_pyIter_list hl ?_)
 refine wpAny_bind (wpAny_runValue ?_)
 refine Pu W S hSf val hv hn hd items.size 0 _ rfl (Nat.zero_le _) ⟨⟨_,Heap.get?_push_size _ rfl,rfl,rfl⟩,hl.at fun o e=>Heap.get?_push_of_some _ e⟩ ⟨_,_,_,_,Heap.get?_push_of_some _ hS,⟨rfl,rfl,rfl⟩,rfl,(fun e he=>by cases he),(fun k=>⟨fun z=>(by cases z),fun⟨e,he,_⟩=>(by cases he)⟩),(by show 0<4096;decide),rfl,rfl⟩ fun s' hm hso=>?_
 refine wpAny_pure (show wpAny _ _ (pure _) _ _ _ from wpAny_pure ?_)
 rw[Moved.eq_with hm]
 refine hR s'.heap s'.toks (fun b o hb e=>hm.heap b o (fun hmem=>?_) (Heap.get?_push_of_some _ e)) hso
 rcases List.mem_cons.mp hmem with e' | hmem
 ·exact hb e'
 ·have:=List.mem_singleton.mp hmem
  rw[this]at e
  exact absurd (Heap.lt_size e) (Nat.lt_irrefl _)
theorem JM {R:Result→Shared→Prop}{l S:Addr}{items:Array Value}{led:Bool}(hh:A.handled=none)(hl:s.heap.IsList l items)(hS:s.heap.get? S=some { cls:=.type "set",data:=.set #[] 0 (SetTable.fresh 0 0 led) })(hSl:S≠l)
 (val:Nat→Str) (hv:∀(i:Nat) (v:Value),items[i]?=some v→∃ t,v=Value.str (val i) t) (hn:items.size+1<scanBound) (hd:∀ i j,i<j→j<items.size→val i≠val j)
 (hR:∀ h' tk,(∀ b o,b≠S→s.heap.get? b=some o→h'.get? b=some o)→Heap.SetOf (strKind prog w) h' S (seen val items.size) items.size→R (.ok (.ret .none)) { s with heap:=h',toks:=tk }):
 codeAny (model prog w) A (.call (.builtin "set.__init__") ⟨[.ref S,.ref l],[]⟩) R s:=
 codeAny_call_builtin F.called_set.init.plain F.entry_set_init (check_set_init_1 ⟨_,hS,rfl⟩ (JL hh hl hS hSl val hv hn hd hR))
theorem JN {Q:Value→Shared→Prop}{l:Addr}{items:Array Value}(hh:A.handled=none)(hl:s.heap.IsList l items)(val:Nat→Str)(hv:∀(i:Nat) (v:Value),items[i]?=some v→∃ t,v=Value.str (val i) t)(hn:items.size+1<scanBound)(hd:∀ i j,i<j→j<items.size→val i≠val j)
 (hQ:∀ h' tk,(∀ b o,s.heap.get? b=some o→h'.get? b=some o)→Heap.SetOf (strKind prog w) h' s.heap.objs.size (seen val items.size) items.size→Q (.ref s.heap.objs.size) { s with heap:=h',toks:=tk }):
 wpAny (model prog w) A (call (.type "set") [.ref l]) Q E s:=by
 obtain⟨c,tl,hmro⟩:=F.called_set.mro
 refine wpAny_call (codeAny_of_tree (wpAny_pure ⟨Code.quiet_builtin _ (by nofun),codeAny_builtin F.entry_type_call ?_⟩))
 rw[Around.under_plain (weight_type_call_type "set" [.ref l] []) rfl]
 unfold Builtin.«type.__call__»
 dsimp only
 refine wpAny_ite_split (fun h=>absurd h (by decide)) fun _=>?_
 refine wpAny_ite_split (fun h=>absurd h (by nofun)) fun _=>?_
 refine wpAny_bind (wpAny_of_eq (F.typeCall_set_1 _) ?_)
 refine wpAny_bind (wpAny_of_eq hmro ?_)
 refine wpAny_ite_split (fun h=>absurd h (by simp)) fun _=>?_
 refine wpAny_bind (wpAny_of_eq F.called_set.made ?_)
 refine wpAny_bind (wpAny_pure ?_)
 refine wpAny_bind (wpAny_holding (wpAny_call ?_))
 refine codeAny_mono (code_set_new_1 (E:=E) (.ref l) (Q₁:=fun obj s₁=>∃ led,obj=.ref s.heap.objs.size∧s₁={ s with heap:=s.heap.push { cls:=.type "set",data:=.set #[] 0 (SetTable.fresh 0 0 led) } }) fun led=>⟨led,rfl,rfl⟩) fun r s₁ h=>?_
 cases r with
 | error e=>exact h
 | ok fl=>
  cases fl with
  | ret v=>
   obtain⟨led,rfl,rfl⟩:=h
   have hS:(s.heap.push { cls:=.type "set",data:=.set #[] 0 (SetTable.fresh 0 0 led) }).get? s.heap.objs.size=some { cls:=.type "set",data:=.set #[] 0 (SetTable.fresh 0 0 led) }:=Heap.get?_push_size _ rfl
   have ty:Shared.TypeIs { s with heap:=s.heap.push { cls:=.type "set",data:=.set #[] 0 (SetTable.fresh 0 0 led) } } (.ref s.heap.objs.size) "set":=⟨_,hS,rfl⟩
   have i2:s.heap.objs.size≠l:=by obtain⟨o,q,_⟩:=hl;exact Nat.ne_of_gt (Heap.lt_size q)
   show wpAny _ _ _ _ _ _
   refine wpAny_bind (wpAny_isInstance ty F.called_set.sub ?_)
   refine wpAny_ite_split (fun h=>absurd h (by decide)) fun _=>?_
   refine wpAny_bind (wpAny_holding ?_)
   unfold callSpecial?
   refine wpAny_bind (wpAny_specialOf ty F.called_set.init.lookup ?_)
   refine wpAny_holding (wpAny_bind (wpAny_of_eq (F.called_set.init.bind _) ?_))
   refine wpAny_bind (wpAny_call (JM (A:=A.in1) (s:={ s with heap:=s.heap.push { cls:=.type "set",data:=.set #[] 0 (SetTable.fresh 0 0 led) } }) hh (hl.at fun o e=>Heap.get?_push_of_some _ e) hS i2 val hv hn hd fun h' tk hk hso=>?_))
   refine wpAny_pure (wpAny_ite_split (fun h=>absurd h (by decide)) fun _=>?_)
   exact wpAny_pure (hQ h' tk (fun b o e=>hk b o (Nat.ne_of_lt (Heap.lt_size e)) (Heap.get?_push_of_some _ e)) hso)
  | next=>cases h
  | brk=>cases h
  | cont=>cases h
end
theorem Jq:∀{zs:List Str} {its:List Value},Am (zs.map V.str) its→∀(i:Nat) (v:Value),its[i]?=some v→∃ t,v=Value.str (zs.getD i (Str.ofString "")) t
 | [],_,.nil,i,v,h=>by cases h
 | z::zs,_,.cons r t,0,v,h=>by
  cases h
  exact r
 | z::zs,_,.cons r t,i+1,v,h=>Jq t i v h
section
variable {X:Cx}
def Rj (K:PySem.W.Frag)(te:TE):TE:=fun σ H Q=>te σ H fun x H1=>∃(a:Addr) (zs:List Str),x=.ref a∧At K H1 a (zs.map V.str)∧zs.length≤1000∧zs.Nodup∧Q (.int zs.length) H1
theorem Tg:bootBuiltins "set"=some (.type "set"):=by nofun
theorem Jr {e:Expr}{te:TE}{p p2 pos pos2:Pos}(hc:X.calm=true)(hg:Gl X "len")(hm:X.mg "len"=none)(hv:bootBuiltins "len"=some (.builtin "len"))(hg2:Gl X "set")(hm2:X.mg "set"=none)(he:PE X e te)
 (hs:starEach [e] X.env=(false,eval e X.env)::starEach [] X.env:=by rfl):
 PE X (.Call (.Name "len" p) [.Call (.Name "set" p2) [e] [] pos2] [] pos) (Rj X.K te):=by
 intro pins s σ H Q I h
 refine wpAny_Call_Name_kw (Dp I hg hm hv ?_)
 refine PyProof.Rows.callWith_builtin1 ?_ rfl rfl
 show wpAny _ _ (spliced ((false,eval (.Call (.Name "set" p2) [e] [] pos2) X.env)::backTo pos (starEach [] X.env))) _ _ s
 refine Calls.spliced_cons ?_
 refine wpAny_Call_Name_kw (Dp I hg2 hm2 Tg ?_)
 refine PyProof.Rows.callWith_type1 ?_ hs rfl
 rw[hs]
 show wpAny _ _ (spliced ((false,eval e X.env)::backTo pos2 (starEach [] X.env))) _ _ s
 refine Calls.spliced_cons (BI (he pins s σ H _ I h) fun u s1 ⟨x,H1,I1,r1,q1⟩=>Calls.spliced_nil ?_)
 obtain⟨a,zs,rfl,hq,hz,nd,q⟩:=q1
 cases r1
 obtain⟨its,rv,pl,_⟩:=I1.list hq
 have hlen:=rv.length
 rw[List.length_map]at hlen
 refine JN (items:=its.toArray) (I.ok.hd hc) pl.isList (fun i=>zs.getD i (Str.ofString "")) (fun i v hv=>?_) (by rw[List.size_toArray,← hlen];show zs.length+1<4096;omega) (fun i j hij hj=>?_) fun h' tk hk hso=>?_
 ·exact Jq rv i v (by rw[← List.getElem?_toArray];exact hv)
 ·rw[List.size_toArray,← hlen]at hj
  have hi:=Nat.lt_trans hij hj
  rw[List.getD_eq_getElem?_getD,List.getD_eq_getElem?_getD,List.getElem?_eq_getElem hi,List.getElem?_eq_getElem hj]
  exact List.pairwise_iff_getElem.mp nd i j hi hj hij
 obtain⟨o,es,ep,t,e1,e2,e3,_,_,e6,e7,e8⟩:=hso
 have e8:es.size=zs.length:=e8.trans (by rw[List.size_toArray,← hlen])
 refine Calls.spliced_nil (call_len_set e1 e2 e3 e7 (by rw[e8];omega) ?_)
 have I2:Af X pins σ H1 { s1 with heap:=h',toks:=tk }:=I1.kept (t':=tk) fun b o e=>hk b o e
 exact⟨.int zs.length,H1,I2.tok _,⟨_,by rw[e8]⟩,q⟩
def VJ:List V→Hp→VK→Prop:=fun xs H Q=>∃(a p:Addr) (ys:List V),xs=[.ref a,.ref p]∧H a=some (.lst ys)∧H p=some (.tup [.ty "list",.ty "tuple"])∧Q (.bl true) H
theorem JO:Ci X (.builtin "isinstance") VJ:=by
 intro pins s σ H xs us Q I r h
 obtain⟨a,p,ys,rfl,ha,hp,q⟩:=h
 obtain⟨u,w',rfl,r1,r2⟩:=O5 r
 cases r1
 cases r2
 obtain⟨_,_,n,_,h1⟩:=(show A6 X.prog X.w H s.heap a (.lst ys)from I.hok a _ ha)
 obtain⟨_,its,rv',ob,ho,hcl,n,hd⟩:=I.hok p _ hp
 have e:its=[.type "list",.type "tuple"]:=by
  cases rv' with
  | cons r t=>
   cases r
   cases t with
   | cons r t=>
    cases r
    cases t
    rfl
 subst e
 obtain⟨oc,od,oda,osl⟩:=ob
 dsimp only at hcl hd
 subst hcl hd
 exact PySem.W.kia_tup PySem.W.kitx_list I.kIn ⟨_,h1,rfl⟩ ho (by unfold PySem.W.kitAny;simp[PySem.W.kitOne]) (fun z=>nomatch z) fun tk=>⟨.bl true,H,I.tok tk,rfl,q⟩
end
section
variable {X:Cx}
theorem NY (hu:X.A.units+1<cLine):FR X (compareOp .NotIn) (fun y x H Q=>∃ a o,x=.ref a∧Fj H a y o∧Q (.bl (!o.isSome)) H):=by
 intro pins s σ H x y v u Q I rx ry h
 obtain⟨a,o,rfl,g,q⟩:=h
 cases ry
 exact RX hu I g rx fun s' I'=>⟨.bl _,H,I',rfl,q⟩
end
section
variable {prog:Program}{w:World}{K K1:Type}[DecidableEq K][DecidableEq K1]
structure B5 (prog:Program)(w:World)(K1:Type)[DecidableEq K1] extends PySem.HeapKind prog w K1 where
 dep:Nat
 roomOf:∀ A:Around,A.units+dep<cLine→room A
 quietN:∀{A:Around} {E:Value→Shared→Prop} {s:Shared} {k:K1} {a:Addr} {Q:Bool→Shared→Prop} (n:Nat),dep<n→is s.heap k a→Q true s→wpAny (model prog w) A (eqIsQuiet n (.ref a)) Q E s
inductive CN (knd:PySem.KeyKind prog w K)(D:B5 prog w K1)(h:Heap):List (K ⊕ K1)→List Value→Prop
 | nil:CN knd D h [] []
 | val {k:K} {v:Value} {ks:List (K ⊕ K1)} {vs:List Value}:knd.is k v=true→CN knd D h ks vs→CN knd D h (.inl k::ks) (v::vs)
 | ref {k:K1} {b:Addr} {ks:List (K ⊕ K1)} {vs:List Value}:D.is h k b→CN knd D h ks vs→CN knd D h (.inr k::ks) (.ref b::vs)
def Fo (knd:PySem.KeyKind prog w K)(D:B5 prog w K1)(h:Heap)(ks:List (K ⊕ K1))(a:Addr):Prop:=∃ o items n,h.get? a=some o∧o.cls=.type "tuple"∧o.data=.seq items n∧CN knd D h ks items.toList
variable {knd:PySem.KeyKind prog w K}{D:B5 prog w K1}
theorem LN {k:K}{b:Addr}(h:knd.is k (.ref b)=true):False:=by
 have:=knd.byValue _ _ h
 simp[carriedByValue]at this
theorem CN.inj {h:Heap}{x y:List (K ⊕ K1)}{vs:List Value}(hx:CN knd D h x vs)(hy:CN knd D h y vs):x=y:=by
 induction hx generalizing y with
 | nil=>cases hy;rfl
 | val h1 _ ih=>
  cases hy with
  | val h2 t2=>rw[knd.inj _ _ _ h1 h2,ih t2]
  | ref h2 t2=>exact(LN h1).elim
 | ref h1 _ ih=>
  cases hy with
  | val h2 t2=>exact(LN h2).elim
  | ref h2 t2=>rw[D.inj h1 h2,ih t2]
theorem CN.keeps {h h':Heap}{ks:List (K ⊕ K1)}{vs:List Value}{d:Addr}{o:Obj}{es ep}(x:CN knd D h ks vs)(ho:h.get? d=some o)(hd:o.data=.dict es ep)(hs:Heap.SameBut d h h'):CN knd D h' ks vs:=by
 induction x with
 | nil=>exact .nil
 | val h1 _ ih=>exact .val h1 ih
 | ref h1 _ ih=>exact .ref (D.keeps h1 ho hd hs) ih
theorem Fo.inj {h:Heap}{a:Addr}{x y:List (K ⊕ K1)}(hx:Fo knd D h x a)(hy:Fo knd D h y a):x=y:=by
 obtain⟨o,items,n,ho,_,hd,hi⟩:=hx
 obtain⟨o',items',n',ho',_,hd',hi'⟩:=hy
 obtain rfl:o=o':=Option.some.inj (ho.symm.trans ho')
 rw[hd]at hd'
 injection hd' with h1 _
 subst h1
 exact hi.inj hi'
theorem Fo.keeps {h h':Heap}{ks:List (K ⊕ K1)}{a d:Addr}{o:Obj}{es ep}(x:Fo knd D h ks a)(ho:h.get? d=some o)(hd:o.data=.dict es ep)(hs:Heap.SameBut d h h'):Fo knd D h' ks a:=by
 obtain⟨o',items,n,ho',hc,hd',hi⟩:=x
 have hne:a≠d:=by
  rintro rfl
  obtain rfl:o'=o:=Option.some.inj (ho'.symm.trans ho)
  rw[hd]at hd';exact nomatch hd'
 exact⟨o',items,n,(hs.2 a hne).trans ho',hc,hd',hi.keeps ho hd hs⟩
theorem Fo.typeIs {s:Shared}{ks:List (K ⊕ K1)}{a:Addr}(x:Fo knd D s.heap ks a):s.TypeIs (.ref a) "tuple":=by
 obtain⟨o,_,_,ho,hc,_⟩:=x
 exact⟨o,ho,hc⟩
def RD (knd:PySem.KeyKind prog w K)(D:B5 prog w K1):K ⊕ K1→Int
 | .inl k=>knd.hash k
 | .inr k=>D.hash k
def Pw (D:B5 prog w K1):K ⊕ K1→Nat
 | .inl _=>1
 | .inr k=>D.draws k
def Dh (D:B5 prog w K1):List (K ⊕ K1)→Nat
 | []=>0
 | x::xs=>Pw D x+Dh D xs
theorem Gh (D:B5 prog w K1):∀ xs ys:List (K ⊕ K1),Dh D (xs++ys)=Dh D xs+Dh D ys
 | [],ys=>by simp[Dh]
 | x::xs,ys=>by rw[List.cons_append,Dh,Dh,Gh D xs ys];omega
def MV (knd:PySem.KeyKind prog w K)(D:B5 prog w K1)(ks:List (K ⊕ K1)):Int:=reduceHash (Builtin.Tuple.tupleHashOf (ks.map (RD knd D)))
variable {A:Around}{E:Value→Shared→Prop}{s:Shared}
theorem EB {A:Around}{n:Nat}(h:A.units+(n+1)<cLine):A.in1.units+n<cLine:=by
 have e:A.in1.units=A.units+1:=rfl
 omega
theorem OQ {ks:List (K ⊕ K1)}{a:Addr}{Q:Int→Shared→Prop}(hu:A.units+(D.dep+2)<cLine)(hk:Fo knd D s.heap ks a)(h:Q (MV knd D ks) { s with toks:=s.toks+(Dh D ks+1) }):
 wpAny (model prog w) A (pyHash (.ref a)) Q E s:=by
 have hT:=hk.typeIs
 obtain⟨o,items,n,ho,_,hd,hi⟩:=hk
 unfold pyHash
 first | unfold pyHashByItsType | skip
 first | refine wpAny_bind (wpAny_cRoomFor_or (.inr (by omega)) ?_) | skip
 refine wpAny_bind (wpAny_specialOf hT F.slot_tuple_hash.lookup ?_)
 show wpAny _ _ (if(some (Value.builtin "tuple.__hash__")==some Value.none)=true then _ else _) Q E s
 rw[if_neg (by rw[beq_builtin_none];exact Bool.false_ne_true)]
 refine wpAny_bind (wpAny_specialOf hT F.slot_tuple_hash.lookup ?_)
 show wpAny _ _ (callSpecialIfBoundUnlessNone? (.ref a) "__hash__" _ >>= _) Q E s
 refine wpAny_bind (wpAny_callSpecialIfBoundUnlessNone?_slot hT F.slot_tuple_hash (wpAny_call_entry F.slot_tuple_hash hT F.entry_tuple_hash ?_ (F.args_tuple_hash_1 _)))
 show wpAny _ _ (Builtin.Tuple.tupleItemsOf (.ref a) >>= _) _ _ s
 refine wpAny_bind (wpAny_tupleItemsOf ho hd ?_)
 refine wpAny_bind ?_
 rw[← Array.forIn_toList]
 refine wpAny_forIn_list _
  (fun BH (b:Array Int) s'=>∃ done left,ks=done++left∧CN knd D s.heap left BH∧b.toList=done.map (RD knd D)∧s'={ s with toks:=s.toks+Dh D done })
  _ ?_ ?_ _ _ ⟨[],ks,rfl,hi,rfl,rfl⟩
 ·rintro x BH b s' ⟨done,left,rfl,hl,hb,rfl⟩
  cases hl with
  | @val k _ ks' _ h1 hl'=>
   refine wpAny_bind (knd.pyHash h1 ?_)
   have e:=Gh D done [.inl k]
   first
    | exact wpAny_pure ⟨done++[.inl k],ks',by simp,hl',by simp[hb,RD],by rw[e];simp[Dh,Pw,Nat.add_assoc]⟩
    | exact wpAny_bind (wpAny_pure (wpAny_pure ⟨done++[.inl k],ks',by simp,hl',by simp[hb,RD],by rw[e];simp[Dh,Pw,Nat.add_assoc]⟩))
  | @ref k c ks' _ h1 hl'=>
   refine wpAny_bind (D.pyHash (D.roomOf _ (EB (by omega))) h1 ?_)
   have e:=Gh D done [.inr k]
   first
    | exact wpAny_pure ⟨done++[.inr k],ks',by simp,hl',by simp[hb,RD],by rw[e];simp[Dh,Pw,Nat.add_assoc]⟩
    | exact wpAny_bind (wpAny_pure (wpAny_pure ⟨done++[.inr k],ks',by simp,hl',by simp[hb,RD],by rw[e];simp[Dh,Pw,Nat.add_assoc]⟩))
 ·rintro b s' ⟨done,left,rfl,hl,hb,rfl⟩
  cases hl
  rw[List.append_nil]at h
  show wpAny _ _ (retInt (Builtin.Tuple.tupleHashOf b.toList)) _ _ _
  rw[hb]
  refine wpAny_ret_mkInt ?_
  show wpAny _ _ (if(decide (-(2:Int) ^ 63≤Builtin.Tuple.tupleHashOf (done.map (RD knd D)))&&decide (Builtin.Tuple.tupleHashOf (done.map (RD knd D))<2 ^ 63))=true then _ else _) Q E _
  unfold MV reduceHash at h
  by_cases hr:(decide (-(2:Int) ^ 63≤Builtin.Tuple.tupleHashOf (done.map (RD knd D)))&&decide (Builtin.Tuple.tupleHashOf (done.map (RD knd D))<2 ^ 63))=true
  ·rw[if_pos hr]
   rw[if_pos hr]at h
   exact wpAny_pure (by simpa [Nat.add_assoc]using h)
  ·rw[if_neg hr]
   rw[if_neg hr]at h
   exact wpAny_bind (wpAny_rule (wpAny_pure (by simpa [Nat.add_assoc]using h)))
theorem OR {x y:List (K ⊕ K1)}{a b:Addr}{P:Fin→Shared→Prop}(hu:A.units+D.dep<cLine)(hx:Fo knd D s.heap x a)(hy:Fo knd D s.heap y b)(no:∀(k:K) (c:K1) (v:Value),knd.is k v=true→∀ e,D.is s.heap c e→∀(Q:Bool→Shared→Prop),Q false s→wpAny (model prog w) A (PySem.eqBool v (.ref e)) Q E s∧wpAny (model prog w) A (PySem.eqBool (.ref e) v) Q E s)(h:P (.done (.ret (.bool (decide (x=y))))) s):
 wpAny (model prog w) A (Builtin.«tuple.__eq__» ⟨[.ref a,.ref b],[]⟩) P E s:=by
 have hTb:=hy.typeIs
 obtain⟨oa,xs,na,hoa,_,hda,hia⟩:=hx
 obtain⟨ob,ys,nb,hob,_,hdb,hib⟩:=hy
 show wpAny _ _ (isInstance (.ref b) (.type "tuple") >>= _) _ _ s
 refine wpAny_bind (wpAny_isInstance hTb isSubtype_tuple_tuple ?_)
 simp only[Bool.not_true,Bool.false_eq_true,if_false]
 refine wpAny_bind (wpAny_tupleItemsOf hoa hda ?_)
 refine wpAny_bind (wpAny_tupleItemsOf hob hdb ?_)
 refine wpAny_bind ?_
 refine wpAny_forIn_list _
  (fun BH r s'=>r.1=none∧s'=s∧∃ x' y' xs' ys',BH=List.zip xs' ys'∧CN knd D s.heap x' xs'∧CN knd D s.heap y' ys'∧decide (x'=y')=decide (x=y)∧(xs'.length==ys'.length)=(xs.size==ys.size))
  _ ?_ ?_ _ _ ⟨rfl,rfl,x,y,xs.toList,ys.toList,rfl,hia,hib,rfl,by simp⟩
 ·rintro⟨u,v⟩ BH r s' ⟨hr,hs',x',y',xs',ys',hz,hx',hy',hdec,hlen⟩
  subst hs'
  obtain⟨k1,k2,x'',y'',xs'',ys'',e1,e2,ez,hx'',hy'',hl,eq⟩:∃(k1 k2:K ⊕ K1) (x'' y'':List (K ⊕ K1)) (xs'' ys'':List Value),x'=k1::x''∧y'=k2::y''∧BH=List.zip xs'' ys''∧CN knd D s'.heap x'' xs''∧CN knd D s'.heap y'' ys''∧(xs''.length==ys''.length)=(xs.size==ys.size)∧∀(Q:Bool→Shared→Prop),Q (decide (k1=k2)) s'→wpAny (model prog w) A (PySem.eqBool u v) Q E s':=by
   cases hx' with
   | nil=>simp at hz
   | @val k1 u' x'' xs'' h1 hx''=>
    cases hy' with
    | nil=>simp at hz
    | @val k2 v' y'' ys'' h2 hy''=>
     simp only[List.zip_cons_cons,List.cons.injEq,Prod.mk.injEq]at hz
     obtain⟨⟨rfl,rfl⟩,rfl⟩:=hz
     exact⟨_,_,_,_,_,_,rfl,rfl,rfl,hx'',hy'',(by simpa using hlen),fun Q hQ=>knd.eqBool (a:=k1) (b:=k2) h1 h2 (by simpa using hQ)⟩
    | @ref k2 v' y'' ys'' h2 hy''=>
     simp only[List.zip_cons_cons,List.cons.injEq,Prod.mk.injEq]at hz
     obtain⟨⟨rfl,rfl⟩,rfl⟩:=hz
     exact⟨_,_,_,_,_,_,rfl,rfl,rfl,hx'',hy'',(by simpa using hlen),fun Q hQ=>(no k1 k2 _ h1 _ h2 Q (by simpa using hQ)).1⟩
   | @ref k1 u' x'' xs'' h1 hx''=>
    cases hy' with
    | nil=>simp at hz
    | @val k2 v' y'' ys'' h2 hy''=>
     simp only[List.zip_cons_cons,List.cons.injEq,Prod.mk.injEq]at hz
     obtain⟨⟨rfl,rfl⟩,rfl⟩:=hz
     exact⟨_,_,_,_,_,_,rfl,rfl,rfl,hx'',hy'',(by simpa using hlen),fun Q hQ=>(no k2 k1 _ h2 _ h1 Q (by simpa using hQ)).2⟩
    | @ref k2 v' y'' ys'' h2 hy''=>
     simp only[List.zip_cons_cons,List.cons.injEq,Prod.mk.injEq]at hz
     obtain⟨⟨rfl,rfl⟩,rfl⟩:=hz
     exact⟨_,_,_,_,_,_,rfl,rfl,rfl,hx'',hy'',(by simpa using hlen),fun Q hQ=>D.eqBool (D.roomOf _ hu) h1 h2 (by simpa using hQ)⟩
  subst e1 e2
  refine wpAny_bind (eq _ ?_)
  by_cases hk:k1=k2
  ·subst hk
   rw[decide_eq_true rfl]
   simp only[Bool.not_true,Bool.false_eq_true,if_false]
   refine wpAny_pure ⟨rfl,rfl,x'',y'',xs'',ys'',ez,hx'',hy'',?_,hl⟩
   rw[← hdec]
   by_cases hxy:x''=y''
   ·simp[hxy]
   ·simp[hxy]
  ·rw[decide_eq_false hk]
   simp only[Bool.not_false,if_true]
   have hf:decide (x=y)=false:=by rw[← hdec];simp[hk]
   rw[hf]at h
   exact wpAny_bind (wpAny_pure (wpAny_pure (wpAny_pure h)))
 ·rintro⟨r1,r2⟩ s' ⟨hr,rfl,x',y',xs',ys',hz,hx',hy',hdec,hlen⟩
  simp only at hr
  subst hr
  refine wpAny_pure ?_
  have hfin:(xs.size==ys.size)=decide (x=y):=by
   rw[← hdec,← hlen]
   cases hx' with
   | nil=>
    cases hy' with
    | nil=>simp
    | val _ _=>simp
    | ref _ _=>simp
   | val _ _=>
    cases hy' with
    | nil=>simp
    | val _ _=>simp at hz
    | ref _ _=>simp at hz
   | ref _ _=>
    cases hy' with
    | nil=>simp
    | val _ _=>simp at hz
    | ref _ _=>simp at hz
  show P (.done (.ret (.bool (xs.size==ys.size)))) s'
  rw[hfin];exact h
theorem OS {x y:List (K ⊕ K1)}{a b:Addr}{Q:Bool→Shared→Prop}(hu:A.units+(D.dep+2)<cLine)(hx:Fo knd D s.heap x a)(hy:Fo knd D s.heap y b)(no:∀(k:K) (c:K1) (v:Value),knd.is k v=true→∀ e,D.is s.heap c e→False)(h:Q (decide (x=y)) s):
 wpAny (model prog w) A (PySem.eqBool (.ref a) (.ref b)) Q E s:=by
 unfold PySem.eqBool
 try with_reducible refine wpAny_holding ?_
 show wpAny _ _ (if(Value.ref a==Value.ref b)=true then _ else _) Q E s
 by_cases hab:(Value.ref a==Value.ref b)=true
 ·rw[if_pos hab]
  have e:a=b:=by have:=eq_of_beq hab;injection this
  subst e
  obtain rfl:=hx.inj hy
  exact wpAny_bind (wpAny_rule (wpAny_pure (by simpa using h)))
 ·rw[if_neg hab]
  exact wpAny_bind (wpAny_richCompare_same_room (op:=.Eq) hx.typeIs hy.typeIs F.slot_tuple_eq
   (wpAny_call_entry F.slot_tuple_eq hx.typeIs F.entry_tuple_eq (OR (EB (by omega)) hx hy (fun k c v h1 e h2=>(no k c v h1 e h2).elim) ⟨_,rfl,(fun e=>nomatch e),wpAny_truthy_bool h⟩) (F.args_tuple_eq_2 _ _)) (by omega))
theorem LO {ks:List (K ⊕ K1)}{a:Addr}{Q:Bool→Shared→Prop}(n:Nat)(hn:D.dep+1<n)(hk:Fo knd D s.heap ks a)(h:Q true s):wpAny (model prog w) A (eqIsQuiet n (.ref a)) Q E s:=by
 obtain⟨n,rfl⟩:∃ m,n=m+1:=⟨n-1,by omega⟩
 have hT:=hk.typeIs
 obtain⟨o,items,n0,ho,_,hd,hi⟩:=hk
 unfold eqIsQuiet
 refine wpAny_bind (wpAny_specialOf hT F.slot_tuple_eq.lookup ?_)
 show wpAny _ _ (isInstance (.ref a) (.type "tuple") >>= _) _ _ s
 refine wpAny_bind (wpAny_isInstance hT isSubtype_tuple_tuple ?_)
 simp only[Bool.not_true,Bool.false_eq_true,if_false]
 refine wpAny_bind (wpAny_seqItems ho hd ?_)
 refine wpAny_bind ?_
 show wpAny _ _ (forIn items _ _) _ _ s
 rw[← Array.forIn_toList]
 refine wpAny_forIn_list _ (fun BH r s'=>r.1=none∧s'=s∧∃ ks',CN knd D s.heap ks' BH) _ ?_ ?_ _ _ ⟨rfl,rfl,ks,hi⟩
 ·rintro v BH r s' ⟨hr,hs',ks',hall⟩
  subst hs'
  cases hall with
  | val h1 ht=>
   rw[eqIsQuiet_byValue _ (knd.byValue _ _ h1)]
   refine wpAny_bind (wpAny_pure ?_)
   simp only[Bool.not_true,Bool.false_eq_true,if_false]
   exact wpAny_pure ⟨rfl,rfl,_,ht⟩
  | ref h1 ht=>
   refine wpAny_bind (D.quietN _ (by omega) h1 ?_)
   simp only[Bool.not_true,Bool.false_eq_true,if_false]
   exact wpAny_pure ⟨rfl,rfl,_,ht⟩
 ·rintro⟨r1,r2⟩ s' ⟨hr,rfl,_⟩
  simp only at hr
  subst hr
  exact wpAny_pure h
theorem MW {ks:List K}{a:Addr}{Q:Bool→Shared→Prop}(n:Nat)(hn:0<n)(hk:IsTupleKey knd s.heap ks a)(h:Q true s):wpAny (model prog w) A (eqIsQuiet n (.ref a)) Q E s:=by
 obtain⟨n,rfl⟩:∃ m,n=m+1:=⟨n-1,by omega⟩
 have hT:=hk.typeIs
 obtain⟨o,items,n0,ho,_,hd,hi⟩:=hk
 unfold eqIsQuiet
 refine wpAny_bind (wpAny_specialOf hT F.slot_tuple_eq.lookup ?_)
 show wpAny _ _ (isInstance (.ref a) (.type "tuple") >>= _) _ _ s
 refine wpAny_bind (wpAny_isInstance hT isSubtype_tuple_tuple ?_)
 simp only[Bool.not_true,Bool.false_eq_true,if_false]
 refine wpAny_bind (wpAny_seqItems ho hd ?_)
 refine wpAny_bind ?_
 show wpAny _ _ (forIn items _ _) _ _ s
 rw[← Array.forIn_toList]
 refine wpAny_forIn_list _ (fun BH r s'=>r.1=none∧s'=s∧∀ v∈BH,carriedByValue v=true) _ ?_ ?_ _ _ ⟨rfl,rfl,hi.byValue⟩
 ·rintro v BH r s' ⟨hr,rfl,hall⟩
  rw[eqIsQuiet_byValue _ (hall v List.mem_cons_self)]
  refine wpAny_bind (wpAny_pure ?_)
  simp only[Bool.not_true,Bool.false_eq_true,if_false]
  exact wpAny_pure ⟨rfl,rfl,fun u hu'=>hall u (List.mem_cons_of_mem _ hu')⟩
 ·rintro⟨r1,r2⟩ s' ⟨hr,rfl,_⟩
  simp only at hr
  subst hr
  exact wpAny_pure h
end
def Ti {prog:Program}{w:World}{K:Type}[DecidableEq K](knd:PySem.KeyKind prog w K):B5 prog w (List K):=
 { tupleKind knd with
  dep:=0
  roomOf:=fun _ h=>h
  quietN:=fun n hn hk h=>MW n hn hk h }
def MX (prog:Program)(w:World):PySem.KeyKind prog w Empty where
 is:=fun k _=>k.elim
 hash:=fun k=>k.elim
 inj:=fun _ a=>a.elim
 byValue:=fun k=>k.elim
 pyHash:=fun {_ _ _ k}=>k.elim
 eqBool:=fun {_ _ _ a}=>a.elim
 «strs»:=fun k=>k.elim
def VL {prog:Program}{w:World}{K1:Type}[DecidableEq K1](D:B5 prog w K1)(h8:D.dep≤5):B5 prog w (List (Empty ⊕ K1)) where
 is:=Fo (MX prog w) D
 hash:=MV (MX prog w) D
 draws:=fun ks=>Dh D ks+1
 room:=fun A=>A.units+(D.dep+2)<cLine
 inj:=fun hx hy=>hx.inj hy
 keeps:=fun x ho hd hs=>x.keeps ho hd hs
 pyHash:=fun hu hk h=>OQ hu hk h
 eqBool:=fun hu hx hy h=>OS hu hx hy (fun k=>k.elim) h
 quiet:=fun hk h=>LO 8 (by omega) hk h
 dep:=D.dep+2
 roomOf:=fun _ h=>h
 quietN:=fun n hn hk h=>LO n (by omega) hk h
section
variable {prog:Program}{w:World}{K1 K2:Type}[DecidableEq K1][DecidableEq K2]
def Fp (D1:B5 prog w K1)(D2:B5 prog w K2)(h:Heap)(k:K1×K2)(a:Addr):Prop:=∃ o items n b1 b2,h.get? a=some o∧o.cls=.type "tuple"∧o.data=.seq items n∧items.toList=[.ref b1,.ref b2]∧D1.is h k.1 b1∧D2.is h k.2 b2
variable {D1:B5 prog w K1}{D2:B5 prog w K2}
theorem Fp.inj {h:Heap}{a:Addr}{x y:K1×K2}(hx:Fp D1 D2 h x a)(hy:Fp D1 D2 h y a):x=y:=by
 obtain⟨o,items,n,b1,b2,ho,_,hd,hi,h1,h2⟩:=hx
 obtain⟨o',items',n',c1,c2,ho',_,hd',hi',g1,g2⟩:=hy
 obtain rfl:o=o':=Option.some.inj (ho.symm.trans ho')
 rw[hd]at hd'
 injection hd' with e _
 subst e
 rw[hi]at hi'
 simp only[List.cons.injEq,Value.ref.injEq,and_true]at hi'
 obtain⟨rfl,rfl⟩:=hi'
 exact Prod.ext (D1.inj h1 g1) (D2.inj h2 g2)
theorem Fp.keeps {h h':Heap}{k:K1×K2}{a d:Addr}{o:Obj}{es ep}(x:Fp D1 D2 h k a)(ho:h.get? d=some o)(hd:o.data=.dict es ep)(hs:Heap.SameBut d h h'):Fp D1 D2 h' k a:=by
 obtain⟨o',items,n,b1,b2,ho',hc,hd',hi,h1,h2⟩:=x
 have hne:a≠d:=by
  rintro rfl
  obtain rfl:o'=o:=Option.some.inj (ho'.symm.trans ho)
  rw[hd]at hd';exact nomatch hd'
 exact⟨o',items,n,b1,b2,(hs.2 a hne).trans ho',hc,hd',hi,D1.keeps h1 ho hd hs,D2.keeps h2 ho hd hs⟩
theorem Fp.typeIs {s:Shared}{k:K1×K2}{a:Addr}(x:Fp D1 D2 s.heap k a):s.TypeIs (.ref a) "tuple":=by
 obtain⟨o,_,_,_,_,ho,hc,_⟩:=x
 exact⟨o,ho,hc⟩
def MY (D1:B5 prog w K1)(D2:B5 prog w K2)(k:K1×K2):Int:=reduceHash (Builtin.Tuple.tupleHashOf [D1.hash k.1,D2.hash k.2])
variable {A:Around}{E:Value→Shared→Prop}{s:Shared}
theorem OT {k:K1×K2}{a:Addr}{Q:Int→Shared→Prop}(hu:A.units+(max D1.dep D2.dep+2)<cLine)(hk:Fp D1 D2 s.heap k a)(h:Q (MY D1 D2 k) { s with toks:=s.toks+(D1.draws k.1+D2.draws k.2+1) }):
 wpAny (model prog w) A (pyHash (.ref a)) Q E s:=by
 have hT:=hk.typeIs
 obtain⟨o,items,n,b1,b2,ho,_,hd,hi,h1,h2⟩:=hk
 unfold pyHash
 first | unfold pyHashByItsType | skip
 first | refine wpAny_bind (wpAny_cRoomFor_or (.inr (by omega)) ?_) | skip
 refine wpAny_bind (wpAny_specialOf hT F.slot_tuple_hash.lookup ?_)
 show wpAny _ _ (if(some (Value.builtin "tuple.__hash__")==some Value.none)=true then _ else _) Q E s
 rw[if_neg (by rw[beq_builtin_none];exact Bool.false_ne_true)]
 refine wpAny_bind (wpAny_specialOf hT F.slot_tuple_hash.lookup ?_)
 show wpAny _ _ (callSpecialIfBoundUnlessNone? (.ref a) "__hash__" _ >>= _) Q E s
 refine wpAny_bind (wpAny_callSpecialIfBoundUnlessNone?_slot hT F.slot_tuple_hash (wpAny_call_entry F.slot_tuple_hash hT F.entry_tuple_hash ?_ (F.args_tuple_hash_1 _)))
 show wpAny _ _ (Builtin.Tuple.tupleItemsOf (.ref a) >>= _) _ _ s
 refine wpAny_bind (wpAny_tupleItemsOf ho hd ?_)
 refine wpAny_bind ?_
 rw[← Array.forIn_toList,hi]
 refine wpAny_forIn_list _
  (fun BH (b:Array Int) s'=>(BH=[.ref b1,.ref b2]∧b.toList=[]∧s'=s)∨(BH=[.ref b2]∧b.toList=[D1.hash k.1]∧s'={ s with toks:=s.toks+D1.draws k.1 })∨(BH=[]∧b.toList=[D1.hash k.1,D2.hash k.2]∧s'={ s with toks:=s.toks+(D1.draws k.1+D2.draws k.2) }))
  _ ?_ ?_ _ _ (.inl ⟨rfl,rfl,rfl⟩)
 ·rintro x BH b s' (⟨e,hb,rfl⟩ | ⟨e,hb,rfl⟩ | ⟨e,_⟩)
  ·obtain⟨rfl,rfl⟩:x=.ref b1∧BH=[.ref b2]:=by simpa using e
   refine wpAny_bind (D1.pyHash (D1.roomOf _ (EB (by omega))) h1 ?_)
   first
    | exact wpAny_pure (.inr (.inl ⟨rfl,by simp[hb],rfl⟩))
    | exact wpAny_bind (wpAny_pure (wpAny_pure (.inr (.inl ⟨rfl,by simp[hb],rfl⟩))))
  ·obtain⟨rfl,rfl⟩:x=.ref b2∧BH=[]:=by simpa using e
   refine wpAny_bind (D2.pyHash (D2.roomOf _ (EB (by omega))) h2 ?_)
   first
    | exact wpAny_pure (.inr (.inr ⟨rfl,by simp[hb],by simp[Nat.add_assoc]⟩))
    | exact wpAny_bind (wpAny_pure (wpAny_pure (.inr (.inr ⟨rfl,by simp[hb],by simp[Nat.add_assoc]⟩))))
  ·cases e
 ·rintro b s' (⟨e,_⟩ | ⟨e,_⟩ | ⟨_,hb,rfl⟩)
  ·cases e
  ·cases e
  show wpAny _ _ (retInt (Builtin.Tuple.tupleHashOf b.toList)) _ _ _
  rw[hb]
  refine wpAny_ret_mkInt ?_
  show wpAny _ _ (if(decide (-(2:Int) ^ 63≤Builtin.Tuple.tupleHashOf [D1.hash k.1,D2.hash k.2])&&decide (Builtin.Tuple.tupleHashOf [D1.hash k.1,D2.hash k.2]<2 ^ 63))=true then _ else _) Q E _
  unfold MY reduceHash at h
  by_cases hr:(decide (-(2:Int) ^ 63≤Builtin.Tuple.tupleHashOf [D1.hash k.1,D2.hash k.2])&&decide (Builtin.Tuple.tupleHashOf [D1.hash k.1,D2.hash k.2]<2 ^ 63))=true
  ·rw[if_pos hr]
   rw[if_pos hr]at h
   exact wpAny_pure (by simpa [Nat.add_assoc]using h)
  ·rw[if_neg hr]
   rw[if_neg hr]at h
   exact wpAny_bind (wpAny_rule (wpAny_pure (by simpa [Nat.add_assoc]using h)))
theorem LP {k:K1×K2}{a:Addr}{Q:Bool→Shared→Prop}(n:Nat)(hn:max D1.dep D2.dep+1<n)(hk:Fp D1 D2 s.heap k a)(h:Q true s):wpAny (model prog w) A (eqIsQuiet n (.ref a)) Q E s:=by
 obtain⟨n,rfl⟩:∃ m,n=m+1:=⟨n-1,by omega⟩
 have hT:=hk.typeIs
 obtain⟨o,items,n0,b1,b2,ho,_,hd,hi,h1,h2⟩:=hk
 unfold eqIsQuiet
 refine wpAny_bind (wpAny_specialOf hT F.slot_tuple_eq.lookup ?_)
 show wpAny _ _ (isInstance (.ref a) (.type "tuple") >>= _) _ _ s
 refine wpAny_bind (wpAny_isInstance hT isSubtype_tuple_tuple ?_)
 simp only[Bool.not_true,Bool.false_eq_true,if_false]
 refine wpAny_bind (wpAny_seqItems ho hd ?_)
 refine wpAny_bind ?_
 show wpAny _ _ (forIn items _ _) _ _ s
 rw[← Array.forIn_toList,hi]
 refine wpAny_forIn_list _ (fun BH r s'=>r.1=none∧s'=s∧∀ v∈BH,v=.ref b1∨v=.ref b2) _ ?_ ?_ _ _ ⟨rfl,rfl,by simp⟩
 ·rintro v BH r s' ⟨hr,hs',hall⟩
  subst hs'
  have go:∀ v,(v=.ref b1∨v=.ref b2)→∀ Q:Bool→Shared→Prop,Q true s'→wpAny (model prog w) A (eqIsQuiet n v) Q E s':=fun v hv Q hQ=>by
   rcases hv with rfl | rfl
   ·exact D1.quietN _ (by omega) h1 hQ
   ·exact D2.quietN _ (by omega) h2 hQ
  refine wpAny_bind (go v (hall v List.mem_cons_self) _ ?_)
  simp only[Bool.not_true,Bool.false_eq_true,if_false]
  exact wpAny_pure ⟨rfl,rfl,fun u hu'=>hall u (List.mem_cons_of_mem _ hu')⟩
 ·rintro⟨r1,r2⟩ s' ⟨hr,rfl,_⟩
  simp only at hr
  subst hr
  exact wpAny_pure h
theorem OU {x y:K1×K2}{a b:Addr}{P:Fin→Shared→Prop}(hu:A.units+max D1.dep D2.dep<cLine)(hx:Fp D1 D2 s.heap x a)(hy:Fp D1 D2 s.heap y b)(h:P (.done (.ret (.bool (decide (x=y))))) s):
 wpAny (model prog w) A (Builtin.«tuple.__eq__» ⟨[.ref a,.ref b],[]⟩) P E s:=by
 have hTb:=hy.typeIs
 obtain⟨oa,xs,na,b1,b2,hoa,_,hda,hia,h1,h2⟩:=hx
 obtain⟨ob,ys,nb,c1,c2,hob,_,hdb,hib,g1,g2⟩:=hy
 show wpAny _ _ (isInstance (.ref b) (.type "tuple") >>= _) _ _ s
 refine wpAny_bind (wpAny_isInstance hTb isSubtype_tuple_tuple ?_)
 simp only[Bool.not_true,Bool.false_eq_true,if_false]
 refine wpAny_bind (wpAny_tupleItemsOf hoa hda ?_)
 refine wpAny_bind (wpAny_tupleItemsOf hob hdb ?_)
 refine wpAny_bind ?_
 have ez:List.zip xs.toList ys.toList=[(.ref b1,.ref c1),(.ref b2,.ref c2)]:=by rw[hia,hib];rfl
 have nf:∀{Q:Prop},(x≠y)→(P (.done (.ret (.bool false))) s→Q)→Q:=fun ne q=>q (by rw[decide_eq_false ne]at h;exact h)
 refine wpAny_forIn_list _
  (fun BH r s'=>r.1=none∧s'=s∧((BH=[(.ref b1,.ref c1),(.ref b2,.ref c2)])∨(BH=[(.ref b2,.ref c2)]∧x.1=y.1)∨(BH=[]∧x.1=y.1∧x.2=y.2)))
  _ ?_ ?_ _ _ ⟨rfl,rfl,.inl ez⟩
 ·rintro⟨u,v⟩ BH r s' ⟨hr,hs',(e | ⟨e,e1⟩ | ⟨e,_⟩)⟩
  ·subst hs'
   obtain⟨⟨rfl,rfl⟩,rfl⟩:(u=.ref b1∧v=.ref c1)∧BH=[(.ref b2,.ref c2)]:=by simpa using e
   refine wpAny_bind (D1.eqBool (D1.roomOf _ (by omega)) h1 g1 ?_)
   by_cases hk:x.1=y.1
   ·rw[decide_eq_true hk]
    simp only[Bool.not_true,Bool.false_eq_true,if_false]
    exact wpAny_pure ⟨by first | rfl | trivial,by first | rfl | trivial,.inr (.inl ⟨by first | rfl | trivial,hk⟩)⟩
   ·rw[decide_eq_false hk]
    simp only[Bool.not_false,if_true]
    exact nf (fun z=>hk (by rw[z])) fun h=>wpAny_bind (wpAny_pure (wpAny_pure (wpAny_pure h)))
  ·subst hs'
   obtain⟨⟨rfl,rfl⟩,rfl⟩:(u=.ref b2∧v=.ref c2)∧BH=[]:=by simpa using e
   refine wpAny_bind (D2.eqBool (D2.roomOf _ (by omega)) h2 g2 ?_)
   by_cases hk:x.2=y.2
   ·rw[decide_eq_true hk]
    simp only[Bool.not_true,Bool.false_eq_true,if_false]
    exact wpAny_pure ⟨by first | rfl | trivial,by first | rfl | trivial,.inr (.inr ⟨by first | rfl | trivial,e1,hk⟩)⟩
   ·rw[decide_eq_false hk]
    simp only[Bool.not_false,if_true]
    exact nf (fun z=>hk (by rw[z])) fun h=>wpAny_bind (wpAny_pure (wpAny_pure (wpAny_pure h)))
  ·cases e
 ·rintro⟨r1,r2⟩ s' ⟨hr,rfl,(e | ⟨e,_⟩ | ⟨_,e1,e2⟩)⟩
  ·cases e
  ·cases e
  simp only at hr
  subst hr
  refine wpAny_pure ?_
  have hfin:(xs.size==ys.size)=decide (x=y):=by
   have e3:x=y:=Prod.ext e1 e2
   have z1:xs.size=2:=by rw[← Array.length_toList,hia];rfl
   have z2:ys.size=2:=by rw[← Array.length_toList,hib];rfl
   rw[z1,z2,decide_eq_true e3];rfl
  show P (.done (.ret (.bool (xs.size==ys.size)))) s'
  rw[hfin];exact h
theorem OV {x y:K1×K2}{a b:Addr}{Q:Bool→Shared→Prop}(hu:A.units+(max D1.dep D2.dep+2)<cLine)(hx:Fp D1 D2 s.heap x a)(hy:Fp D1 D2 s.heap y b)(h:Q (decide (x=y)) s):
 wpAny (model prog w) A (PySem.eqBool (.ref a) (.ref b)) Q E s:=by
 unfold PySem.eqBool
 try with_reducible refine wpAny_holding ?_
 show wpAny _ _ (if(Value.ref a==Value.ref b)=true then _ else _) Q E s
 by_cases hab:(Value.ref a==Value.ref b)=true
 ·rw[if_pos hab]
  have e:a=b:=by have:=eq_of_beq hab;injection this
  subst e
  obtain rfl:=hx.inj hy
  exact wpAny_bind (wpAny_rule (wpAny_pure (by simpa using h)))
 ·rw[if_neg hab]
  exact wpAny_bind (wpAny_richCompare_same_room (op:=.Eq) hx.typeIs hy.typeIs F.slot_tuple_eq
   (wpAny_call_entry F.slot_tuple_eq hx.typeIs F.entry_tuple_eq (OU (EB (by omega)) hx hy ⟨_,rfl,(fun e=>nomatch e),wpAny_truthy_bool h⟩) (F.args_tuple_eq_2 _ _)) (by omega))
end
def VM {prog:Program}{w:World}{K1 K2:Type}[DecidableEq K1][DecidableEq K2](D1:B5 prog w K1)(D2:B5 prog w K2)(h8:max D1.dep D2.dep≤5):B5 prog w (K1×K2) where
 is:=Fp D1 D2
 hash:=MY D1 D2
 draws:=fun k=>D1.draws k.1+D2.draws k.2+1
 room:=fun A=>A.units+(max D1.dep D2.dep+2)<cLine
 inj:=fun hx hy=>hx.inj hy
 keeps:=fun x ho hd hs=>x.keeps ho hd hs
 pyHash:=fun hu hk h=>OT hu hk h
 eqBool:=fun hu hx hy h=>OV hu hx hy h
 quiet:=fun hk h=>LP 8 (by omega) hk h
 dep:=max D1.dep D2.dep+2
 roomOf:=fun _ h=>h
 quietN:=fun n hn hk h=>LP n (by omega) hk h
abbrev KN:=List A9×List (Empty ⊕ List A9)
def Sa (P:Program)(w:World):B5 P w KN:=VM (Ti (BA P w)) (VL (Ti (BA P w)) (by show 0≤5;omega)) (by show max 0 (0+2)≤5;decide)
def Tj (H:Hp)(c:Addr)(e:Empty ⊕ List A9):Prop:=∃ ks,e=.inr ks∧H c=some (.tup (ks.map kV))
def KNAt (H:Hp)(k:KN)(b:Addr):Prop:=∃(b1 b2:Addr) (cs:List Addr),H b=some (.tup [.ref b1,.ref b2])∧H b1=some (.tup (k.1.map kV))∧H b2=some (.tup (cs.map V.ref))∧Paired (Tj H) cs k.2
section
variable {P:Program}{w:World}{H:Hp}{h:Heap}{a:Addr}
theorem Px (ok:Eh P w H h):∀{cs:List Addr} {es:List (Empty ⊕ List A9)} {its:List Value},Paired (Tj H) cs es→Am (cs.map V.ref) its→CN (MX P w) (Ti (BA P w)) h es its
 | [],[],[],_,_=>.nil
 | c::cs,e::es,i::its,.cons p ps,.cons v vs=>by
  obtain⟨ks,rfl,hc⟩:=p
  cases (show i=Value.ref c from v)
  exact .ref (Gf ok hc) (Px ok ps vs)
theorem Hu {k:KN}{b:Addr}(ok:Eh P w H h)(e:KNAt H k b):(Sa P w).is h k b:=by
 obtain⟨b1,b2,cs,e0,e1,e2,p⟩:=e
 obtain⟨_,its,r,o,h1,h2,n,h3⟩:=(show A6 P w H h b (.tup [.ref b1,.ref b2])from ok b _ e0)
 obtain⟨_,its2,r2,o2,g1,g2,n2,g3⟩:=(show A6 P w H h b2 (.tup (cs.map V.ref))from ok b2 _ e2)
 refine⟨o,its.toArray,n,b1,b2,h1,h2,h3,?_,Gf ok e1,o2,its2.toArray,n2,g1,g2,g3,by simpa using Px ok p r2⟩
 cases r with
 | cons v vs=>
  cases vs with
  | cons v2 vs2=>
   cases vs2
   cases v
   cases v2
   rfl
def RN (p:KN×Addr×V)(q:KN×Addr×Value):Prop:=p.1=q.1∧p.2.1=q.2.1∧Ai p.2.2 q.2.2
def Xl (P:Program)(w:World)(a:Addr)(kvs:List (KN×Addr×V)):Heap→Prop:=fun h=>(a==sysModules)=false∧∃ xs:List (KN×Addr×Value),Paired RN kvs xs∧∃ o es ep,h.get? a=some o∧o.ExactDict∧o.data=.dict es ep∧es.toList=xs.map (entryOfKey (Sa P w).toHeapKind)∧(xs.map (·.1)).Nodup
def DN (P:Program)(w:World)(a:Addr)(kvs:List (KN×Addr×V)):HO:=.ext (Xl P w a kvs)
theorem Sb {H:Hp}{h:Heap}{kvs:List (KN×Addr×V)}(x:Xl P w a kvs h):A6 P w H h a (DN P w a kvs):=by
 refine⟨x,?_,fun h1 h2 y s=>?_⟩
 ·obtain⟨_,_,_,o,_,_,e,_⟩:=x
  exact⟨o,e⟩
 ·obtain⟨n,xs,r,o,es,ep,e,z⟩:=y
  exact⟨n,xs,r,o,es,ep,s o e,z⟩
theorem NZ {kvs:List (KN×Addr×V)}(ok:Eh P w H h)(e:H a=some (DN P w a kvs))(hk:∀ p∈kvs,KNAt H p.1 p.2.1):(a==sysModules)=false∧∃ xs,Paired RN kvs xs∧h.DictOfH (Sa P w).toHeapKind a xs:=by
 obtain⟨⟨n,xs,r,o,es,ep,h1,h2,h3,h4,h5⟩,_⟩:=(show A6 P w H h a (DN P w a kvs)from ok a _ e)
 refine⟨n,xs,r,o,es,ep,h1,h2,h3,h4,fun x hx=>?_,h5⟩
 have all:∀{l:List (KN×Addr×V)} {m:List (KN×Addr×Value)},Paired RN l m→(∀ p∈l,KNAt H p.1 p.2.1)→∀ x∈m,(Sa P w).is h x.1 x.2.1:=by
  intro l m q
  induction q with
  | nil=>intro _ x hx;exact nomatch hx
  | @cons p q ps qs hq t ih=>
   intro hl x hx
   rcases List.mem_cons.mp hx with e | hx
   ·subst e
    have:=hl p (by simp)
    rw[hq.1,hq.2.1]at this
    exact Hu ok this
   ·exact ih (fun p hp=>hl p (List.mem_cons_of_mem _ hp)) x hx
 exact all r hk x hx
def EC (kvs:List (KN×Addr×V))(k:KN):Option V:=(kvs.find? fun p=>decide (p.1=k)).map (·.2.2)
theorem IU {kvs:List (KN×Addr×V)}{xs:List (KN×Addr×Value)}(r:Paired RN kvs xs)(k:KN):Dx (EC kvs k) ((atKey xs k).map (·.2)):=by
 induction r with
 | nil=>exact True.intro
 | @cons p q ps qs h t ih=>
  obtain⟨h1,_,h2⟩:=h
  by_cases e:p.1=k
  ·have e':q.1=k:=h1.symm.trans e
   have b:atKey (q::qs) k=some q.2:=by simp[atKey,List.find?_cons,e']
   have b':EC (p::ps) k=some p.2.2:=by simp[EC,List.find?_cons,e]
   rw[b',b];exact h2
  ·have e':¬ q.1=k:=fun z=>e (h1.trans z)
   have b:atKey (q::qs) k=atKey qs k:=by simp[atKey,List.find?_cons,e']
   have b':EC (p::ps) k=EC ps k:=by simp[EC,List.find?_cons,e]
   rw[b',b];exact ih
end
section
variable {X:Cx}{pins:List (Addr×Obj)}{σ:St}{H:Hp}{s:Shared}{a b:Addr}{v:V}{r:Value}{A:Around}{E:Value→Shared→Prop}{kvs:List (KN×Addr×V)}{k:KN}
theorem IV (hu:A.units+5<cLine):(Sa P w).room A.in1:=EB (n:=4) hu
theorem OW {Q:Value→Shared→Prop}(hu:A.units+5<cLine)(I:Af X pins σ H s)(e:H a=some (DN X.prog X.w a kvs))(hk:∀ p∈kvs,KNAt H p.1 p.2.1)(eb:KNAt H k b)(hv:EC kvs k=some v)(h:∀ w' s',Af X pins σ H s'→Ai v w'→Q w' s'):
 wpAny (model X.prog X.w) A (getItem (.ref a) (.ref b)) Q E s:=by
 obtain⟨hd,xs,rel,dd⟩:=NZ I.hok e hk
 obtain⟨w',hw,rw'⟩:=Dx.some_of (v:=v) (o:=(atKey xs k).map (·.2)) (by rw[← hv];exact IU rel k)
 obtain⟨p,hp,hp2⟩:=Option.map_eq_some_iff.mp hw
 refine wpAny_getItem_heap (knd:=(Sa X.prog X.w).toHeapKind) (IV hu) (Hu I.hok eb) dd hp ?_
 rw[hp2]
 exact h w' _ (I.tok _) rw'
theorem Rk {Q:Value→Shared→Prop}(hu:A.units+5<cLine)(I:Af X pins σ H s)(e:H a=some (DN X.prog X.w a kvs))(hk:∀ p∈kvs,KNAt H p.1 p.2.1)(eb:KNAt H k b)(h:∀ s',Af X pins σ H s'→Q (.bool (!(EC kvs k).isSome)) s'):
 wpAny (model X.prog X.w) A (compareOp .NotIn (.ref b) (.ref a)) Q E s:=by
 obtain⟨hd,xs,rel,dd⟩:=NZ I.hok e hk
 refine wpAny_notIn_heap (knd:=(Sa X.prog X.w).toHeapKind) (IV hu) (Hu I.hok eb) hd dd ?_
 have q:=(IU rel k).isSome_eq
 rw[Option.isSome_map]at q
 rw[← q]
 exact h _ (I.tok _)
theorem Na {p:KN×Addr×V}{q:KN×Addr×Value}(h:RN p q):∀{l:List (KN×Addr×V)} {m:List (KN×Addr×Value)},Paired RN l m→Paired RN (l++[p]) (m++[q])
 | _,_,.nil=>.cons h .nil
 | _,_,.cons x t=>.cons x (Na h t)
theorem Py {Q:Unit→Shared→Prop}(hu:A.units+5<cLine)(I:Af X pins σ H s)(e:H a=some (DN X.prog X.w a kvs))(hk:∀ p∈kvs,KNAt H p.1 p.2.1)(hl:kvs.length<sizeLine)(eb:KNAt H k b)(hv:EC kvs k=none)(rv:Ai v r)(h:∀ s',Af X pins σ (upd H a (DN X.prog X.w a (kvs++[(k,b,v)]))) s'→Q () s'):
 wpAny (model X.prog X.w) A (setItem (.ref a) (.ref b) r) Q E s:=by
 obtain⟨hd,xs,rel,dd⟩:=NZ I.hok e hk
 have hz:xs.length≤sizeLine:=by rw[← Paired.length rel];omega
 have hnone:atKey xs k=none:=by
  have q:=(IU rel k).isSome_eq
  rw[hv,Option.isSome_map]at q
  cases hh:atKey xs k with
  | none=>rfl
  | some z=>rw[hh]at q;cases q
 refine wpAny_setItem_heap (knd:=(Sa X.prog X.w).toHeapKind) (hsz:=hz) (IV hu) (Hu I.hok eb) dd fun h' dd' hs=>h _ ?_
 obtain⟨q,es,ep,hq,h2,h3,h4,_,h5⟩:=dd'
 rw[storedH_new hnone]at h4 h5
 exact J8 I (by rw[e];exact True.intro) hs ⟨q,hq⟩ (Sb ⟨hd,_,Na ⟨rfl,rfl,rv⟩ rel,q,es,ep,hq,h2,h3,h4,h5⟩)
end
def XA (X:Cx)(H:Hp)(a b:Addr)(kvs:List (KN×Addr×V))(k:KN):Prop:=H a=some (DN X.prog X.w a kvs)∧(∀ p∈kvs,KNAt H p.1 p.2.1)∧KNAt H k b
theorem Pz {X:Cx}{pins:List (Addr×Obj)}{σ:St}{H:Hp}{s:Shared}{a:Addr}{kvs:List (KN×Addr×V)}(I:Af X pins σ H s)(e:H a=some (DN X.prog X.w a kvs))(hk:∀ p∈kvs,KNAt H p.1 p.2.1):s.TypeIs (.ref a) "dict":=by
 obtain⟨_,xs,_,dd⟩:=NZ I.hok e hk
 exact dd.typeIs
def VN (X:Cx)(td ty:TE):TE:=fun σ H Q=>td σ H fun x H1=>ty σ H1 fun y H2=>∃ a b kvs k v,x=.ref a∧y=.ref b∧XA X H2 a b kvs k∧EC kvs k=some v∧Q v H2
def VO (X:Cx)(td ty tv:TE):TS:=fun D σ H=>tv σ H fun v H1=>td σ H1 fun x H2=>ty σ H2 fun y H3=>∃ a b kvs k,x=.ref a∧y=.ref b∧XA X H3 a b kvs k∧kvs.length<sizeLine∧EC kvs k=none∧D.nx σ (upd H3 a (DN X.prog X.w a (kvs++[(k,b,v)])))
def Tk (X:Cx):TE:=fun _ H Q=>∀ p,H p=none→Q (.ref p) (upd H p (DN X.prog X.w p []))
theorem P2 {P:Program}{w:World}{H:Hp}(h:Heap)(hb:sysModules<h.objs.size):A6 P w H (h.push { cls:=.type "dict",data:=.dict #[] }) h.objs.size (DN P w h.objs.size []):=
 Sb ⟨beq_eq_false_iff_ne.mpr (Ne.symm (Nat.ne_of_lt hb)),[],.nil,_,#[],0,Heap.get?_push_size _ rfl,⟨rfl,rfl,rfl⟩,rfl,rfl,List.nodup_nil⟩
section
variable {X:Cx}{o i e value:Expr}{pos pos' tpos:Pos}{td ty tv:TE}
theorem P3 (hu:X.A.units+5<cLine)(ho:PE X o td)(hi:PE X i ty)(hs:TL i):PE X (.Subscript o i pos) (VN X td ty):=by
 intro pins s σ H Q I h
 refine NO PySem.F.slot_dict_getitem.lookup hs (BI (ho pins s σ H _ I h) fun u s1 ⟨x,H1,I1,rx,q1⟩=>BI (hi pins s1 σ H1 _ I1 q1) fun iv s2 zq=>?_)
 obtain⟨y,H2,I2,ry,a,b,kvs,k,v,ex,ey,⟨g1,g2,g3⟩,hv,q2⟩:=zq
 subst ex ey
 obtain rfl:u=Value.ref a:=rx
 obtain rfl:iv=Value.ref b:=ry
 exact⟨Pz I2 g1 g2,OW hu I2 g1 g2 g3 hv fun w' s3 I3 rw'=>⟨v,H2,I3,rw',q2⟩⟩
theorem Rl (hu:X.A.units+5<cLine):FR X (compareOp .NotIn) (fun y x H Q=>∃ a b kvs k,x=.ref a∧y=.ref b∧XA X H a b kvs k∧Q (.bl (!(EC kvs k).isSome)) H):=by
 intro pins s σ H x y v u Q I rx ry h
 obtain⟨a,b,kvs,k,rfl,rfl,⟨g1,g2,g3⟩,q⟩:=h
 cases ry
 cases rx
 exact Rk hu I g1 g2 g3 fun s' I'=>⟨.bl _,H,I',rfl,q⟩
theorem Rm (hu:X.A.units+5<cLine)(ho:PE X o td)(hi:PE X i ty)(hv:PE X value tv)(hs:swapsWith value (some (.Subscript o i pos')) pos.line X.env=pure false):
 PS X (.Assign [.Subscript o i pos'] value pos) (VO X td ty tv):=by
 intro pins s σ H D I h
 refine wpAny_Assign_Subscript (BI (hv pins s σ H _ I h) fun r s1 ⟨v,H1,I1,rv,q1⟩=>BI (ho pins s1 σ H1 _ I1 q1) fun u s2 ⟨x,H2,I2,rx,q2⟩=>BI (hi pins s2 σ H2 _ I2 q2) fun iv s3 zq=>?_) hs
 obtain⟨y,H3,I3,ry,a,b,kvs,k,ex,ey,⟨g1,g2,g3⟩,hl,hv,q3⟩:=zq
 subst ex ey
 obtain rfl:u=Value.ref a:=rx
 obtain rfl:iv=Value.ref b:=ry
 exact Py hu I3 g1 g2 hl g3 hv rv fun s4 I4=>⟨σ,_,I4,q3⟩
theorem P4:PE X (.Dict [] [] pos) (Tk X):=fun pins s σ H Q I h=>
 wpAny_Dict_empty ⟨.ref s.heap.objs.size,_,I.laid (a:=s.heap.objs.size) (o:=DN X.prog X.w s.heap.objs.size []) (t':=s.toks) (fun _ _ q=>Heap.get?_push_of_some _ q) (Nat.le_refl _) (P2 s.heap I.big),rfl,h _ (I.hok.fresh (Nat.le_refl _))⟩
end
end L2
namespace L2.PSt
open PySem PySem.Spec PyProof.Rows L2
def d0:Str:=⟨#[]⟩
def Kq (p q:Str×Str):Bool:=if p.1=q.1 then decide (p.2.cps.toList<q.2.cps.toList)else decide (p.1.cps.toList<q.1.cps.toList)
theorem Nb {a b:Str}(h:a.cps.toList=b.cps.toList):a=b:=by
 cases a with
 | mk x=>
  cases b with
  | mk y=>exact congrArg Str.mk (Array.toList_inj.mp h)
theorem Sc {p q:Str×Str}:Kq p q=false↔(p.1=q.1∧¬ p.2.cps.toList<q.2.cps.toList)∨q.1.cps.toList<p.1.cps.toList:=by
 unfold Kq
 by_cases e:p.1=q.1
 ·rw[if_pos e,decide_eq_false_iff_not]
  refine⟨fun h=>.inl ⟨e,h⟩,fun h=>?_⟩
  rcases h with h | h
  ·exact h.2
  ·rw[e]at h;exact absurd h (List.lt_irrefl _)
 ·rw[if_neg e,decide_eq_false_iff_not]
  refine⟨fun h=>.inr ?_,fun h=>?_⟩
  ·by_cases c:q.1.cps.toList<p.1.cps.toList
   ·exact c
   ·exact absurd (Nb (List.le_antisymm (List.not_lt.mp c) (List.not_lt.mp h))) e
  ·rcases h with h | h
   ·exact absurd h.1 e
   ·intro z;exact absurd (List.lt_trans h z) (List.lt_irrefl _)
theorem KA (k:Nat→Str×Str):StrT.Ord (fun i j=>Kq (k i) (k j)) where
 tr:=fun a b c h1 h2=>by
  rw[Sc]at h1 h2 ⊢
  rcases h1 with⟨e1,m1⟩ | l1
  ·rcases h2 with⟨e2,m2⟩ | l2
   ·exact .inl ⟨e2.trans e1,List.not_lt.mpr (List.le_trans (List.not_lt.mp m1) (List.not_lt.mp m2))⟩
   ·rw[e1]at l2;exact .inr l2
  ·rcases h2 with⟨e2,m2⟩ | l2
   ·rw[← e2]at l1;exact .inr l1
   ·exact .inr (List.lt_trans l1 l2)
 as:=fun a b h1=>by
  rw[Sc]
  unfold Kq at h1
  by_cases e:(k a).1=(k b).1
  ·rw[if_pos e,decide_eq_true_eq]at h1
   exact .inl ⟨e.symm,fun z=>absurd (List.lt_trans h1 z) (List.lt_irrefl _)⟩
  ·rw[if_neg e,decide_eq_true_eq]at h1
   exact .inr h1
def BG (h:Heap)(v:Value)(p:Str×Str):Prop:=∃ a t u,v=.ref a∧IsTup h a #[.str p.1 t,.str p.2 u]
abbrev Rise (ps:List (Str×Str)):Prop:=ps.Pairwise fun p q=>Kq q p=false
section
variable {P:Program}{w:World}{A:Around}{E:Value→Shared→Prop}{s:Shared}
theorem KB {x y:Value}{p q:Str×Str}(hx:BG s.heap x p)(hy:BG s.heap y q){C:Bool→Shared→Prop}(h:C (Kq p q) s):
 wpAny (model P w) A (keyLt' (tuples' true) x y) C (fun _ _=>False) s:=by
 obtain⟨a,t,u,rfl,o,ho,hc,n,hd⟩:=hx
 obtain⟨a',t',u',rfl,o',ho',hc',n',hd'⟩:=hy
 refine PySem.W.kat_lt ho hd ho' hd' (PySem.W.kat_cons (wpAny_eqBool_str ?_))
 unfold Kq at h
 cases e:decide (p.1=q.1)with
 | true=>
  have e':p.1=q.1:=by simpa using e
  rw[if_pos e']at h
  refine PySem.W.kat_yes (PySem.W.kat_cons (wpAny_eqBool_str ?_))
  cases e2:decide (p.2=q.2)with
  | true=>
   have e3:p.2=q.2:=by simpa using e2
   refine PySem.W.kat_yes (PySem.W.kat_nil ?_)
   have:decide (p.2.cps.toList<q.2.cps.toList)=false:=by simp[e3]
   rw[this]at h
   exact h
  | false=>exact PySem.W.kat_no (PySem.W.kat_one _ _ (lt_str h))
 | false=>
  have e':¬ p.1=q.1:=by simpa using e
  rw[if_neg e']at h
  exact PySem.W.kat_no (oneLt_str h)
theorem Fk {vs:List Value}{ps:List (Str×Str)}{Q:SortKind→Shared→Prop}(h2:0<vs.length)(r:Paired (BG s.heap) vs ps)(h:Q (tuples' true) s):wpAny (model P w) A (keyKind' vs.toArray) Q E s:=by
 obtain⟨fs,t,hf,hi⟩:∃ fs:List Value,PySem.W.KatTups s.heap vs fs∧fs.length=vs.length∧∀ v∈fs,∃ i t,v=.str i t:=by
  clear h2 h
  induction r with
  | nil=>exact⟨[],.nil,rfl,fun v hv=>by cases hv⟩
  | cons r _ ih=>
   obtain⟨fs,t,hf,hi⟩:=ih
   obtain⟨a,t1,u,rfl,o,ho,hc,n,hd⟩:=r
   exact⟨_::fs,.cons ho hc hd rfl t,by simp[hf],fun v hv=>by
    rcases List.mem_cons.mp hv with rfl | hv
    ·exact⟨_,_,rfl⟩
    ·exact hi v hv⟩
 refine PySem.W.kat_kind (T:=.type "str") t (by omega) (fun v hv=>?_) (by rfl) h
 obtain⟨i,t,rfl⟩:=hi v hv
 exact PySem.W.Looks.of_pure rfl
theorem Jm {α:Type}{N:Nat}{lt:Nat→Nat→Bool}{cmp:Nat→Nat→(Bool→Shared→Prop)→Shared→Prop}(hc:∀ i j C,i<N→j<N→C (lt i j) s→cmp i j C s){R:α→Prop}{Q:α→Shared→Prop}(hq:∀ a,R a→Q a s):
 ∀{t:PySem.W.KasT α},StrT.Wp N lt t R→t.kasWp cmp Q s
 | .ret a,h=>hq a h
 | .ask i j k,h=>hc i j _ h.1 h.2.1 (Jm hc hq h.2.2)
theorem A7 {α β:Type}{F:α→β→Prop}{d:α}{e:β}:∀{xs:List α} {ys:List β},Paired F xs ys→∀{j:Nat},j<xs.length→F (xs.getD j d) (ys.getD j e)
 | _,_,.nil,_,h=>absurd h (Nat.not_lt_zero _)
 | _,_,.cons r _,0,_=>r
 | _,_,.cons _ t,j+1,h=>by simpa using A7 t (d:=d) (e:=e) (j:=j) (by simpa using h)
theorem Cb {α β γ:Type}{F:α→β→Prop}{f:γ→α}{g:γ→β}:∀{zs:List γ},(∀ z∈zs,F (f z) (g z))→Paired F (zs.map f) (zs.map g)
 | [],_=>.nil
 | z::zs,h=>.cons (h z (List.mem_cons_self ..)) (Cb fun z' hz=>h z' (List.mem_cons_of_mem _ hz))
theorem range_getD {α:Type}(d:α)(xs:List α):(List.range xs.length).map (fun i=>xs.getD i d)=xs:=by
 apply List.ext_getElem
 ·simp
 ·intro i h1 h2
  simp at h1
  simp[h1]
theorem Fl {vs:List Value}{ps:List (Str×Str)}(r:Paired (BG s.heap) vs ps)(h2:2≤vs.length)(h64:vs.length<64){Q:SortSt→Shared→Prop}
 (h:∀ st' out ps',(arrOf st').map (·.2)=List.toArray out→failedOf st'=none→out.length=vs.length→(∀ F:Value→Str×Str→Prop,Paired F vs ps→Paired F out ps')→ps'.Perm ps→Rise ps'→Q st' s):
 wpAny (model P w) A (sortRuns'.run (SortSt.mk' (tuples' true) (vs.toArray.zip vs.toArray) #[] 7 none)) (fun r s'=>Q r.2 s') E s:=by
 have hlen:vs.length=ps.length:=Paired.length r
 refine PySem.W.kat_run (κ:=tuples' true) (G:=fun p s'=>s'=s∧p.size=vs.length∧p.toList.Perm (List.range vs.length)∧StrT.Up (fun i j=>Kq (ps.getD i (d0,d0)) (ps.getD j (d0,d0))) p vs.length) rfl h2 h64 ?_ ?_
 ·rintro p st' s' hp har hf ⟨rfl,hz,hperm,hup⟩
  refine h st' _ (p.toList.map fun i=>ps.getD i (d0,d0)) (PySem.W.kat_snds rfl har) hf (by simp[hz]) (fun F rF=>Cb fun i hi=>?_) ?_ ?_
  ·have:i<vs.length:=by simpa using hperm.mem_iff.mp hi
   exact A7 rF this
  ·have e:=hperm.map fun i=>ps.getD i (d0,d0)
   rw[hlen,range_getD]at e
   exact e
  ·show List.Pairwise _ _
   rw[List.pairwise_map,List.pairwise_iff_getElem]
   intro i j hi hj hij
   have hj':j<p.size:=by simpa using hj
   have hi':i<p.size:=by simpa using hi
   have u:=hup i j (Nat.le_of_lt hij) (by omega)
   have gi:StrT.gg p i=p.toList[i]:=by simp[StrT.gg,Array.getD,hi']
   have gj:StrT.gg p j=p.toList[j]:=by simp[StrT.gg,Array.getD,hj']
   rw[gi,gj]at u
   exact u
 ·refine Jm (N:=vs.length) (lt:=fun i j=>Kq (ps.getD i (d0,d0)) (ps.getD j (d0,d0))) (fun i j C hi hj hC=>?_) (fun p hp=>⟨rfl,hp⟩) (StrT.sort_ (KA _) (by omega))
  exact KB (A7 r hi) (A7 r hj) hC
theorem Gg {a:Addr}{vs:List Value}{n:Nat}{h h':Heap}(ho:h.get? a=some (seqObj "list" vs.toArray n))(k:∀ b o,b≠a→h.get? b=some o→h'.get? b=some o){v:Value}{p:Str×Str}(x:BG h v p):BG h' v p:=by
 obtain⟨b,t,u,rfl,o,e,hc,n',hd⟩:=x
 refine⟨b,t,u,rfl,o,k b o (fun z=>?_) e,hc,n',hd⟩
 subst z
 rw[ho]at e
 cases e
 exact absurd (Value.type.inj hc) (by decide)
theorem Fn {a:Addr}{vs:List Value}{ps:List (Str×Str)}{n:Nat}{R:PySem.Fin→Shared→Prop}(ho:s.heap.get? a=some (seqObj "list" vs.toArray n))(r:Paired (BG s.heap) vs ps)(h64:vs.length<64)
 (h:∀(out:List Value) (ps':List (Str×Str)),(∀ F:Value→Str×Str→Prop,Paired F vs ps→Paired F out ps')→out.length=vs.length→ps'.Perm ps→Rise ps'→R (.done (.ret .none)) { s with heap:=sortedHeap s.heap a vs out.toArray }):
 wpAny (model P w) A (Builtin.«list.sort» ⟨[.ref a],[]⟩) R E s:=by
 have ha:a<s.heap.objs.size:=Heap.lt_size ho
 have hz:sizeLine=16777216:=sizeLine_eq
 rw[list_sort_plain]
 refine wpAny_bind (listItems_at ho rfl (wpAny_bind (listUpdate_at ho rfl ?_ (by rw[List.size_toArray];omega) (Nat.zero_le _))))
 obtain⟨e1,ho1⟩:∃ e1,(s.heap.update a (Obj.mapSeq fun _=>#[])).get? a=some (seqObj "list" #[] e1):=⟨_,get?_update_seq ho _⟩
 refine wpAny_bind (seqEpoch_at ho1 rfl (wpAny_bind (wpAny_newTuple (wpAny_bind (wpAny_newList (wpAny_holding ?_) (Nat.zero_le _))) (by show vs.length≤_;omega))))
 show wpAny (model P w) A _ R E { s with heap:=((s.heap.update a (Obj.mapSeq fun _=>#[])).push (seqObj "tuple" vs.toArray 0)).push (seqObj "list" #[] 0) }
 generalize hg:((s.heap.update a (Obj.mapSeq fun _=>#[])).push (seqObj "tuple" vs.toArray 0)).push (seqObj "list" #[] 0)=hh
 have hk:∀ b o,b≠a→s.heap.get? b=some o→hh.get? b=some o:=fun b o hb e=>by
  subst hg
  exact Heap.get?_push_of_some _ (Heap.get?_push_of_some _ ((Heap.get?_update_ne _ _ _ _ hb).trans e))
 have ho6:hh.get? a=some (seqObj "list" #[] e1):=by
  subst hg
  exact Heap.get?_push_of_some _ (Heap.get?_push_of_some _ ho1)
 have he:∀ out:List Value,sortedHeap s.heap a vs out.toArray=hh.update a (Obj.mapSeq fun _=>out.toArray):=fun out=>by subst hg;rfl
 have ends:∀(st':SortSt) (out:List Value) (ps':List (Str×Str)),(arrOf st').map (·.2)=List.toArray out→failedOf st'=none→(∀ F:Value→Str×Str→Prop,Paired F vs ps→Paired F out ps')→out.length=vs.length→ps'.Perm ps→Rise ps'→
  wpAny (model P w) A (do
   let touched:=(← seqEpoch a) != e1
   Builtin.List.listUpdate (.ref a) fun _=>(arrOf st').map (·.2)
   if let some e:=failedOf st' then rule "list.sort.comparison-raised";throw e
   if touched then rule "list.sort.modified";raiseError "ValueError" "list modified during sort"
   ret .none) R E { s with heap:=hh }:=fun st' out ps' h1 hf h3 h4 h5 h6=>by
  refine wpAny_bind (seqEpoch_at ho6 rfl (wpAny_bind (listUpdate_at ho6 rfl ?_ (Nat.zero_le _) (by rw[h1,List.size_toArray];omega))))
  rw[h1,hf]
  simp only[bne_self_eq_false,Bool.false_eq_true,if_false]
  have q:=h out ps' h3 h4 h5 h6
  rw[he]at q
  exact wpAny_pure q
 dsimp only
 by_cases c2:vs.toArray.size<2
 ·rw[if_pos c2,if_pos c2]
  refine wpAny_bind (wpAny_pure ?_)
  rw[StateT.run_pure]
  refine wpAny_bind (wpAny_pure (ends (SortSt.mk' general' (vs.toArray.zip vs.toArray) #[] 7 none) vs ps ?_ rfl (fun _ x=>x) rfl (List.Perm.refl _) ?_))
  ·show((pairsOf vs).map (·.2))=_
   apply Array.toList_inj.mp
   rw[Array.toList_map,pairsOf_toList]
   exact List.map_snd_zip (Nat.le_refl _)
  ·have hl:vs.length=ps.length:=Paired.length r
   rw[List.size_toArray]at c2
   match ps,hl with
   | [],_=>exact .nil
   | [_],_=>exact List.pairwise_singleton _ _
   | _::_::_,hl=>simp at hl;omega
 ·rw[if_neg c2,if_neg c2]
  rw[List.size_toArray]at c2
  have r':Paired (BG hh) vs ps:=Paired.imp' (fun v p x=>Gg ho hk x) r
  refine wpAny_bind (Fk (s:={ s with heap:=hh }) (by omega) r' (wpAny_bind (wpAny_mono (Fl (s:={ s with heap:=hh })
   (Q:=fun st' s'=>s'={ s with heap:=hh }∧∃ out ps',(arrOf st').map (·.2)=List.toArray out∧failedOf st'=none∧out.length=vs.length∧(∀ F:Value→Str×Str→Prop,Paired F vs ps→Paired F out ps')∧ps'.Perm ps∧Rise ps')
   r' (by omega) h64 fun st' out ps' h1 hf h4 h3 h5 h6=>⟨rfl,out,ps',h1,hf,h4,h3,h5,h6⟩) ?_ fun _ _ e=>e)))
  rintro⟨_,st'⟩ s' ⟨rfl,out,ps',h1,hf,h4,h3,h5,h6⟩
  exact ends st' out ps' h1 hf h3 h4 h5 h6
theorem Ew (h:Heap)(vs:List Value)(out:Array Value):(∀ b o,h.get? b=some o→(sortedAll h vs out).get? b=some o)∧∃ c,(sortedAll h vs out).get? (h.objs.size+1)=some (seqObj "list" out c):=by
 have hz:((h.push (seqObj "list" #[] 0)).update h.objs.size (Obj.mapSeq (·++vs.toArray))).objs.size=h.objs.size+1:=by rw[Heap.size_update,size_push']
 have hn:(((h.push (seqObj "list" #[] 0)).update h.objs.size (Obj.mapSeq (·++vs.toArray))).push (seqObj "list" vs.toArray 0)).get? (h.objs.size+1)=some (seqObj "list" vs.toArray 0):=by
  rw[← hz];exact Heap.get?_push_size _ rfl
 refine⟨fun b o e=>?_,?_⟩
 ·have hb:b<h.objs.size:=Heap.lt_size e
  refine(Heap.get?_update_ne _ _ _ _ (Nat.ne_of_lt (Nat.lt_succ_of_lt hb))).trans (Heap.get?_push_of_some _ (Heap.get?_push_of_some _ ((Heap.get?_update_ne _ _ _ _ (Nat.ne_of_lt (Nat.lt_succ_of_lt hb))).trans ?_)))
  exact Heap.get?_push_of_some _ ((Heap.get?_update_ne _ _ _ _ (Nat.ne_of_lt hb)).trans (Heap.get?_push_of_some _ e))
 ·exact⟨_,get?_update_seq (Heap.get?_push_of_some _ (Heap.get?_push_of_some _ (get?_update_seq hn fun _=>#[]))) fun _=>out⟩
theorem LQ {l:Addr}{vs:List Value}{Q:List Value→Shared→Prop}(hl:IsTup s.heap l vs.toArray)
 (h:Q vs { s with heap:=(s.heap.push (seqObj "list" #[] 0)).update s.heap.objs.size (Obj.mapSeq (·++vs.toArray)) }) (hsz:vs.length≤sizeLine):
 wpAny (model P w) A (collect (.ref l)) Q E s:=by
 obtain⟨o,ho,hc,n,hd⟩:=id hl
 unfold collect
 refine wpAny_bind (wpAny_runValue (codeAny_builtin entry_proto_collect' ?_))
 show wpAny _ _ (do again (.builtin "list.__iadd__" ⟨[← newList [],.ref l],[]⟩)) _ _ s
 refine wpAny_bind (wpAny_newList (wpAny_pure ⟨Code.quiet_builtin _ (by nofun),codeAny_builtin entry_list_iadd' ?_⟩))
 show wpAny _ _ (Builtin.List.listExtendWith (.ref s.heap.objs.size) (.ref l) (.ref s.heap.objs.size)) _ _ { s with heap:=s.heap.push (seqObj "list" #[] 0) }
 unfold Builtin.List.listExtendWith
 have ho':(s.heap.push (seqObj "list" #[] 0)).get? l=some o:=Heap.get?_push_of_some _ ho
 refine wpAny_bind (wpAny_typeOf (T:="tuple") ⟨o,ho',hc⟩ ?_)
 have ht:(Value.type "tuple"==Value.type "tuple")=true:=by rfl
 rw[if_pos (by rw[ht];simp)]
 refine wpAny_bind (listItems_at ho' hd ?_)
 refine wpAny_bind (listItems_at (xs:=#[]) (n:=0) (Heap.get?_push_size _ rfl) rfl ?_)
 rw[if_neg (by simp)]
 refine wpAny_bind (listUpdate_at (xs:=#[]) (n:=0) (Heap.get?_push_size _ rfl) rfl ?_ (Nat.zero_le _) (by show(#[]++vs.toArray).size≤sizeLine+1;simp only[Array.size_append,List.size_toArray,List.length_nil];omega))
 refine wpAny_pure ?_
 show wpAny (model P w) A (do
  let o ← load s.heap.objs.size
  match o.data with
  | .seq xs _=>pure xs.toList
  | _=>unsupported "internal:collect") Q E { s with heap:=(s.heap.push (seqObj "list" #[] 0)).update s.heap.objs.size (Obj.mapSeq (·++vs.toArray)) }
 refine wpAny_bind (wpAny_load (get?_update_seq (Heap.get?_push_size _ rfl) _) ?_)
 show wpAny _ _ (pure ((#[]:Array Value)++vs.toArray).toList) Q E _
 rw[show((#[]:Array Value)++vs.toArray).toList=vs by simp]
 exact wpAny_pure h
theorem EO {l:Addr}{vs:List Value}{ps:List (Str×Str)}{Q:Value→Shared→Prop}(hl:IsTup s.heap l vs.toArray)(r:Paired (BG s.heap) vs ps)(h64:vs.length<64)
 (h:∀(out:List Value) (ps':List (Str×Str)),(∀ F:Value→Str×Str→Prop,Paired F vs ps→Paired F out ps')→out.length=vs.length→ps'.Perm ps→Rise ps'→Q (.ref (s.heap.objs.size+1)) { s with heap:=sortedAll s.heap vs out.toArray }):
 wpAny (model P w) A (call (.builtin "sorted") [.ref l]) Q E s:=by
 have hz0:sizeLine=16777216:=sizeLine_eq
 refine Calls.call_function_entry kind_sorted plain_sorted entry_sorted (args_sorted1 _) ?_
 unfold Builtin.«sorted»
 refine wpAny_bind (m:=checkCount "sorted" 1 1 _) (wpAny_pure (wpAny_bind (LQ hl (wpAny_bind (wpAny_newList ?_ (by omega))) (by omega))))
 have hz:((s.heap.push (seqObj "list" #[] 0)).update s.heap.objs.size (Obj.mapSeq (·++vs.toArray))).objs.size=s.heap.objs.size+1:=by rw[Heap.size_update,size_push']
 show wpAny (model P w) _ _ _ _ { s with heap:=((s.heap.push (seqObj "list" #[] 0)).update s.heap.objs.size (Obj.mapSeq (·++vs.toArray))).push (seqObj "list" vs.toArray 0) }
 rw[hz]
 generalize hg:((s.heap.push (seqObj "list" #[] 0)).update s.heap.objs.size (Obj.mapSeq (·++vs.toArray))).push (seqObj "list" vs.toArray 0)=hh
 have hn:hh.get? (s.heap.objs.size+1)=some (seqObj "list" vs.toArray 0):=by
  subst hg
  rw[← hz];exact Heap.get?_push_size _ rfl
 have kp:∀ b o,s.heap.get? b=some o→hh.get? b=some o:=fun b o e=>by
  subst hg
  exact Heap.get?_push_of_some _ ((Heap.get?_update_ne _ _ _ _ (Nat.ne_of_lt (Heap.lt_size e))).trans (Heap.get?_push_of_some _ e))
 have r':Paired (BG hh) vs ps:=Paired.imp' (fun v p x=>by
  obtain⟨b,t,u,rfl,o,e,c⟩:=x
  exact⟨b,t,u,rfl,o,kp b o e,c⟩) r
 refine wpAny_bind (wpAny_holding (wpAny_call_entry (s:={ s with heap:=hh }) slot_list_sort ⟨_,hn,rfl⟩ entry_list_sort (Fn (s:={ s with heap:=hh }) hn r' h64 fun out ps' h1 h2 h3 h4=>⟨_,rfl,wpAny_pure ⟨_,rfl,?_⟩⟩) (args_list_sort _)))
 have q:=h out ps' h1 h2 h3 h4
 rw[show sortedAll s.heap vs out.toArray=sortedHeap hh (s.heap.objs.size+1) vs out.toArray by subst hg;rfl]at q
 exact q
end
def PrV (H:Hp)(v:V)(p:Str×Str):Prop:=∃ b,v=.ref b∧H b=some (.tup [.str p.1,.str p.2])
abbrev Prs (H:Hp)(vs:List V)(ps:List (Str×Str)):Prop:=Paired (PrV H) vs ps
section
variable {X:Cx}{pins:List (Addr×Obj)}{σ:St}{H:Hp}{s:Shared}
theorem PrV.raw (I:Af X pins σ H s){v:V}{u:Value}{p:Str×Str}(rv:Ai v u)(x:PrV H v p):BG s.heap u p:=by
 obtain⟨b,rfl,hb⟩:=x
 cases rv
 obtain⟨its,r,pl,_⟩:=I.tuple (Ae.of hb)
 cases r with
 | cons r1 r=>
  cases r with
  | cons r2 r=>
   cases r
   obtain⟨t,rfl⟩:=r1
   obtain⟨u,rfl⟩:=r2
   exact⟨b,t,u,rfl,pl⟩
theorem B9 {α β γ:Type}{F:α→β→Prop}{G:α→γ→Prop}{K:β→γ→Prop}(f:∀ a b c,F a b→G a c→K b c):∀{xs:List α} {ys:List β} {zs:List γ},Paired F xs ys→Paired G xs zs→Paired K ys zs
 | _,_,_,.nil,.nil=>.nil
 | _,_,_,.cons r t,.cons r' t'=>.cons (f _ _ _ r r') (B9 f t t')
def KC (K:PySem.W.Frag):List V→Hp→VK→Prop:=fun xs H Q=>∃ a vs ps,xs=[V.ref a]∧Ae K H a vs∧Prs H vs ps∧vs.length<64∧∀ l vs' ps',H l=none→Prs H vs' ps'→ps'.Perm ps→Rise ps'→Q (.ref l) (upd H l (.lst vs'))
theorem call_sorted:Ci X (.builtin "sorted") (KC X.K):=by
 intro pins s σ H xs us Q I r h
 obtain⟨a,vs,ps,rfl,ha,hp,h64,q⟩:=h
 obtain⟨u,rfl,ru⟩:=Fd r
 cases ru
 obtain⟨its,rv,pl,hz⟩:=I.tuple ha
 have hlen:=rv.length
 refine EO pl (B9 (F:=Ai) (G:=PrV H) (K:=BG s.heap) (fun _ _ _ x y=>PrV.raw I x y) rv hp) (by omega) fun out ps' h1 h2 h3 h4=>?_
 obtain⟨kp,c,hc⟩:=Ew s.heap its out.toArray
 have z:Paired (fun(u:Value) p=>∃ b,u=.ref b∧H b=some (.tup [.str p.1,.str p.2])) out ps':=h1 _ (B9 (F:=Ai) (G:=PrV H) (fun _ _ _ x y=>by
  obtain⟨b,rfl,hb⟩:=y
  cases x
  exact⟨b,rfl,hb⟩) rv hp)
 obtain⟨vs',rv',rp'⟩:∃ vs':List V,Am vs' out∧Prs H vs' ps':=by
  clear h1 h2 h3 h4 hc kp
  induction z with
  | nil=>exact⟨[],.nil,.nil⟩
  | cons r _ ih=>
   obtain⟨vs',a1,a2⟩:=ih
   obtain⟨b,rfl,hb⟩:=r
   exact⟨.ref b::vs',.cons rfl a1,.cons ⟨b,rfl,hb⟩ a2⟩
 have hl':=rv'.length
 have hs:s.heap.objs.size≤s.heap.objs.size+1:=Nat.le_succ _
 exact⟨.ref (s.heap.objs.size+1),_,I.laid (t':=s.toks) kp hs (show A6 X.prog X.w _ _ _ (.lst vs')from⟨by omega,out,c,rv',hc⟩),rfl,q _ _ _ (I.hok.fresh hs) rp' h3 h4⟩
end
end L2.PSt
namespace L2.KSt
open PySem PySem.Spec PyProof.Rows L2
def Tl (p q:Str):Bool:=decide (p.cps.toList<q.cps.toList)
theorem Rn (k:Nat→Str):StrT.Ord (fun i j=>Tl (k i) (k j)) where
 tr:=fun a b c h1 h2=>by
  simp only[Tl,decide_eq_false_iff_not]at *
  exact List.not_lt.mpr (List.le_trans (List.not_lt.mp h1) (List.not_lt.mp h2))
 as:=fun a b h1=>by
  simp only[Tl,decide_eq_false_iff_not,decide_eq_true_eq]at *
  exact fun z=>absurd (List.lt_trans h1 z) (List.lt_irrefl _)
abbrev Rise (zs:List Str):Prop:=zs.Pairwise fun p q=>Tl q p=false
def Gi (v:Value)(z:Str):Prop:=∃ t,v=.str z t
section
variable {P:Program}{w:World}{A:Around}{E:Value→Shared→Prop}{s:Shared}
theorem Ro {x y:Value}{p q:Str}(hx:Gi x p)(hy:Gi y q){C:Bool→Shared→Prop}(h:C (Tl p q) s):
 wpAny (model P w) A (keyLt' oneType' x y) C (fun _ _=>False) s:=by
 obtain⟨t,rfl⟩:=hx
 obtain⟨u,rfl⟩:=hy
 rw[keyLt'_oneType]
 exact oneLt_str h
theorem OX {ks vs:List Value}{zs:List Str}(r:Paired Gi ks zs)(hl:ks.length=vs.length)(h2:2≤vs.length)(h64:vs.length<64){Q:SortSt→Shared→Prop}
 (h:∀ st' out zs',(arrOf st').map (·.2)=List.toArray out→failedOf st'=none→out.length=vs.length→(∀ F:Value→Str→Prop,Paired F vs zs→Paired F out zs')→zs'.Perm zs→Rise zs'→Q st' s):
 wpAny (model P w) A (sortRuns'.run (SortSt.mk' oneType' (ks.toArray.zip vs.toArray) #[] 7 none)) (fun r s'=>Q r.2 s') E s:=by
 have hlen:ks.length=zs.length:=Paired.length r
 refine PySem.W.kat_run (κ:=oneType') (G:=fun p s'=>s'=s∧p.size=vs.length∧p.toList.Perm (List.range vs.length)∧StrT.Up (fun i j=>Tl (zs.getD i PSt.d0) (zs.getD j PSt.d0)) p vs.length) hl h2 h64 ?_ ?_
 ·rintro p st' s' hp har hf ⟨rfl,hz,hperm,hup⟩
  refine h st' _ (p.toList.map fun i=>zs.getD i PSt.d0) (PySem.W.kat_snds hl har) hf (by simp[hz]) (fun F rF=>Cb fun i hi=>?_) ?_ ?_
  ·have:i<vs.length:=by simpa using hperm.mem_iff.mp hi
   exact A7 rF this
  ·have e:=hperm.map fun i=>zs.getD i PSt.d0
   rw[← hl,hlen,range_getD]at e
   exact e
  ·show List.Pairwise _ _
   rw[List.pairwise_map,List.pairwise_iff_getElem]
   intro i j hi hj hij
   have hj':j<p.size:=by simpa using hj
   have hi':i<p.size:=by simpa using hi
   have u:=hup i j (Nat.le_of_lt hij) (by omega)
   have gi:StrT.gg p i=p.toList[i]:=by simp[StrT.gg,Array.getD,hi']
   have gj:StrT.gg p j=p.toList[j]:=by simp[StrT.gg,Array.getD,hj']
   rw[gi,gj]at u
   exact u
 ·refine Jm (N:=vs.length) (lt:=fun i j=>Tl (zs.getD i PSt.d0) (zs.getD j PSt.d0)) (fun i j C hi hj hC=>?_) (fun p hp=>⟨rfl,hp⟩) (StrT.sort_ (Rn _) (by omega))
  exact Ro (A7 r (by omega)) (A7 r (by omega)) hC
theorem OY {ks:List Value}{zs:List Str}{Q:SortKind→Shared→Prop}(h2:2≤ks.length)(r:Paired Gi ks zs)(h:Q oneType' s):wpAny (model P w) A (keyKind' ks.toArray) Q E s:=by
 have key:∀{ks:List Value} {zs:List Str},Paired Gi ks zs→StrsAre ks zs:=by
  intro ks zs r
  induction r with
  | nil=>exact .nil
  | cons x _ ih=>
   obtain⟨t,rfl⟩:=x
   exact .cons _ _ ih
 match ks,h2,r with
 | v1::v2::vs,_,r=>
  rw[keyKind_strs (key r)]
  exact wpAny_pure h
theorem LR {a kS:Addr}{ks out:List Value}{e1 cs:Nat}{st:SortSt}{R:PySem.Fin→Shared→Prop}(ho:s.heap.get? a=some (seqObj "list" #[] e1))(hk:s.heap.get? kS=some (seqObj "list" ks.toArray cs))(ne:a≠kS)(h1:(arrOf st).map (·.2)=List.toArray out)(hf:failedOf st=none)(hz:out.length≤64)(hz2:ks.length≤64)
 (h:R (.done (.ret .none)) { s with heap:=(s.heap.update kS (Obj.mapSeq fun _=>#[])).update a (Obj.mapSeq fun _=>out.toArray) }):
 wpAny (model P w) A (ksk_tail a false e1 (.ref kS) st) R E s:=by
 have hs:sizeLine=16777216:=sizeLine_eq
 unfold ksk_tail
 simp only[Bool.false_eq_true,if_false,h1,hf]
 refine wpAny_bind (listUpdate_at hk rfl ?_ (by rw[List.size_toArray];omega) (Nat.zero_le _))
 have ho7:(s.heap.update kS (Obj.mapSeq fun _=>#[])).get? a=some (seqObj "list" #[] e1):=(Heap.get?_update_ne _ _ _ _ ne).trans ho
 refine wpAny_bind (wpAny_letGo ?_)
 refine wpAny_bind (seqEpoch_at (s:={ s with heap:=s.heap.update kS (Obj.mapSeq fun _=>#[]) }) ho7 rfl ?_)
 refine wpAny_bind (listUpdate_at (s:={ s with heap:=s.heap.update kS (Obj.mapSeq fun _=>#[]) }) ho7 rfl ?_ (Nat.zero_le _) (by rw[List.size_toArray];omega))
 show wpAny _ _ (if(e1 != e1)=true then _ else ret .none) _ _ _
 rw[if_neg (by simp)]
 exact wpAny_pure h
theorem Rp {a kS:Addr}{ks vs:List Value}{zs:List Str}{e1 cs:Nat}{R:PySem.Fin→Shared→Prop}(ho:s.heap.get? a=some (seqObj "list" #[] e1))(hk:s.heap.get? kS=some (seqObj "list" ks.toArray cs))(ne:a≠kS)(r:Paired Gi ks zs)(hl:ks.length=vs.length)(h64:vs.length<64)
 (h:∀(out:List Value) (zs':List Str),(∀ F:Value→Str→Prop,Paired F vs zs→Paired F out zs')→out.length=vs.length→zs'.Perm zs→Rise zs'→R (.done (.ret .none)) { s with heap:=(s.heap.update kS (Obj.mapSeq fun _=>#[])).update a (Obj.mapSeq fun _=>out.toArray) }):
 wpAny (model P w) A (ksk_end a false vs.toArray e1 (.ref kS) ks.toArray) R E s:=by
 unfold ksk_end
 dsimp only
 rw[if_neg (by decide)]
 by_cases c2:vs.toArray.size<2
 ·rw[if_pos c2,if_pos c2]
  refine wpAny_bind (wpAny_pure ?_)
  rw[StateT.run_pure]
  refine wpAny_bind (wpAny_pure ?_)
  refine LR (out:=vs) ho hk ne ?_ rfl (by omega) (by omega) (h vs zs (fun _ x=>x) rfl (List.Perm.refl _) ?_)
  ·show(ks.toArray.zip vs.toArray).map (·.2)=_
   apply Array.toList_inj.mp
   rw[Array.toList_map,ksk_zip]
   exact List.map_snd_zip (by simp[hl])
  ·have hz:ks.length=zs.length:=Paired.length r
   rw[List.size_toArray]at c2
   match zs,(show zs.length<2 by omega)with
   | [],_=>exact .nil
   | [_],_=>exact List.pairwise_singleton _ _
 ·rw[if_neg c2,if_neg c2]
  rw[List.size_toArray]at c2
  refine wpAny_bind (OY (by omega) r (wpAny_bind (wpAny_mono (OX (Q:=fun st' s'=>s'=s∧∃ out zs',(arrOf st').map (·.2)=List.toArray out∧failedOf st'=none∧out.length=vs.length∧(∀ F:Value→Str→Prop,Paired F vs zs→Paired F out zs')∧zs'.Perm zs∧Rise zs')
   r hl (by omega) h64 fun st' out zs' h1 hf h4 h3 h5 h6=>⟨rfl,out,zs',h1,hf,h4,h3,h5,h6⟩) ?_ fun _ _ e=>e)))
  rintro⟨_,st'⟩ s' ⟨rfl,out,zs',h1,hf,h4,h3,h5,h6⟩
  exact LR ho hk ne h1 hf (by omega) (by omega) (h out zs' h3 h4 h5 h6)
theorem Nc {v:Value}{z:Str}(h:Gi v z):∀{ks:List Value} {zs:List Str},Paired Gi ks zs→Paired Gi (ks++[v]) (zs++[z])
 | _,_,.nil=>.cons h .nil
 | _,_,.cons x t=>.cons x (Nc h t)
theorem ksT_rest {J:Shared→Prop}{a kS:Addr}{f:Value}{vs:List Value}{zs:List Str}{e1:Nat}{R:PySem.Fin→Shared→Prop}(hJ:J s)(ho:s.heap.get? a=some (seqObj "list" #[] e1))(hk:s.heap.get? kS=some (seqObj "list" #[] 0))(ne:a≠kS)(hl:zs.length=vs.length)(h64:vs.length<64)
 (turn:∀(i:Nat) (v:Value) (z:Str),vs[i]?=some v→zs[i]?=some z→∀ s',J s'→wpAny (model P w) A (call f [v]) (fun r s''=>Gi r z∧J s''∧∀ o,(s'.heap.get? a=some o→s''.heap.get? a=some o)∧(s'.heap.get? kS=some o→s''.heap.get? kS=some o)) (fun _ _=>False) s')
 (push:∀(s':Shared) (ks:List Value) (c:Nat) (v:Value) (z:Str),Gi v z→J s'→s'.heap.get? kS=some (seqObj "list" ks.toArray c)→ks.length<64→J { s' with heap:=s'.heap.update kS (Obj.mapSeq (·.push v)) })
 (h:∀(s':Shared) (ks:List Value) (c:Nat) (out:List Value) (zs':List Str),J s'→s'.heap.get? a=some (seqObj "list" #[] e1)→s'.heap.get? kS=some (seqObj "list" ks.toArray c)→(∀ F:Value→Str→Prop,Paired F vs zs→Paired F out zs')→out.length=vs.length→zs'.Perm zs→Rise zs'→R (.done (.ret .none)) { s' with heap:=(s'.heap.update kS (Obj.mapSeq fun _=>#[])).update a (Obj.mapSeq fun _=>out.toArray) }):
 wpAny (model P w) A (ksk_rest a f false vs.toArray e1 (.ref kS)) R E s:=by
 have hs0:sizeLine=16777216:=sizeLine_eq
 unfold ksk_rest
 refine wpAny_bind (wpAny_rule ?_)
 first
  | rw[List.forIn_toArray]
  | (rw[← Array.forIn_toList];simp only[List.toList_toArray])
  | rw[← Array.forIn_toList]
 refine wpAny_bind (ksk_fold (fun i s'=>∃(ks:List Value) (c:Nat),J s'∧s'.heap.get? a=some (seqObj "list" #[] e1)∧s'.heap.get? kS=some (seqObj "list" ks.toArray c)∧Paired Gi ks (zs.take i)) vs 0 s
  ⟨[],0,hJ,ho,hk,.nil⟩ ?step ?done)
 case step=>
  rintro j x s' hx ⟨ks,c,J',ho',hk',r⟩
  simp only[Nat.zero_add]at r ⊢
  have hj:j<vs.length:=(List.getElem?_eq_some_iff.mp hx).1
  obtain⟨z,hzj⟩:∃ z,zs[j]?=some z:=⟨_,List.getElem?_eq_getElem (by omega)⟩
  have hz:ks.length≤vs.length:=by
   have h1:=Paired.length r
   rw[List.length_take]at h1
   omega
  refine wpAny_bind (wpAny_attempt (wpAny_mono (turn j x z hx hzj s' J') (fun v s'' he=>?_) fun _ _ hF=>hF.elim))
  obtain⟨tx,J2,kp⟩:=he
  try dsimp only
  have na:=(kp _).1 ho'
  have nk:=(kp _).2 hk'
  refine wpAny_bind (listUpdate_at nk rfl ?_ (by rw[List.size_toArray];omega) (Nat.le_trans (Nat.le_of_eq (Array.size_push ..)) (by rw[List.size_toArray];omega)))
  have ek:zs.take (j+1)=zs.take j++[z]:=by rw[List.take_add_one,hzj];simp
  obtain⟨c2,hc2⟩:∃ c2,(s''.heap.update kS (Obj.mapSeq (·.push v))).get? kS=some (seqObj "list" (ks++[v]).toArray c2):=⟨_,by
   have:=get?_update_seq nk (·.push v)
   rw[show ks.toArray.push v=(ks++[v]).toArray by simp]at this
   exact this⟩
  exact wpAny_pure ⟨rfl,ks++[v],c2,push _ _ _ _ _ tx J2 nk (by omega),(Heap.get?_update_ne _ _ _ _ ne).trans na,hc2,by rw[ek];exact Nc tx r⟩
 case done=>
  rintro s' ⟨ks,c,J',ho',hk',r⟩
  have r':Paired Gi ks zs:=by
   rw[List.take_of_length_le (by omega)]at r
   exact r
  try dsimp only
  refine wpAny_bind (listItems_at hk' rfl ?_)
  exact Rp ho' hk' ne r' ((Paired.length r').trans hl) h64 fun out zs' a1 a2 a3 a4=>h s' ks c out zs' J' ho' hk' a1 a2 a3 a4
theorem MZ {D f:Addr}{n:Nat}{vs:List Value}{R:PySem.Fin→Shared→Prop}(ho:s.heap.get? D=some (seqObj "list" vs.toArray n))(h64:vs.length<64)
 (h:∀(hh:Heap) (e1 kS:Nat),(∀ b o,b≠D→s.heap.get? b=some o→hh.get? b=some o)→s.heap.objs.size<kS→hh.get? D=some (seqObj "list" #[] e1)→hh.get? kS=some (seqObj "list" #[] 0)→wpAny (model P w) A (ksk_rest D (.ref f) false vs.toArray e1 (.ref kS)) R E { s with heap:=hh }):
 wpAny (model P w) A (Builtin.«list.sort» ⟨[.ref D],[("key",.ref f)]⟩) R E s:=by
 have hs0:sizeLine=16777216:=sizeLine_eq
 rw[show Builtin.«list.sort» ⟨[.ref D],[("key",.ref f)]⟩=ksk_tree D (.ref f) false from by ksk_a3]
 unfold ksk_tree
 refine wpAny_bind (listItems_at ho rfl (wpAny_bind (listUpdate_at ho rfl ?_ (by rw[List.size_toArray];omega) (Nat.zero_le _))))
 obtain⟨e1,ho1⟩:∃ e1,(s.heap.update D (Obj.mapSeq fun _=>#[])).get? D=some (seqObj "list" #[] e1):=⟨_,get?_update_seq ho _⟩
 refine wpAny_bind (seqEpoch_at ho1 rfl (wpAny_bind (wpAny_newTuple (wpAny_bind (wpAny_newList (wpAny_holding ?_) (Nat.zero_le _))) (by show vs.length≤_;omega))))
 refine h _ e1 _ (fun b o hb e=>Heap.get?_push_of_some _ (Heap.get?_push_of_some _ ((Heap.get?_update_ne _ _ _ _ hb).trans e))) ?_ (Heap.get?_push_of_some _ (Heap.get?_push_of_some _ ho1)) (Heap.get?_push_size _ rfl)
 show s.heap.objs.size<(Heap.push _ _).objs.size
 rw[size_push',Heap.size_update];exact Nat.lt_succ_self _
theorem sorted_keyed {l f:Addr}{vs:List Value}{Q:Value→Shared→Prop}(hl:s.heap.IsList l vs.toArray)(h64:vs.length<64)
 (h:∀(hh:Heap) (e1 kS:Nat) (R:PySem.Fin→Shared→Prop),(∀ b o,s.heap.get? b=some o→hh.get? b=some o)→s.heap.objs.size+1<kS→hh.get? (s.heap.objs.size+1)=some (seqObj "list" #[] e1)→hh.get? kS=some (seqObj "list" #[] 0)→(∀ s',Q (.ref (s.heap.objs.size+1)) s'→R (.done (.ret .none)) s')→wpAny (model P w) A.in1.in1 (ksk_rest (s.heap.objs.size+1) (.ref f) false vs.toArray e1 (.ref kS)) R E { s with heap:=hh }):
 wpAny (model P w) A (call (.builtin "sorted") [.ref l] [("key",.ref f)]) Q E s:=by
 have hs0:sizeLine=16777216:=sizeLine_eq
 refine call_function_entry_kw kind_sorted plain_sorted entry_sorted (by ksk_a1) ?_
 unfold Builtin.«sorted»
 refine wpAny_bind (m:=checkCount "sorted" 1 1 _) (wpAny_pure (wpAny_bind (collect_list hl (wpAny_bind (wpAny_newList ?_ (by omega))) (by omega))))
 have hz:((s.heap.push (seqObj "list" #[] 0)).update s.heap.objs.size (Obj.mapSeq (·++vs.toArray))).objs.size=s.heap.objs.size+1:=by rw[Heap.size_update,size_push']
 show wpAny (model P w) _ _ _ _ { s with heap:=((s.heap.push (seqObj "list" #[] 0)).update s.heap.objs.size (Obj.mapSeq (·++vs.toArray))).push (seqObj "list" vs.toArray 0) }
 rw[hz]
 have hn:(((s.heap.push (seqObj "list" #[] 0)).update s.heap.objs.size (Obj.mapSeq (·++vs.toArray))).push (seqObj "list" vs.toArray 0)).get? (s.heap.objs.size+1)=some (seqObj "list" vs.toArray 0):=by
  rw[← hz];exact Heap.get?_push_size _ rfl
 have kp:∀ b o,s.heap.get? b=some o→(((s.heap.push (seqObj "list" #[] 0)).update s.heap.objs.size (Obj.mapSeq (·++vs.toArray))).push (seqObj "list" vs.toArray 0)).get? b=some o:=fun b o e=>
  Heap.get?_push_of_some _ ((Heap.get?_update_ne _ _ _ _ (Nat.ne_of_lt (Heap.lt_size e))).trans (Heap.get?_push_of_some _ e))
 have hsz:(((s.heap.push (seqObj "list" #[] 0)).update s.heap.objs.size (Obj.mapSeq (·++vs.toArray))).push (seqObj "list" vs.toArray 0)).objs.size=s.heap.objs.size+2:=by rw[size_push',hz]
 generalize ((s.heap.push (seqObj "list" #[] 0)).update s.heap.objs.size (Obj.mapSeq (·++vs.toArray))).push (seqObj "list" vs.toArray 0)=h1 at *
 refine wpAny_bind (wpAny_holding (wpAny_call_entry_kw (s:={ s with heap:=h1 }) slot_list_sort ⟨_,hn,rfl⟩ entry_list_sort (MZ (s:={ s with heap:=h1 }) hn h64 fun hh e1 kS hk hkS ho2 hk2=>?_) (by ksk_a2)))
 refine h hh e1 kS _ (fun b o e=>hk b o (Nat.ne_of_lt (Nat.lt_succ_of_lt (Heap.lt_size e))) (kp b o e)) (by have:h1.objs.size<kS:=hkS;omega) ho2 hk2 fun s' q=>?_
 exact⟨_,rfl,wpAny_pure ⟨_,rfl,q⟩⟩
end
end L2.KSt
namespace L2
open PySem PySem.Spec PyProof.Rows
theorem Rq {q:Str}{H:Hp}:put q H (Kr q H)=H:=by
 funext b
 cases w:kn q (H b)with
 | none=>rw[De w,KG w]
 | some o=>rw[MR w,Ht w]
section
variable {X:Cx}{pins:List (Addr×Obj)}{σ:St}{H:Hp}{s:Shared}{h':Heap}
theorem Af.adopt {t':Nat}{it:Addr}{o:HO}(I:Af X pins σ H s)(k:∀ b u,b≠it→s.heap.get? b=some u→h'.get? b=some u)(f:EK X pins H it)
 (new:A6 X.prog X.w (upd H it o) h' it o):Af X pins σ (upd H it o) { s with heap:=h',toks:=t' }:=by
 obtain⟨f0,f1,f2,f3,f4,f5⟩:=f
 have nit:∀ b u,H b=some u→b≠it:=fun b u e z=>by rw[z,f0]at e;cases e
 refine I.step (g':=s.gens) (d':=s.drawn) (ch:=[it]) (fun b hb=>?_) (fun b o _ _ hc e _=>k b o (fun z=>hc (by simp[z])) e) (fun b o _ _ hc e _=>⟨o.slots,k b o (fun z=>hc (by simp[z])) e⟩) (fun b _ hc _ n=>by rw[AR (fun z=>hc (by simp[z]))];exact n)
  (fun b o hc e=>⟨o,k b o (fun z=>hc (by simp[z])) e⟩) (fun b _ e=>by rw[AR (nit b _ e)];exact e) (fun b _ _ e=>by rw[AR (nit b _ e)];exact e) (fun b ps e=>⟨#[],by rw[AR (nit b _ e),e];simp⟩) (fun m hm=>?_) (fun b u e=>?_) I.bare
 ·have e:b=it:=by simpa using hb
  subst e
  exact⟨f3,f1,f4,f5⟩
 ·obtain⟨o,es,ep,ho,r⟩:=hm
  exact⟨o,es,ep,k _ o (Ne.symm f1) ho,r⟩
 ·by_cases hb:b=it
  ·subst hb
   rw[AC]at e
   cases e
   exact new
  ·rw[AR hb]at e
   refine(I.hok b u e).stay (fun c v hc q=>k c v ?_ q) (fun c q=>by rw[AR (nit c _ q)];exact q) fun c xs q=>by rw[AR (nit c _ q)];exact q
   rcases hc with z | z
   ·rw[z];exact hb
   ·exact nit c _ z
end
section
variable {X:Cx}
def Tm (X:Cx)(k:Nat)(te tl:TE):TE:=fun σ H Q=>te σ H fun x H1=>tl σ H1 fun f H2=>∃(a fa:Addr) (q:Str) (sp:Sp) (ps:List (V×Str)),x=.ref a∧f=.ref fa∧At X.K H2 a (ps.map (·.1))∧ps.length<64∧
 (∀ base',NV X σ q H2 base'→FV X.prog X.w X.K X.mg base' k fa sp)∧(∀ p∈ps,sp [p.1] (Kr q H2) (fun v H'=>v=.str p.2∧H'=Kr q H2) E0)∧
 ∀(l:Addr) (qs:List (V×Str)),H2 l=none→(∀ p∈qs,p∈ps)→(qs.map (·.2)).Perm (ps.map (·.2))→KSt.Rise (qs.map (·.2))→Q (.ref l) (upd H2 l (.lst (qs.map (·.1))))
theorem LS {ps:List (V×Str)}{P0:V→Value→Prop}:∀{out:List Value} {zs:List Str},Paired (fun v z=>∃ p,p∈ps∧P0 p.1 v∧p.2=z) out zs→∃ qs:List (V×Str),(∀ p∈qs,p∈ps)∧qs.map (·.2)=zs∧Paired P0 (qs.map (·.1)) out
 | _,_,.nil=>⟨[],(fun _ h=>nomatch h),rfl,.nil⟩
 | _,_,.cons ⟨p,h1,h2,h3⟩ t=>by
  obtain⟨qs,a,b,c⟩:=LS t
  exact⟨p::qs,fun z hz=>(List.mem_cons.mp hz).elim (fun e=>e▸h1) (a z),by rw[List.map_cons,h3,b],.cons h2 c⟩
theorem IW {P0:V→Value→Prop}{ps0:List (V×Str)}:∀{ps:List (V×Str)} {its:List Value},(∀ p∈ps,p∈ps0)→Paired P0 (ps.map (·.1)) its→Paired (fun v z=>∃ p,p∈ps0∧P0 p.1 v∧p.2=z) its (ps.map (·.2))
 | [],_,_,.nil=>.nil
 | p::ps,_,h,.cons r t=>.cons ⟨p,h p List.mem_cons_self,r,rfl⟩ (IW (fun z hz=>h z (List.mem_cons_of_mem _ hz)) t)
theorem P5 {k:Nat}{e lam:Expr}{te tl:TE}{p pos kp:Pos}(hr:BY (k+2) X.A)(hg:Gl X "sorted")(hm:X.mg "sorted"=none)(he:PE X e te)(hl:PE X lam tl)(hfn:∀ y,X.fn y=true:=by intro _;rfl)
 (hs:starEach [e] X.env=(false,eval e X.env)::starEach [] X.env:=by rfl) (hk:keywordEach [⟨some "key",lam,kp⟩] X.env=[(some (Str.ofString "key"),eval lam X.env)]:=by rfl):
 PE X (.Call (.Name "sorted" p) [e] [⟨some "key",lam,kp⟩] pos) (Tm X k te tl):=by
 intro pins s σ H Q I h
 refine wpAny_Call_Name_kw (Dp I hg hm Jl ?_)
 refine callWith_kw ?_ (by rw[hs];rfl) (by rw[hs];rfl) (by rw[hk];rfl) (by rw[hk];rfl)
 rw[hs,hk]
 show wpAny _ _ (spliced ((false,eval e X.env)::backTo pos (starEach [] X.env))) _ _ s
 refine Calls.spliced_cons (BI (he pins s σ H _ I h) fun u s1 ⟨x,H1,I1,r1,q1⟩=>Calls.spliced_nil ?_)
 refine wpAny_evalAll_cons (wpAny_bind (BI (hl pins s1 σ H1 _ I1 q1) fun v s2 ⟨y,H2,I2,r2,q2⟩=>wpAny_bind (wpAny_standAt (wpAny_pure (wpAny_evalAll_nil ?_)))))
 obtain⟨a,fa,q,sp,ps,rfl,rfl,ha,h64,hF,hsp,hend⟩:=q2
 cases r1
 cases r2
 obtain⟨its,rv,pl,_⟩:=I2.list ha
 have hlen:ps.length=its.length:=by have:=rv.length;rwa [List.length_map]at this
 refine KSt.sorted_keyed pl.isList (by omega) fun hh e1 kS R hk2 hkS hD hS hR=>?_
 have fD:EK X pins H2 (s2.heap.objs.size+1):=I2.fpOk (Nat.le_succ _) (I2.hok.fresh (Nat.le_succ _))
 have lS:s2.heap.objs.size≤kS:=Nat.le_of_lt (Nat.lt_of_succ_lt hkS)
 have fS:EK X pins H2 kS:=I2.fpOk lS (I2.hok.fresh lS)
 have nst:∀ b,EK X pins H2 b→b∉Hm X.stack:=fun b f z=>(List.mem_cons.mp (I2.stkSub b z)).elim f.2.1 f.2.2.1
 have ne:s2.heap.objs.size+1≠kS:=Nat.ne_of_lt hkS
 refine KSt.ksT_rest (J:=fun s'=>Af X pins σ H2 s') (zs:=ps.map (·.2)) (I2.kept (t':=s2.toks) fun b o e=>hk2 b o e) hD hS ne (by rw[List.length_map];exact hlen) (by omega) ?turn ?push ?fin
 case turn=>
  intro i v z hv hz s' I'
  have hi:i<ps.length:=by rw[hlen];exact(List.getElem?_eq_some_iff.mp hv).1
  have hz':ps[i].2=z:=by
   rw[List.getElem?_map,List.getElem?_eq_getElem hi]at hz
   exact Option.some.inj hz
  have hx:(ps.map (·.1))[i]?=some ps[i].1:=by rw[List.getElem?_map,List.getElem?_eq_getElem hi];rfl
  obtain⟨u,hu,rvu⟩:=rv.get hx
  rw[hv]at hu
  cases hu
  obtain⟨fd,prs,oc,od,sl,eo,hb,F⟩:=hF _ (I'.wider (q:=q) hfn)
  have hq:=hsp ps[i] (List.getElem_mem hi)
  have hl2:[v].length=prs.length:=F.len _ _ _ _ hq
  refine wpAny_call (codeAny_mono (F.run X.A.in1.in1 X.stack s' (Kr q H2) ⟨[v],[]⟩ [v] [ps[i].1] _ E0 hr.in1.in1 (I'.envL (q:=q) hfn).in1.in1 (hb s' [v] I'.kIn hl2) (.cons rvu .nil) hq) fun r s'' hq=>?_)
  cases r with
  | error e=>exact False.elim hq
  | ok fl=>
   cases fl with
   | next=>exact False.elim hq
   | brk=>exact False.elim hq
   | cont=>exact False.elim hq
   | ret u=>
    have hq2:=hq
    obtain⟨v',H',os,bare,un,hok,r',ev,eH⟩:=hq2
    refine⟨?_,?_,fun o=>⟨fun e=>un.keep _ o e (Cn fD.1) (nst _ fD) (by simp),fun e=>un.keep _ o e (Cn fS.1) (nst _ fS) (by simp)⟩⟩
    ·subst ev
     rw[← hz']
     exact r'
    ·obtain⟨v2,H3,I3,_,e3⟩:=I'.afterL (q:=q) (Q:=fun _ H3=>H3=H2) (show CE X.stack X.prog X.w (Kr q H2) s' _ u s'' from⟨v',H',os,bare,un,hok,r',fun _=>by rw[eH];exact Rq⟩)
     rw[← e3]
     exact I3
 case push=>
  intro s' ks c v z _ I' hk' _
  obtain⟨f0,f1,f2,f3,f4,f5⟩:=fS
  exact I'.turned (t':=s'.toks) (it:=kS) (fun b o hb e=>(Heap.get?_update_ne _ _ _ _ hb).trans e) f0 f1 f3 f4 f5
 case fin=>
  intro s' ks c out zs' I' hD' hS' hF' ho hperm hrise
  refine hR _ ?_
  obtain⟨qs,m1,m2,m3⟩:=LS (hF' _ (IW (P0:=Ai) (fun _ h=>h) rv))
  subst m2
  have I3:Af X pins σ H2 { s' with heap:=s'.heap.update kS (Obj.mapSeq fun _=>#[]) }:=by
   obtain⟨f0,f1,f2,f3,f4,f5⟩:=fS
   exact I'.turned (t':=s'.toks) (it:=kS) (fun b o hb e=>(Heap.get?_update_ne _ _ _ _ hb).trans e) f0 f1 f3 f4 f5
  have hD3:(s'.heap.update kS (Obj.mapSeq fun _=>#[])).get? (s2.heap.objs.size+1)=some (seqObj "list" #[] e1):=(Heap.get?_update_ne _ _ _ _ ne).trans hD'
  have I4:=I3.adopt (t':=s'.toks) (it:=s2.heap.objs.size+1) (o:=.lst (qs.map (·.1))) (h':=(s'.heap.update kS (Obj.mapSeq fun _=>#[])).update (s2.heap.objs.size+1) (Obj.mapSeq fun _=>out.toArray)) (fun b o hb e=>(Heap.get?_update_ne _ _ _ _ hb).trans e) fD
   ⟨by rw[List.length_map];have:=Paired.length m3;rw[List.length_map]at this;have hs:sizeLine=16777216:=sizeLine_eq;omega,out,_,m3,get?_update_seq hD3 _⟩
  exact⟨.ref _,_,I4,rfl,hend _ qs fD.1 m1 hperm hrise⟩
end
section
variable {X:Cx}
def VP (K:PySem.W.Frag):R2:=fun x y H Q=>∃ a b xs ys,x=.ref a∧y=.ref b∧Ae K H a xs∧Ae K H b ys∧ys≠[]∧xs.length+ys.length≤sizeLine∧
 (xs=[]→Q (.ref b) H)∧(xs≠[]→∀ p,H p=none→Q (.ref p) (upd H p (.tup (xs++ys))))
theorem OZ {prog:Program}{w:World}{A:Around}{E:Value→Shared→Prop}{s:Shared}{t b:Addr}{ws:List Value}{Q:Value→Shared→Prop}(ht:IsTup s.heap t #[])(hb:IsTup s.heap b ws.toArray)(h:Q (.ref b) s):wpAny (model prog w) A (binaryOp .Add (.ref t) (.ref b)) Q E s:=by
 obtain⟨⟨cls,dd,data,sl⟩,ho,hc,n,hd⟩:=id ht
 obtain⟨⟨cls2,dd2,data2,sl2⟩,ho2,hc2,n2,hd2⟩:=id hb
 simp only at hc hd hc2 hd2
 subst hc hd hc2 hd2
 exact concat_meets ⟨_,ho,rfl⟩ ⟨_,ho2,rfl⟩ noFill_tuple_add seq_tuple_add PySem.F.slot_tuple_add PySem.F.entry_tuple_add (PySem.F.args_tuple_add_2 _ _)
  (tuple_addW0 t b #[] ws.toArray n n2 dd dd2 sl sl2 (by simp)) ⟨ho,ho2,h⟩
theorem Rr:FR X (binaryOp .Add) (VP X.K):=by
 intro pins s σ H x y v u Q I rx ry h
 have h0:=h
 obtain⟨a,b,xs,ys,rfl,rfl,ha,hb,hy,hz,q1,q2⟩:=h
 by_cases hx:xs=[]
 ·subst hx
  cases rx
  cases ry
  obtain⟨its,r1,p1,_⟩:=I.tuple ha
  obtain⟨its2,r2,p2,_⟩:=I.tuple hb
  cases r1
  exact OZ p1 p2 ⟨.ref b,H,I,rfl,q1 rfl⟩
 ·exact NH pins s σ H _ _ v u Q I rx ry ⟨a,b,xs,ys,rfl,rfl,ha,hb,hx,hz,fun z=>absurd z hy,fun _=>q2 hx⟩
def XB (K:PySem.W.Frag):R2:=fun x y H Q=>∃(a p:Addr) (k:Str×Str) (us:List V) (ks:List (Str×Str)),x=.ref a∧y=.ref p∧H a=some (.tup [.str k.1,.str k.2])∧Ae K H p us∧PSt.Prs H us ks∧Q (.bl (decide (k∈ks))) H
theorem XC {H:Hp}(k:Str×Str):Paired (Ge H) [V.str k.1,V.str k.2] [.fl (.str k.1),.fl (.str k.2)]:=.cons ⟨rfl,rfl⟩ (.cons ⟨rfl,rfl⟩ .nil)
theorem Ma {H:Hp}:∀{us:List V} {ks:List (Str×Str)},PSt.Prs H us ks→Pt H us
 | _,_,.nil=>fun _ h=>nomatch h
 | _,_,.cons ⟨b,e,hb⟩ t=>fun u hu=>(List.mem_cons.mp hu).elim (fun z=>⟨b,_,_,by rw[z,e],hb,XC _⟩) (Ma t u)
theorem P6 {H:Hp}{k:Str×Str}:∀{us:List V} {ks:List (Str×Str)},PSt.Prs H us ks→us.any (Rf H [.fl (.str k.1),.fl (.str k.2)])=decide (k∈ks)
 | _,_,.nil=>by simp
 | _,_,.cons (b:=c) ⟨b,e,hb⟩ t=>by
  rw[List.any_cons,P6 t,e,NW hb (XC c)]
  have:MJ Cm [.fl (.str c.1),.fl (.str c.2)] [.fl (.str k.1),.fl (.str k.2)]=decide (c=k):=by
   obtain⟨c1,c2⟩:=c
   obtain⟨k1,k2⟩:=k
   have bd:∀ a b:Str,(a==b)=decide (a=b):=fun a b=>by by_cases h:a=b <;> simp[h]
   simp[MJ,Cm,Hq,Prod.ext_iff,bd]
  rw[this]
  by_cases h:c=k
  ·subst h;simp
  ·have h':¬ k=c:=fun z=>h z.symm
   simp[h,h']
theorem Tn (hu:X.A.units+2<cLine):FR X (compareOp .In) (XB X.K):=by
 intro pins s σ H x y v u Q I rx ry h
 obtain⟨a,p,k,us,ks,rfl,rfl,ha,hp,pr,q⟩:=h
 cases rx
 cases ry
 obtain⟨its,r,pl,hz⟩:=I.tuple hp
 refine SeqAt.in_tupleAt (ON H [.fl (.str k.1),.fl (.str k.2)]) pl (fun w hw=>Rh I hu ha (XC k) r (Ma pr) w (by simpa using hw)) ⟨.bl _,H,I,rfl,?_⟩
 rw[show its.toArray.any (ON H [.fl (.str k.1),.fl (.str k.2)])=its.any (ON H [.fl (.str k.1),.fl (.str k.2)])by simp,NX r (Ma pr),P6 pr]
 exact q
end
end L2
namespace Mx
structure XD (x y:Int):Prop where
 pos:0<y
 cop:Nat.gcd x.natAbs y.natAbs=1
theorem P7 {m n:Nat}:Nat.gcd n (m%n)=Nat.gcd m n:=by
 rw[Nat.gcd_comm m n,Nat.gcd_rec n m,Nat.gcd_comm]
end Mx
namespace Mx
end Mx
namespace Fs
open PySem L2 Mx
structure Df (K:PySem.W.Frag)(mg:Str→Option Value)(x:Str)(st:Stmt)(ps:List Str)(f:Addr)(fd:FuncData):Prop where
 fn:Fun K x x st f fd
 gl:mg x=some (.ref f)
 b:Ed K fd ps []
theorem AZ {X:Cx}{k:Nat}{f:Addr}{fd:FuncData}{ps:List Str}{sp:Sp}{x:Str}{st:Stmt}{e:Expr}{es:List Expr}{t:TA}{p pos:Pos}(D:Df X.K X.mg x st ps f fd)(F:Ao X.prog X.w X.K X.mg X.base Bc k f fd ps sp)(hr:BY k X.A)
 (ha:PA X (e::es) t) (hg:Gl X x:=by rfl) (hdb:(x==("__debug__":Str))=false:=by decide) (he:starEach (e::es) X.env=(false,eval e X.env)::starEach es X.env:=by rfl) (hpl:(backTo pos (starEach es X.env)).any (·.1)=false:=by rfl):
 PE X (.Call (.Name x p) (e::es) [] pos) (ST sp [] E0 t):=RQ F hr hg D.gl D.fn.kp D.b .nil Dz ha hdb he hpl
theorem IX:bootBuiltins "abs"=some (.builtin "abs"):=by nofun
def KeepX (p:Addr)(H H':Hp):Prop:=∀ b o,b≠p→H b=some o→H' b=some o
theorem KeepX.trans {p:Addr}{H H1 H2:Hp}(a:KeepX p H H1)(b:KeepX p H1 H2):KeepX p H H2:=fun c o hc e=>b c o hc (a c o hc e)
theorem KeepX.upd {p:Addr}{H:Hp}{o:HO}:KeepX p H (upd H p o):=fun b u hb e=>by rw[AR hb];exact e
theorem AF.keep {p:Addr}{H H':Hp}(h:AF H H'):KeepX p H H':=fun b o _ e=>h b o e
theorem AF.new {H:Hp}{p:Addr}{o:HO}(h:H p=none):AF H (upd H p o):=fun b u e=>by rw[AR (AX e h)];exact e
def VQ:St→Nat
 | [_,_,_,some (V.int n)]=>n.toNat
 | [_,_,_,some (V.int n),_]=>n.toNat
 | _=>0
theorem P8 (i:Int):(if i<0 then -i else i)=(i.natAbs:Int):=by split <;> omega
theorem XE {x:Int}(h1:-18446744073709551616<x)(h2:x<18446744073709551616):Sz 64 x:=by unfold Sz;omega
theorem BK {x:Int}(h1:-18446744073709551616<x)(h2:x<18446744073709551616):Sz 4000 x:=(XE h1 h2).mono (by decide)
theorem A3:2≤sizeLine:=by decide
theorem BV:3≤sizeLine:=by decide
structure Xm (H:Hp)(p:Addr)(x y:Int)(n:Nat):Prop where
 ob:H p=some (.tup [.int x,.int y])
 low:XD x y
 sx:Sz n x
 sy:Sz n y
def XF:Sp:=fun vs H Q _=>∃ a b:Int,vs=[.int a,.int b]∧Q (.int (Nat.gcd a.natAbs b.natAbs:Nat)) H
theorem IY {Q:VK}{v w:V}{H:Hp}(e:v=w)(q:Q w H):Q v H:=by rw[e];exact q
theorem Aa:bootBuiltins "isinstance"=some (.builtin "isinstance"):=by nofun
theorem P9:bootBuiltins "min"=some (.builtin "min"):=by nofun
theorem LT:bootBuiltins "int"=some (.type "int"):=by nofun
theorem ED:bootBuiltins "bool"=some (.type "bool"):=by nofun
theorem EE:bootBuiltins "str"=some (.type "str"):=by nofun
theorem EF:bootBuiltins "list"=some (.type "list"):=by nofun
theorem A0:bootBuiltins "tuple"=some (.type "tuple"):=by nofun
theorem To {X:Cx}{x:Str}{C:Addr}{pos:Pos}(hm:X.mg x=some (.ref C))(hg:Gl X x:=by rfl)(hd:(x==("__debug__":Str))=false:=by decide):PE X (.Name x pos) (tC (.ref C)):=Jx hg hm rfl hd
theorem BN {X:Cx}{x:Str}{T:String}{pos:Pos}(hm:X.mg x=none)(hv:bootBuiltins x=some (.type T))(hg:Gl X x:=by rfl)(hn:x≠"__name__":=by decide)(hd:(x==("__debug__":Str))=false:=by decide):PE X (.Name x pos) (tC (.ty T)):=RH hg hm hv rfl hn hd
theorem Mb (K:PySem.W.Frag)(t:Value):PySem.W.kitOne K t t=some true:=by unfold PySem.W.kitOne;simp
def Tp (mg:Str→Option Value)(x z:Str):Prop:=∃ u,mg x=some u∧Ai (.str z) u
def Ex (mg:Str→Option Value)(x:Str)(i:Int):Prop:=∃ u,mg x=some u∧Ai (.int i) u
theorem Nd {X:Cx}{x z:Str}{pos:Pos}(hm:Tp X.mg x z)(hg:Gl X x:=by rfl)(hd:(x==("__debug__":Str))=false:=by decide):PE X (.Name x pos) (tC (.str z)):=by
 obtain⟨u,h,r⟩:=hm
 exact Jx hg h r hd
theorem A1 {X:Cx}{x:Str}{i:Int}{pos:Pos}(hm:Ex X.mg x i)(hg:Gl X x:=by rfl)(hd:(x==("__debug__":Str))=false:=by decide):PE X (.Name x pos) (tC (.int i)):=by
 obtain⟨u,h,r⟩:=hm
 exact Jx hg h r hd
def VR:R2:=fun x y H Q=>∃ i j,x=.str i∧y=.str j∧Q (.bl (!(Builtin.Str.occurrences j i 0 j.length 1).isEmpty)) H
theorem QA {X:Cx}:FR X (compareOp .In) VR:=N6
theorem Nb {a b:Str}(h:a.cps.toList=b.cps.toList):a=b:=by
 obtain⟨⟨a⟩⟩:=a
 obtain⟨⟨b⟩⟩:=b
 simp only at h
 rw[h]
theorem EG {n:Nat}(h:n≤1000):n<sizeLine:=Jh h
theorem QB {n:Nat}(h:n≤1000):n≤sizeLine:=Nat.le_of_lt (Jh h)
theorem IZ {z:Str}(L:Str){H:Hp}{D:Addr}(hz:z.length≤1000)(hD:H D=none):
 ∃ W:Nat→Nat→Hp→Prop,(∃ m,W 0 m (upd H D (.lst [])))∧∀ i m H',W i m H'→
  ((U5 z).stop i H'∧H'=upd H D (.lst ((z.cps.toList.map fun c=>decide (c∈L.cps.toList)).map V.bl)))∨((U5 z).go i H'∧∀(js:List Nat) (σ:St) (x:V) (H2:Hp),(U5 z).yld i H' x H2→TH (some x::JH js σ) H2 fun b H3=>
    if b=true then Ut VR (S1 0) (tC (.str L)) (some x::JH js σ) H3 fun v H4=>∃ xs,H4 D=some (.lst xs)∧xs.length<sizeLine∧∃ m',m'<m∧W (i+1) m' (upd H4 D (.lst (xs++[v])))
    else ∃ m',m'<m∧W (i+1) m' H3):=by
 have hs:z.cps.toList.length=z.cps.size:=by simp
 have hl:z.length=z.cps.size:=rfl
 refine⟨fun i m H'=>m=z.cps.size-i∧i≤z.cps.size∧H'=upd H D (.lst (((z.cps.toList.take i).map fun c=>decide (c∈L.cps.toList)).map V.bl)),⟨z.cps.size,by simp,Nat.zero_le _,by simp⟩,?_⟩
 rintro i m H' ⟨rfl,hi,rfl⟩
 by_cases hlt:i<z.cps.size
 ·refine .inr ⟨hlt,fun js σ x H2 y=>?_⟩
  obtain⟨e,c,hc,e2⟩:=y
  subst e e2
  unfold TH
  dsimp only
  rw[if_pos rfl]
  refine⟨_,rfl,_,_,rfl,rfl,_,AC,?_,_,?_,rfl,hlt,?_⟩
  ·rw[List.length_map,List.length_map,List.length_take];exact EG (by omega)
  ·show z.cps.size-(i+1)<z.cps.size-i
   omega
  ·rw[F8]
   congr 2
   have ht:z.cps.toList.take (i+1)=z.cps.toList.take i++[c]:=by
    rw[List.take_succ,show z.cps.toList[i]?=some c by simpa using hc]
    rfl
   rw[ht,List.map_append,List.map_append,StrLaws.found_one]
   rfl
 ·have e:i=z.cps.size:=by omega
  subst e
  refine .inl ⟨rfl,?_⟩
  have ht:z.cps.toList.take z.cps.size=z.cps.toList:=List.take_of_length_le (by omega)
  rw[ht]
theorem Gj {z L:Str}(h:∀ c∈z.cps.toList,c∈L.cps.toList):(z.cps.toList.map fun c=>decide (c∈L.cps.toList)).all id=true:=by
 rw[List.all_map,List.all_eq_true]
 intro c hc
 simpa using h c hc
structure Nm (z:Str):Prop where
 lo:1≤z.length
 hi:z.length≤6
 az:∀ c∈z.cps.toList,97≤c∧c≤122
def num (r:Int):Str:=Str.ofString (toString r)
structure Dg (z:Str)(n:Int):Prop where
 lo:1≤z.length
 hi:z.length≤640
 fig:∀ c∈z.cps.toList,c∈(Str.ofString "0123456789").cps.toList
 rd:PySem.intText? z=some n
 c0:∃ c,z.cps.toList[0]?=some c∧(c≠48∨z=Str.ofString "0")
theorem QC {z:Str}(h:Nm z):∀ c∈z.cps.toList,c∈(Str.ofString "abcdefghijklmnopqrstuvwxyz").cps.toList:=by
 intro c hc
 have ⟨a,b⟩:=h.az c hc
 have tab:∀ i,i<26→97+i∈(Str.ofString "abcdefghijklmnopqrstuvwxyz").cps.toList:=by nofun
 have:=tab (c-97) (by omega)
 rwa [show 97+(c-97)=c by omega]at this
structure YB (H:Hp)(p:Addr)(z:Str)(r c:Int):Prop where
 ob:H p=some (.tup [.str z,.int r,.int c])
 nm:Nm z
 r0:1≤r
 r1:r≤16
 c0:1≤c
 c1:c≤8
structure YC (H:Hp)(p:Addr)(z:Str)(r c r2 c2:Int):Prop where
 ob:H p=some (.tup [.str z,.int r,.int c,.int r2,.int c2])
 nm:Nm z
 r0:1≤r
 r1:r≤r2
 r16:r2≤16
 c0:1≤c
 c1:c≤c2
 c8:c2≤8
theorem EQ {z:Str}(h:(decide (1≤z.length)&&decide (z.length≤6)&&z.cps.toList.all fun c=>decide (97≤c)&&decide (c≤122))=true):Nm z:=by
 simp only[Bool.and_eq_true,decide_eq_true_eq,List.all_eq_true]at h
 exact⟨h.1.1,h.1.2,fun c hc=>h.2 c hc⟩
inductive Vl where
 | none | num (t b:Int) | txt (z:Str) | tru (b:Bool) | flt (w z:Str) (r c:Int)
 deriving DecidableEq
def ER:List Str:=[Str.ofString "kind",Str.ofString "nought",Str.ofString "gone",Str.ofString "name",Str.ofString "shape",Str.ofString "blocked",Str.ofString "miss",Str.ofString "ring",Str.ofString "great"]
def Rs:Vl→Prop
 | .num t b=>XD t b∧t.natAbs<10 ^ 30∧b.natAbs<10 ^ 30
 | .txt z=>z.length≤20∧∀ c∈z.cps.toList,c∈(Str.ofString "abcdefghijklmnopqrstuvwxyz0123456789 ").cps.toList
 | .flt w z r c=>w∈ER∧Nm z∧1≤r∧r≤16∧1≤c∧c≤8
 | _=>True
def QD (K:PySem.W.Frag)(mg:Str→Option Value)(x:Str)(xs:List V):Prop:=∃(a:Addr) (o:Obj),mg x=some (.ref a)∧K.lookup a=some o∧o.cls=.type "tuple"∧∃ its n,o.data=.seq its n∧its.size≤sizeLine∧Am xs its.toList
def YD (K:PySem.W.Frag)(xs:List V):TE:=fun _ H Q=>∀ a,(∀ H',Ae K H' a xs)→Q (.ref a) H
theorem Hv {X:Cx}{x:Str}{xs:List V}{pos:Pos}(hm:QD X.K X.mg x xs)(hg:Gl X x:=by rfl)(hd:(x==("__debug__":Str))=false:=by decide):PE X (.Name x pos) (YD X.K xs):=by
 obtain⟨a,o,h,hl,hc,its,n,h1,h2,h3⟩:=hm
 intro pins s σ H Q I q
 exact FL I hg h ⟨.ref a,H,I,rfl,q a fun H'=>.inr ⟨o,its,n,hl,hc,h1,h2,h3⟩⟩ hd
def LU (H:Hp)(p:Addr):Vl→Prop
 | .none=>H p=some (.tup [.str (Str.ofString "none")])
 | .num t b=>H p=some (.tup [.str (Str.ofString "number"),.int t,.int b])
 | .txt z=>H p=some (.tup [.str (Str.ofString "text"),.str z])
 | .tru b=>H p=some (.tup [.str (Str.ofString "truth"),.bl b])
 | .flt w z r c=>∃ q,H p=some (.tup [.str (Str.ofString "fault"),.str w,.ref q])∧H q=some (.tup [.str z,.int r,.int c])
theorem QE {w:Str}(h:w∈ER):Ee (.str w) (ER.map V.str)=true:=by
 unfold Ee
 rw[List.any_map,List.any_eq_true]
 exact⟨w,h,by simp[Hq]⟩
theorem LV:(ER.map V.str).all BC=true:=by nofun
theorem FU {z y:Str}(h:z=y):V.bl (decide (V.str z=V.str y))=V.bl true:=by subst h;simp
theorem LW {α:Type}{us:List α}(h:us.length=1):∃ a,us=[a]:=match us,h with | [a],_=>⟨a,rfl⟩
theorem HW {α:Type}{us:List α}(h:us.length=2):∃ a b,us=[a,b]:=match us,h with | [a,b],_=>⟨a,b,rfl⟩
theorem LX {α:Type}{us:List α}(h:us.length=3):∃ a b c,us=[a,b,c]:=match us,h with | [a,b,c],_=>⟨a,b,c,rfl⟩
abbrev kS (z:String):A9:=.inr (Str.ofString z)
theorem Ia {ns:List Int}{r:Int}(h0:0≤r)(h1:r<(ns.length:Int)):∃ v,K4 (ns.map V.int) r=some (V.int v):=by
 obtain⟨j,rfl⟩:∃ j:Nat,r=(j:Int):=⟨r.toNat,by omega⟩
 have hj:j<ns.length:=by omega
 exact⟨ns[j],BZ (by rw[List.getElem?_map,List.getElem?_eq_getElem hj];rfl)⟩
abbrev vS (z:String):V:=.str (Str.ofString z)
def Xn:List V:=[vS "yes",vS "no",vS "if",vS "sum",vS "count",vS "least",vS "most",vS "sumif",vS "find",vS "turn",vS "stack"]
def Xo:List V:=[vS "grid",vS "outer"]
def Rt (z:Str):Bool:=Ee (.str z) Xn||Ee (.str z) Xo
def Ua:Option Str→V
 | none=>.non
 | some z=>.str z
def QF:Option Str→Prop
 | none=>True
 | some z=>Nm z
def Kp (H H':Hp):Prop:=∀ a xs,H a=some (.tup xs)→H' a=some (.tup xs)
theorem Kp.same {H H':Hp}(s:AF H H'):Kp H H':=fun a xs e=>s _ _ e
theorem Kp.lst {H H':Hp}{p:Addr}{ys:List V}(hp:H p=some (.lst ys))(s:KeepX p H H'):Kp H H':=fun a xs e=>s _ _ (Db e hp (by intro z;cases z)) e
theorem Kp.trans {H H1 H2:Hp}(a:Kp H H1)(b:Kp H1 H2):Kp H H2:=fun c xs e=>b c xs (a c xs e)
structure Sd where
 r:Int
 c:Int
 x:Bool
 y:Bool
abbrev Ru (c:Sd):List V:=[.int c.r,.int c.c,.bl c.x,.bl c.y]
structure Nf (c:Sd):Prop where
 r0:1≤c.r
 r1:c.r≤16
 c0:1≤c.c
 c1:c.c≤8
inductive Lf where
 | val (v:Vl) | cell (s:Option Str) (c:Sd) | rng (s:Option Str) (c d:Sd) | cols (s:Option Str) (a:Int) (x:Bool) (b:Int) (y:Bool) | gone | nam (z:Str) | par (i:Int) | flt (z:Str)
def GH (H:Hp)(a:Addr):Lf→Prop
 | .val v=>∃ q,H a=some (.tup [vS "value",.ref q])∧LU H q v
 | .cell s c=>∃ q,H a=some (.tup [vS "cell",Ua s,.ref q])∧H q=some (.tup (Ru c))
 | .rng s c d=>∃ q u,H a=some (.tup [vS "range",Ua s,.ref q,.ref u])∧H q=some (.tup (Ru c))∧H u=some (.tup (Ru d))
 | .cols s i x j y=>∃ q u,H a=some (.tup [vS "columns",Ua s,.ref q,.ref u])∧H q=some (.tup [.int i,.bl x])∧H u=some (.tup [.int j,.bl y])
 | .gone=>H a=some (.tup [vS "gone"])
 | .nam z=>H a=some (.tup [vS "name",.str z])
 | .par i=>H a=some (.tup [vS "param",.int i])
 | .flt z=>H a=some (.tup [vS "fault",.str z])
def Xp:Vl→Prop
 | .num t b=>b=1∧0≤t∧t≤999999999
 | .txt _=>True
 | .tru _=>True
 | _=>False
def HX (pr:Nat):Lf→Prop
 | .val v=>Rs v∧Xp v
 | .cell s c=>QF s∧Nf c
 | .rng s c d=>QF s∧Nf c∧Nf d∧c.r≤d.r∧c.c≤d.c
 | .cols s i _ j _=>QF s∧1≤i∧i≤j∧j≤8
 | .gone=>True
 | .nam z=>Nm z∧Rt z=false
 | .par i=>0≤i∧i<pr
 | .flt z=>4≤pr∧z.length≤20
theorem LU.kp {H H':Hp}{p:Addr}{v:Vl}(h:LU H p v)(s:Kp H H'):LU H' p v:=by
 cases v with
 | none=>exact s _ _ h
 | num t b=>exact s _ _ h
 | txt z=>exact s _ _ h
 | tru b=>exact s _ _ h
 | flt w z r c=>obtain⟨q,a,b⟩:=h;exact⟨q,s _ _ a,s _ _ b⟩
theorem GH.kp {H H':Hp}{a:Addr}{l:Lf}(h:GH H a l)(s:Kp H H'):GH H' a l:=by
 cases l with
 | val v=>obtain⟨q,h1,h2⟩:=h;exact⟨q,s _ _ h1,LU.kp h2 s⟩
 | cell z c=>obtain⟨q,h1,h2⟩:=h;exact⟨q,s _ _ h1,s _ _ h2⟩
 | rng z c d=>obtain⟨q,u,h1,h2,h3⟩:=h;exact⟨q,u,s _ _ h1,s _ _ h2,s _ _ h3⟩
 | cols z i x j y=>obtain⟨q,u,h1,h2,h3⟩:=h;exact⟨q,u,s _ _ h1,s _ _ h2,s _ _ h3⟩
 | gone=>exact s _ _ h
 | nam z=>exact s _ _ h
 | par i=>exact s _ _ h
 | flt z=>exact s _ _ h
theorem Rv {n:Int}:XD n 1:=⟨by decide,by simp⟩
inductive Kd where
 | op (z:Str) | neg | own (z:Str) | sumif (z:Str) | grid (i j:Int) | wd (z:Str)
def Fq (t:Addr):Kd→List V→List V
 | .op z,us=>vS "op"::.str z::us
 | .neg,us=>vS "neg"::us
 | .own z,_=>[vS "own",.str z,.ref t]
 | .sumif z,us=>vS "sumif"::(us.take 1++.str z::us.drop 1)
 | .grid i j,us=>vS "grid"::.int i::.int j::us
 | .wd z,us=>.str z::us
def DK:Kd→Bool
 | .own _=>true
 | _=>false
def QG:List Str:=["+","-","*","/","&","=","<"].map Str.ofString
def Gk:List (Str×Nat):=[("if",3),("sum",1),("count",1),("least",1),("most",1),("find",3),("turn",1),("stack",2),("outer",1)].map fun x=>(Str.ofString x.1,x.2)
def ES:Kd→Nat→Prop
 | .op z,m=>z∈QG∧m=2
 | .neg,m=>m=1
 | .own z,m=>Nm z∧Rt z=false∧m≤3
 | .sumif z,m=>(z=Str.ofString "="∨z=Str.ofString "<")∧m=3
 | .grid i j,m=>1≤i∧i≤16∧1≤j∧j≤8∧m=2
 | .wd z,m=>(z,m)∈Gk
theorem ES.le {k:Kd}{m:Nat}(h:ES k m):m≤3:=by
 cases k with
 | op z=>have:=h.2;omega
 | neg=>have:m=1:=h;omega
 | own z=>exact h.2.2
 | sumif z=>have:=h.2;omega
 | grid i j=>have:=h.2.2.2.2;omega
 | wd z=>
  have h:(z,m)∈Gk:=h
  have:∀ x∈Gk,x.2≤3:=by nofun
  exact this _ h
inductive Fm where
 | lf (l:Lf) | nd (k:Kd) (ps:List Fm)
inductive Aw (H:Hp):V→Fm→Prop where
 | lf {a:Addr} {l:Lf} (h:GH H a l):Aw H (.ref a) (.lf l)
 | nd {a t:Addr} {k:Kd} {us:List V} {ps:List Fm} (h:H a=some (.tup (Fq t k us))) (ht:DK k=true→H t=some (.tup us)) (hl:us.length=ps.length)
  (hh:∀(j:Nat) (u:V) (f:Fm),us[j]?=some u→ps[j]?=some f→Aw H u f):Aw H (.ref a) (.nd k ps)
theorem Aw.kp {H H':Hp}{v:V}{f:Fm}(h:Aw H v f)(s:Kp H H'):Aw H' v f:=by
 induction h with
 | lf h=>exact .lf (GH.kp h s)
 | nd h ht hl _ ih=>exact .nd (s _ _ h) (fun z=>s _ _ (ht z)) hl ih
abbrev Ay (H:Hp)(us:List V)(fs:List Fm):Prop:=Paired (Aw H) us fs
theorem Ay.kp {H H':Hp}{us:List V}{fs:List Fm}(h:Ay H us fs)(s:Kp H H'):Ay H' us fs:=Paired.imp' (fun _ _ x=>Aw.kp x s) h
inductive FO (pr:Nat):Nat→Fm→Prop where
 | lf {n:Nat} {l:Lf} (h:HX pr l):FO pr (n+1) (.lf l)
 | nd {n:Nat} {k:Kd} {ps:List Fm} (h:ES k ps.length) (hp:∀ f∈ps,FO pr n f):FO pr (n+1) (.nd k ps)
theorem FO.mono {pr:Nat}{n:Nat}{f:Fm}(h:FO pr n f):∀{m:Nat},n≤m→FO pr m f:=by
 induction h with
 | lf h=>
  intro m hm
  obtain⟨m,rfl⟩:∃ k,m=k+1:=⟨m-1,by omega⟩
  exact .lf h
 | nd h _ ih=>
  intro m hm
  obtain⟨m,rfl⟩:∃ k,m=k+1:=⟨m-1,by omega⟩
  exact .nd h fun f hf=>ih f hf (by omega)
theorem KI {X:Cx}{K:PySem.W.Frag}(h:X.K=K):Ci X (.builtin "isinstance") (Xk K):=by cases h;exact Aj
abbrev zS (z:String):Str:=Str.ofString z
theorem Rw {z:Str}(h:z∈QG):z.length=1:=by
 have:∀ x∈QG,x.length=1:=by nofun
 exact this z h
theorem Ac {α:Type}{x:α}{r:List α}:K4 (x::r) 0=some x:=BZ (j:=0) rfl
theorem BP {α:Type}{x y:α}{r:List α}:K4 (x::y::r) 1=some y:=BZ (j:=1) rfl
theorem Bp {α:Type}{x y z:α}{r:List α}:K4 (x::y::z::r) 2=some z:=BZ (j:=2) rfl
theorem Ib {α:Type}{x y z u:α}{r:List α}:K4 (x::y::z::u::r) 3=some u:=BZ (j:=3) rfl
def A5:Fm→List Fm
 | .lf _=>[]
 | .nd _ ps=>ps
def kw:Kd→Str
 | .op _=>zS "op"
 | .neg=>zS "neg"
 | .own _=>zS "own"
 | .sumif _=>zS "sumif"
 | .grid _ _=>zS "grid"
 | .wd z=>z
theorem Gm (t:Addr)(k:Kd)(us:List V):∃ r,Fq t k us=.str (kw k)::r:=by cases k <;> exact⟨_,rfl⟩
theorem Aw.parts {H:Hp}{us:List V}{ps:List Fm}(hl:us.length=ps.length)(hh:∀(j:Nat) (u:V) (f:Fm),us[j]?=some u→ps[j]?=some f→Aw H u f):Ay H us ps:=by
 induction us generalizing ps with
 | nil=>
  cases ps with
  | nil=>exact .nil
  | cons _ _=>simp at hl
 | cons u us ih=>
  cases ps with
  | nil=>simp at hl
  | cons p ps=>exact .cons (hh 0 u p rfl rfl) (ih (by simpa using hl) fun j u f e1 e2=>hh (j+1) u f (by simpa using e1) (by simpa using e2))
def BX:V→Bool
 | .ref _=>true
 | _=>false
def QH (H:Hp)(x:V):Prop:=(∃ b ys,x=.ref b∧H b=some (.tup ys))∨(∃ z,x=.str z)∨∃ i,x=.int i
theorem EH {us:List V}(h:∀ u∈us,BX u=true):us.filter BX=us:=List.filter_eq_self.mpr h
theorem LY {H:Hp}{t:Addr}{k:Kd}{us:List V}(ok:ES k us.length)(no:DK k=false)(hr:∀ u∈us,∃ b ys,u=.ref b∧H b=some (.tup ys)):
 ∃ r,Fq t k us=.str (kw k)::r∧(∀ x∈r,QH H x)∧r.filter BX=us∧r.length≤5:=by
 have rf:∀ u∈us,BX u=true:=fun u hu=>by obtain⟨b,ys,rfl,_⟩:=hr u hu;rfl
 have l3:=ok.le
 cases k with
 | op z=>
  refine⟨_,rfl,fun x hx=>?_,by simp[BX,EH rf],by simp;omega⟩
  rcases List.mem_cons.mp hx with q | q
  ·exact .inr (.inl ⟨_,q⟩)
  ·exact .inl (hr x q)
 | neg=>exact⟨_,rfl,fun x hx=>.inl (hr x hx),EH rf,by omega⟩
 | own z=>cases no
 | sumif z=>
  refine⟨_,rfl,fun x hx=>?_,?_,by simp;omega⟩
  ·rcases List.mem_append.mp hx with q | q
   ·exact .inl (hr x (List.mem_of_mem_take q))
   ·rcases List.mem_cons.mp q with q | q
    ·exact .inr (.inl ⟨_,q⟩)
    ·exact .inl (hr x (List.mem_of_mem_drop q))
  ·rw[List.filter_append,List.filter_cons]
   show _++(us.drop 1).filter BX=us
   rw[EH fun u hu=>rf u (List.mem_of_mem_take hu),EH fun u hu=>rf u (List.mem_of_mem_drop hu),List.take_append_drop]
 | grid i j=>
  refine⟨_,rfl,fun x hx=>?_,by simp[BX,EH rf],by simp;omega⟩
  rcases List.mem_cons.mp hx with q | q
  ·exact .inr (.inr ⟨_,q⟩)
  ·rcases List.mem_cons.mp q with q | q
   ·exact .inr (.inr ⟨_,q⟩)
   ·exact .inl (hr x q)
 | wd z=>exact⟨_,rfl,fun x hx=>.inl (hr x hx),EH rf,by omega⟩
theorem Mc {k:Kd}{m:Nat}(ok:ES k m):decide (V.str (kw k)=vS "own")=DK k:=by
 cases k with
 | wd z=>
  have hw:(z,m)∈Gk:=ok
  have:∀ x∈Gk,decide (V.str x.1=vS "own")=false:=by nofun
  exact this _ hw
 | op z=>show decide (vS "op"=vS "own")=false;nofun
 | neg=>show decide (vS "neg"=vS "own")=false;nofun
 | own z=>show decide (vS "own"=vS "own")=true;nofun
 | sumif z=>show decide (vS "sumif"=vS "own")=false;nofun
 | grid i j=>show decide (vS "grid"=vS "own")=false;nofun
def Se:Sp:=fun vs H Q _=>∃(v:V) (f:Fm) (pr n:Nat),vs=[v]∧Aw H v f∧FO pr n f∧∀(l:Addr) (us:List V) (H':Hp),H l=none→H' l=some (.lst us)→Ay H' us (A5 f)→AF H H'→Q (.ref l) H'
theorem AF.back0 {H H':Hp}{b:Addr}(s:AF H H')(h:H' b=none):H b=none:=by
 cases e:H b with
 | none=>rfl
 | some o=>rw[s _ _ e]at h;cases h
theorem Tq {n:Nat}(h:n≤16000000):n≤sizeLine:=Nat.le_trans h (by decide)
def WY:List (A9×List V):=[(kS "op",[.int 2,.int 3]),(kS "neg",[.int 1]),(kS "if",[.int 1,.int 2,.int 3]),(kS "sum",[.int 1]),(kS "count",[.int 1]),(kS "least",[.int 1]),(kS "most",[.int 1]),(kS "sumif",[.int 1,.int 3,.int 4]),(kS "find",[.int 1,.int 2,.int 3]),(kS "turn",[.int 1]),(kS "stack",[.int 1,.int 2]),(kS "grid",[.int 3,.int 4]),(kS "outer",[.int 1])]
def FW (k:Str):Option (List V):=(WY.find? fun kt=>decide (kt.1=(Sum.inr k:A9))).map (·.2)
abbrev Xq (K:PySem.W.Frag):List (A9×V)→List (A9×List V)→Prop:=Paired (fun(kv:A9×V) (kt:A9×List V)=>kv.1=kt.1∧∃ a,kv.2=.ref a∧∀ H,Ae K H a kt.2)
theorem KJ {K:PySem.W.Frag}{k:A9}{ys:List V}:∀{kvs:List (A9×V)} {kts:List (A9×List V)},Xq K kvs kts→(kts.find? fun kt=>decide (kt.1=k)).map (·.2)=some ys→∃ a,B4 kvs k=some (.ref a)∧∀ H,Ae K H a ys
 | _,_,.nil,h=>by simp at h
 | (kv::kvs),(kt::kts),.cons r t,h=>by
  obtain⟨e,a,ea,sq⟩:=r
  by_cases c:kt.1=k
  ·rw[List.find?_cons_of_pos (by simpa using c)]at h
   simp only[Option.map_some,Option.some.injEq]at h
   subst h
   exact⟨a,by rw[GF (e.trans c),ea],sq⟩
  ·rw[List.find?_cons_of_neg (by simpa using c)]at h
   obtain⟨b,hb,sb⟩:=KJ t h
   exact⟨b,by rw[Ev (fun z=>c (e.symm.trans z))];exact hb,sb⟩
def Sf (m:Nat):List Nat:=(List.range m).map (·+1)
theorem Tr {t:Addr}{k:Kd}{us:List V}(ok:ES k us.length)(no:DK k=false):∃ pl:List Nat,FW (kw k)=some (pl.map fun(p:Nat)=>V.int p)∧pl.length=us.length∧∀ j,j<us.length→∃ p u,pl[j]?=some p∧us[j]?=some u∧K4 (Fq t k us) (p:Int)=some u:=by
 cases k with
 | op z=>
  obtain⟨u1,u2,rfl⟩:=HW ok.2
  refine⟨[2,3],(by show FW (zS "op")=_;nofun),rfl,fun j hj=>?_⟩
  have hj':j<2:=hj
  rcases(show j=0∨j=1 by omega)with rfl | rfl
  ·exact⟨2,u1,rfl,rfl,rfl⟩
  ·exact⟨3,u2,rfl,rfl,rfl⟩
 | neg=>
  obtain⟨u1,rfl⟩:=LW (show us.length=1 from ok)
  refine⟨[1],(by show FW (zS "neg")=_;nofun),rfl,fun j hj=>?_⟩
  obtain rfl:j=0:=by have hj':j<1:=hj;omega
  exact⟨1,u1,rfl,rfl,rfl⟩
 | own z=>cases no
 | sumif z=>
  have h3:us.length=3:=ok.2
  obtain⟨u1,u2,u3,rfl⟩:=LX h3
  refine⟨[1,3,4],(by show FW (zS "sumif")=_;nofun),rfl,fun j hj=>?_⟩
  have hj':j<3:=hj
  rcases(show j=0∨j=1∨j=2 by omega)with rfl | rfl | rfl
  ·exact⟨1,u1,rfl,rfl,rfl⟩
  ·exact⟨3,u2,rfl,rfl,rfl⟩
  ·exact⟨4,u3,rfl,rfl,rfl⟩
 | grid i j=>
  obtain⟨u1,u2,rfl⟩:=HW ok.2.2.2.2
  refine⟨[3,4],(by show FW (zS "grid")=_;nofun),rfl,fun j hj=>?_⟩
  have hj':j<2:=hj
  rcases(show j=0∨j=1 by omega)with rfl | rfl
  ·exact⟨3,u1,rfl,rfl,rfl⟩
  ·exact⟨4,u2,rfl,rfl,rfl⟩
 | wd z=>
  have hw:(z,us.length)∈Gk:=ok
  have hz:∀ x∈Gk,FW x.1=some ((Sf x.2).map fun(p:Nat)=>V.int p):=by nofun
  refine⟨Sf us.length,hz _ hw,by simp[Sf],fun j hj=>⟨j+1,us[j],?_,List.getElem?_eq_getElem hj,?_⟩⟩
  ·unfold Sf
   rw[List.getElem?_map,List.getElem?_range hj];rfl
  ·exact BZ (j:=j+1) (by show(V.str z::us)[j+1]?=_;rw[List.getElem?_cons_succ,List.getElem?_eq_getElem hj])
mutual
def BW:Fm→Nat
 | .lf _=>1
 | .nd _ ps=>1+BQ ps
def BQ:List Fm→Nat
 | []=>0
 | f::fs=>BW f+BQ fs
end
theorem Hx:∀ a b:List Fm,BQ (a++b)=BQ a+BQ b
 | [],b=>by rw[List.nil_append,BQ];omega
 | x::a,b=>by rw[List.cons_append,BQ,BQ,Hx a b];omega
theorem Hy (f:Fm):BW f=1+BQ (A5 f):=by
 cases f with
 | lf l=>rw[BW];show 1=1+BQ [];rw[BQ]
 | nd k ps=>rw[BW];rfl
theorem KK:∀ fs:List Fm,fs.length≤BQ fs
 | []=>Nat.zero_le _
 | f::fs=>by
  have:=KK fs
  have:=Hy f
  rw[BQ,List.length_cons];omega
theorem QI {B:Nat}:∀ fs:List Fm,(∀ f∈fs,BW f≤B)→BQ fs≤fs.length*B
 | [],_=>by rw[BQ];exact Nat.zero_le _
 | f::fs,h=>by
  have a:=QI fs fun g hg=>h g (List.mem_cons_of_mem _ hg)
  have b:=h f (by simp)
  rw[BQ,List.length_cons,Nat.add_mul];omega
def SB:Nat→Nat
 | 0=>0
 | n+1=>1+3*SB n
theorem FO.sz {pr n:Nat}{f:Fm}(h:FO pr n f):BW f≤SB n:=by
 induction h with
 | lf h=>rw[BW];show 1≤1+3*SB _;omega
 | @nd n k ps ok _ ih=>
  rw[BW]
  have a:=QI ps ih
  have b:ps.length*SB n≤3*SB n:=Nat.mul_le_mul_right _ ok.le
  show 1+BQ ps≤1+3*SB n
  omega
theorem FO.sz8 {pr:Nat}{f:Fm}(h:FO pr 8 f):BW f≤3280:=Nat.le_trans h.sz (by decide)
theorem FO.prt {pr n:Nat}{f:Fm}(h:FO pr n f):∀ g∈A5 f,FO pr n g:=fun g hg=>by
 cases h with
 | lf _=>cases hg
 | nd _ hp=>exact(hp g hg).mono (Nat.le_succ _)
theorem Tu {α β:Type}{F:α→β→Prop}:∀{xs:List α} {x:α} {ys:List β},Paired F (xs++[x]) ys→∃ ys' y,ys=ys'++[y]∧Paired F xs ys'∧F x y:=by
 intro A x B h
 induction A generalizing B with
 | nil=>
  rw[List.nil_append]at h
  cases h with
  | cons r t=>
   cases t
   exact⟨[],_,rfl,.nil,r⟩
 | cons a l ih=>
  rw[List.cons_append]at h
  cases h with
  | cons r t=>
   obtain⟨ys',y,rfl,p,q⟩:=ih t
   exact⟨_::ys',y,rfl,.cons r p,q⟩
theorem HY {α β:Type}{F:α→β→Prop}:∀{xs zs:List α} {ys ws:List β},Paired F xs ys→Paired F zs ws→Paired F (xs++zs) (ys++ws):=by
 intro A B C D h g
 induction h with
 | nil=>exact g
 | cons r t ih=>exact .cons r ih
theorem Tv:bootBuiltins "zip"=some (.type "zip"):=by nofun
def Ic (x:V):Prop:=BC x=true∨∃ a,x=.ref a
theorem GH.pp {H:Hp}{a:Addr}{l:Lf}(h:GH H a l):∃ w r,H a=some (.tup (.str w::r))∧V.bl (decide (V.str w=vS "own"))=V.bl false∧FW w=none∧(∀ x∈(.str w::r),Ic x)∧r.length≤5:=by
 have sh:∀ s:Option Str,Ic (Ua s):=fun s=>by cases s <;> exact .inl rfl
 cases l with
 | val v=>obtain⟨q,h1,_⟩:=h;exact⟨_,_,h1,by nofun,by nofun,by simp[Ic,BC],by simp⟩
 | cell s c=>obtain⟨q,h1,_⟩:=h;exact⟨_,_,h1,by nofun,by nofun,by simp[Ic,BC];exact sh s,by simp⟩
 | rng s c d=>obtain⟨q,u,h1,_⟩:=h;exact⟨_,_,h1,by nofun,by nofun,by simp[Ic,BC];exact sh s,by simp⟩
 | cols s i x j y=>obtain⟨q,u,h1,_⟩:=h;exact⟨_,_,h1,by nofun,by nofun,by simp[Ic,BC];exact sh s,by simp⟩
 | gone=>exact⟨_,_,h,by nofun,by nofun,by simp[Ic,BC],by simp⟩
 | nam z=>exact⟨_,_,h,by nofun,by nofun,by simp[Ic,BC],by simp⟩
 | par i=>exact⟨_,_,h,by nofun,by nofun,by simp[Ic,BC],by simp⟩
 | flt z=>exact⟨_,_,h,by nofun,by nofun,by simp[Ic,BC],by simp⟩
theorem Hz {K:PySem.W.Frag}{k:A9}:∀{kvs:List (A9×V)} {kts:List (A9×List V)},Xq K kvs kts→(kts.find? fun kt=>decide (kt.1=k)).map (·.2)=none→B4 kvs k=none
 | _,_,.nil,_=>rfl
 | (kv::kvs),(kt::kts),.cons r t,h=>by
  obtain⟨e,a,ea,sq⟩:=r
  by_cases c:kt.1=k
  ·rw[List.find?_cons_of_pos (by simpa using c)]at h
   simp at h
  ·rw[List.find?_cons_of_neg (by simpa using c)]at h
   rw[Ev (fun z=>c (e.symm.trans z))]
   exact Hz t h
theorem Rx {t:Addr}{k:Kd}{m:Nat}(ok:ES k m)(no:DK k=false):∃ pl:List Nat,FW (kw k)=some (pl.map fun(p:Nat)=>V.int p)∧pl.length=m∧
 ∀(xs:List V) (i:Nat) (w:V),xs.length=m→i<m→∃ p,pl[i]?=some p∧p<(Fq t k xs).length∧(Fq t k xs).set p w=Fq t k (xs.set i w):=by
 cases k with
 | op z=>
  refine⟨[2,3],(by show FW (zS "op")=_;nofun),ok.2.symm,fun xs i w hx hi=>?_⟩
  obtain⟨u1,u2,rfl⟩:=HW (hx.trans ok.2)
  have hi':i<2:=by have:=ok.2;omega
  match i,hi' with
  | 0,_=>exact⟨2,rfl,(by show 2<4;decide),rfl⟩
  | 1,_=>exact⟨3,rfl,(by show 3<4;decide),rfl⟩
 | neg=>
  have ok:m=1:=ok
  refine⟨[1],(by show FW (zS "neg")=_;nofun),ok.symm,fun xs i w hx hi=>?_⟩
  obtain⟨u1,rfl⟩:=LW (hx.trans ok)
  have hi':i<1:=by omega
  match i,hi' with
  | 0,_=>exact⟨1,rfl,(by show 1<2;decide),rfl⟩
 | own z=>cases no
 | sumif z=>
  refine⟨[1,3,4],(by show FW (zS "sumif")=_;nofun),ok.2.symm,fun xs i w hx hi=>?_⟩
  obtain⟨u1,u2,u3,rfl⟩:=LX (hx.trans ok.2)
  have hi':i<3:=by have:=ok.2;omega
  match i,hi' with
  | 0,_=>exact⟨1,rfl,(by show 1<5;decide),rfl⟩
  | 1,_=>exact⟨3,rfl,(by show 3<5;decide),rfl⟩
  | 2,_=>exact⟨4,rfl,(by show 4<5;decide),rfl⟩
 | grid a b=>
  have o2:m=2:=ok.2.2.2.2
  refine⟨[3,4],(by show FW (zS "grid")=_;nofun),o2.symm,fun xs i w hx hi=>?_⟩
  obtain⟨u1,u2,rfl⟩:=HW (hx.trans o2)
  have hi':i<2:=by omega
  match i,hi' with
  | 0,_=>exact⟨3,rfl,(by show 3<5;decide),rfl⟩
  | 1,_=>exact⟨4,rfl,(by show 4<5;decide),rfl⟩
 | wd z=>
  have hw:(z,m)∈Gk:=ok
  have hz:∀ x∈Gk,FW x.1=some ((Sf x.2).map fun(p:Nat)=>V.int p):=by nofun
  refine⟨Sf m,hz _ hw,by simp[Sf],fun xs i w hx hi=>⟨i+1,?_,?_,?_⟩⟩
  ·unfold Sf
   rw[List.getElem?_map,List.getElem?_range hi];rfl
  ·show i+1<(V.str z::xs).length
   rw[List.length_cons];omega
  ·rfl
theorem Ry {us ws:List V}{i:Nat}{w:V}(hl:ws.length=us.length)(hw:ws[i]?=some w):(ws.take i++us.drop i).set i w=ws.take (i+1)++us.drop (i+1):=by
 have hi:i<ws.length:=(List.getElem?_eq_some_iff.mp hw).1
 have hd:us.drop i=us[i]::us.drop (i+1):=List.drop_eq_getElem_cons (by omega)
 have ht:ws.take (i+1)=ws.take i++[w]:=by rw[List.take_add_one,hw];rfl
 have lt:(ws.take i).length=i:=by rw[List.length_take];omega
 rw[hd,ht,List.set_append,if_neg (by omega),lt,Nat.sub_self,List.set_cons_zero,List.append_assoc];rfl
def VS (H:Hp)(v:V)(f:Fm)(a':Addr)(ws:List V):Prop:=match f with
 | .lf _=>∃ a its,v=.ref a∧H a=some (.tup its)∧H a'=some (.tup its)∧∀ x∈its,Ic x
 | .nd kd _=>∃ t,H a'=some (.tup (Fq t kd ws))∧(DK kd=true→H t=some (.tup ws))
def VT:Sp:=fun vs H Q _=>∃(v:V) (f:Fm) (l:Addr) (ws:List V) (pr n:Nat),vs=[v,.ref l]∧Aw H v f∧FO pr n f∧H l=some (.lst ws)∧ws.length=(A5 f).length∧∀(a':Addr) (H':Hp),VS H' v f a' ws→AF H H'→Q (.ref a') H'
def VU:Sp:=fun vs H Q _=>∃(v:V) (f:Fm) (pr n:Nat),vs=[v]∧Aw H v f∧FO pr n f∧n≤8∧∀ H',AF H H'→Q (.int (BW f)) H'
theorem Tw {pr n:Nat}{f:Fm}(h:FO pr n f)(h8:n≤8):BW f≤3280:=(h.mono h8).sz8
theorem Ey:1≤sizeLine:=by decide
mutual
def Ks:Fm→List Fm
 | .lf l=>[.lf l]
 | .nd k ps=>GX ps++[.nd k ps]
def GX:List Fm→List Fm
 | []=>[]
 | f::fs=>Ks f++GX fs
end
theorem Rz (f:Fm):Ks f=GX (A5 f)++[f]:=by
 cases f with
 | lf l=>rw[Ks];show [Fm.lf l]=GX []++[Fm.lf l];rw[GX];rfl
 | nd k ps=>rw[Ks];rfl
theorem KL:∀ a b:List Fm,GX (a++b)=GX a++GX b
 | [],b=>by rw[List.nil_append,GX,List.nil_append]
 | x::a,b=>by rw[List.cons_append,GX,GX,KL a b,List.append_assoc]
mutual
theorem IA:∀ f:Fm,(Ks f).length=BW f
 | .lf l=>by rw[Ks,BW];rfl
 | .nd k ps=>by rw[Ks,BW,List.length_append,KM ps,List.length_singleton];omega
theorem KM:∀ fs:List Fm,(GX fs).length=BQ fs
 | []=>by rw[GX,BQ];rfl
 | f::fs=>by rw[GX,BQ,List.length_append,IA f,KM fs]
end
def VV:Sp:=fun vs H Q _=>∃(v:V) (f:Fm) (pr n:Nat),vs=[v]∧Aw H v f∧FO pr n f∧n≤8∧∀ l ws H',H l=none→H' l=some (.lst ws)→Ay H' ws (Ks f)→AF H H'→Q (.ref l) H'
theorem XG {α β:Type}{R:α→β→Prop}{xs:List α}{ys:List β}(h:Paired R xs ys):Paired R xs.reverse ys.reverse:=by
 induction h with
 | nil=>exact .nil
 | cons h _ ih=>rw[List.reverse_cons,List.reverse_cons];exact HY ih (.cons h .nil)
theorem Aw.tup {H:Hp}{v:V}{f:Fm}(h:Aw H v f):∃ b ys,v=.ref b∧H b=some (.tup ys):=by
 cases h with
 | lf h=>obtain⟨w,r,h1,_⟩:=h.pp;exact⟨_,_,rfl,h1⟩
 | nd h _ _ _=>exact⟨_,_,rfl,h⟩
mutual
theorem FO.al {pr n:Nat}:∀(f:Fm),FO pr n f→∀ g∈Ks f,FO pr n g
 | .lf l,h,g,hg=>by rw[Ks]at hg;rw[List.mem_singleton.mp hg];exact h
 | .nd k ps,h,g,hg=>by
  rw[Ks]at hg
  rcases List.mem_append.mp hg with q | q
  ·exact FO.als ps (fun x hx=>h.prt x hx) g q
  ·rw[List.mem_singleton.mp q];exact h
theorem FO.als {pr n:Nat}:∀(fs:List Fm),(∀ f∈fs,FO pr n f)→∀ g∈GX fs,FO pr n g
 | [],_,g,hg=>by rw[GX]at hg;cases hg
 | f::fs,h,g,hg=>by
  rw[GX]at hg
  rcases List.mem_append.mp hg with q | q
  ·exact FO.al f (h f (List.mem_cons_self ..)) g q
  ·exact FO.als fs (fun x hx=>h x (List.mem_cons_of_mem _ hx)) g q
end
theorem Tx {xs:List V}{j:Nat}(h:j≤xs.length):FS xs (some (j:Int)) none=xs.drop j:=by
 unfold FS
 have e1:HT.CK xs.length 0 (some (j:Int))=j:=by unfold HT.CK;simp;split <;> omega
 have e2:HT.CK xs.length xs.length none=xs.length:=rfl
 rw[e1,e2,← List.length_drop]
 exact List.take_length
theorem Ty {xs:List V}{j:Nat}(h:j≤xs.length):FS xs none (some (j:Int))=xs.take j:=by
 unfold FS
 have e1:HT.CK xs.length xs.length (some (j:Int))=j:=by unfold HT.CK;simp;split <;> omega
 have e2:HT.CK xs.length 0 none=0:=rfl
 rw[e1,e2,Nat.sub_zero];rfl
theorem Sg {α β:Type}{F:α→β→Prop}:∀{xs:List α} {ys:List β} (n:Nat),Paired F xs ys→Paired F (xs.drop n) (ys.drop n)
 | _,_,0,h=>by simpa using h
 | _,_,n+1,.nil=>by simpa using Paired.nil
 | _,_,n+1,.cons _ t=>by simpa using Sg n t
theorem Sh {α β:Type}{F:α→β→Prop}:∀{xs:List α} {ys:List β} (n:Nat),Paired F xs ys→Paired F (xs.take n) (ys.take n)
 | _,_,0,h=>by simpa using Paired.nil
 | _,_,n+1,.nil=>by simpa using Paired.nil
 | _,_,n+1,.cons r t=>by simpa using Paired.cons r (Sh n t)
theorem _root_.L2.Fun.okX {P:Program}{w:World}{K:PySem.W.Frag}{mg:Str→Option Value}{base:Heap}{x qual:Str}{st:Stmt}{f:Addr}{fd:FuncData}{N ps:List Str}{k:Nat}{sp:Sp}(F:Fun K x qual st f fd)(S:AW N ps (AI st))(len:∀ vs H Q E,sp vs H Q E→vs.length=ps.length)
 (hb:∀(cdv:Value) (A:Around) (outer:List Env) (s:Shared) (H:Hp) (vs:List V) (Q:VK) (E:XK),BY k (A.deeper (PyProof.Rows.envOfC qual (AI st) s.heap.objs.size f cdv))→sp vs H Q E→∀ Z:Prop,((∃ t,Ky (IM Bc P w K mg base N qual (AI st) f cdv A outer s H E).nox (Bm st) t∧t { nx:=fun _ H'=>Q .non H',rt:=Q } (Eo N vs) H)→Z)→Z):Ao P w K mg base Bc (k+1) f fd ps sp:=F.ok S len fun cdv A outer s H vs Q E hr h=>hb cdv A outer s H vs Q E hr h _ id
theorem _root_.L2.Fun.okCX {P:Program}{w:World}{K:PySem.W.Frag}{mg:Str→Option Value}{base:Heap}{x qual:Str}{st:Stmt}{f:Addr}{fd:FuncData}{N ps:List Str}{k:Nat}{sp:Sp}(F:Fun K x qual st f fd)(S:AW N ps (AI st))(len:∀ vs H Q E,sp vs H Q E→vs.length=ps.length)
 (hb:∀(cdv:Value) (A:Around) (outer:List Env) (s:Shared) (H:Hp) (vs:List V) (Q:VK) (E:XK),fd.code=cdv→BY k (A.deeper (PyProof.Rows.envOfC qual (AI st) s.heap.objs.size f cdv))→sp vs H Q E→∀ Z:Prop,((∃ t,Ky (IM Bc P w K mg base N qual (AI st) f cdv A outer s H E).nox (Bm st) t∧t { nx:=fun _ H'=>Q .non H',rt:=Q } (Eo N vs) H)→Z)→Z):Ao P w K mg base Bc (k+1) f fd ps sp:=F.okC S len fun cdv A outer s H vs Q E e hr h=>hb cdv A outer s H vs Q E e hr h _ id
def Xr (N:List Str)(sc:Scope)(i:Nat)(x:Str):Bool:=decide (N[i]?=some x)&&(decide (sc.names.lookup x=some .local)||(decide (sc.names.lookup x=some .cell)||decide (sc.names.lookup x=some .free)))&&!(x==("__debug__":Str))&&!(x==("__classdict__":Str))
theorem AJ {X:Cx}(i:Nat){x:Str}{pos:Pos}(h:Xr X.N X.env.scope i x=true:=by kernel_rfl):PE X (.Name x pos) (S1 i):=by
 simp only[Xr,Bool.and_eq_true,Bool.or_eq_true,decide_eq_true_eq,Bool.not_eq_true']at h
 exact S2 h.1.1.1 h.1.1.2 h.1.2 h.2
def Xs (N ps:List Str)(sc:Scope):Bool:=decide (sc.kind=.function)&&decide (sc.isCoroutine=false)&&decide (sc.isGenerator=false)&&decide N.Nodup&&decide (N.take ps.length=ps)&&decide (∀ x∈ps,sc.names.lookup x=some .local∨sc.names.lookup x=some .cell)&&decide (∀ y∈sc.names,y.2≠.free)
theorem A4 {N ps:List Str}{sc:Scope}(h:Xs N ps sc=true:=by kernel_rfl):AW N ps sc:=by
 simp only[Xs,Bool.and_eq_true,decide_eq_true_eq]at h
 obtain⟨⟨⟨⟨⟨⟨a,b⟩,c⟩,d⟩,e⟩,f⟩,g⟩:=h
 exact⟨a,b,c,d,e,f,g⟩
theorem Bd {j k:Nat}{A:Around}(hr:BY k A)(h:j≤k:=by decide):BY j A:=hr.mono h
theorem VW {G:Prop}(h:∀ X:Prop,(G→X)→X):G:=h G id
def Cq (K:PySem.W.Frag)(S:Addr×List Int)(H:Hp)(p:Addr)(k:Nat):Prop:=∃ c r:Int,H p=some (.lst [.ref S.1,.int c,.int r])∧At K H S.1 (S.2.map V.int)∧0≤c∧c≤k∧S.2.length≤63
theorem At.kl {K:PySem.W.Frag}{H H':Hp}{a p b:Addr}{ns:List Int}{r:List V}(h:At K H a (ns.map V.int))(hp:H p=some (.lst (.ref b::r)))(s:KeepX p H H'):At K H' a (ns.map V.int):=by
 rcases h with(h | ⟨o,h⟩) | h
 ·exact .inl (.inl (s _ _ (Db h hp (by intro z;injection z with z;cases ns <;> simp at z)) h))
 ·exact .inl (.inr ⟨o,s _ _ (Db h hp (by intro z;cases z)) h⟩)
 ·exact .inr h
section
variable {K:PySem.W.Frag}{S:Addr×List Int}{H H':Hp}{p D:Addr}{k n:Nat}
theorem Cq.same (h:Cq K S H p k)(s:AF H H'):Cq K S H' p k:=by
 obtain⟨c,r,e,q,z⟩:=h
 exact⟨c,r,s _ _ e,s.seq q,z⟩
theorem Cq.mono (h:Cq K S H p k)(s:k≤n):Cq K S H p n:=by
 obtain⟨c,r,e,q,y,v,w⟩:=h
 exact⟨c,r,e,q,y,by omega,w⟩
theorem Cq.ob (h:Cq K S H p k):∃ vs,H p=some (.lst vs):=by
 obtain⟨_,_,e,_⟩:=h
 exact⟨_,e⟩
theorem Cq.ne (h:Cq K S H p k)(hD:H D=none):D≠p:=fun z=>by
 obtain⟨vs,e⟩:=h.ob
 rw[← z,hD]at e;cases e
theorem Cq.kp (h:Cq K S H p k)(s:KeepX p H H'):Kp H H':=by
 obtain⟨_,e⟩:=h.ob
 exact Kp.lst e s
theorem Cq.put {o:HO}(h0:Cq K S H p k)(hD:H D=none)(h:Cq K S H' p n):Cq K S (upd H' D o) p n:=by
 have ne:=h0.ne hD
 obtain⟨_,_,_,q0,_⟩:=h0
 obtain⟨c,r,e,q,z⟩:=h
 refine⟨c,r,by rw[AR (Ne.symm ne)];exact e,?_,z⟩
 rcases q0 with(q0 | ⟨o0,q0⟩) | q0
 ·have na:=AX q0 hD
  rcases q with(q | ⟨o1,q⟩) | q
  ·exact .inl (.inl (by rw[AR na];exact q))
  ·exact .inl (.inr ⟨o1,by rw[AR na];exact q⟩)
  ·exact .inr q
 ·have na:=AX q0 hD
  rcases q with(q | ⟨o1,q⟩) | q
  ·exact .inl (.inl (by rw[AR na];exact q))
  ·exact .inl (.inr ⟨o1,by rw[AR na];exact q⟩)
  ·exact .inr q
 ·exact .inr q0
end
def VX (K:PySem.W.Frag):Sp:=fun vs H Q _=>∃(a:Addr) (ns:List Int),vs=[.ref a]∧At K H a (ns.map V.int)∧ns.length≤63∧∀(p:Addr) (H':Hp),H p=none→Cq K (a,ns) H' p 0→AF H H'→Q (.ref p) H'
def VY (K:PySem.W.Frag):Sp:=fun vs H Q _=>∃(p:Addr) (m:Int) (k:Nat) (S:Addr×List Int),vs=[.ref p,.int m]∧0<m∧Sz 4000 m∧Cq K S H p k∧k≤10000000∧∀(r:Int) (H':Hp),0≤r→r<m→Cq K S H' p (k+1)→KeepX p H H'→Q (.int r) H'
inductive Th where
 | non | bl (b:Bool) | int (i:Int) | str (z:Str) | lst | dic | tup (ts:List Th)
inductive BB (H:Hp):V→Th→Prop where
 | non:BB H .non .non
 | bl (b:Bool):BB H (.bl b) (.bl b)
 | int (i:Int):BB H (.int i) (.int i)
 | str (z:Str) (hz:z.length≤1000):BB H (.str z) (.str z)
 | lst {a:Addr} {xs:List V} (e:H a=some (.lst xs)):BB H (.ref a) .lst
 | dic {a:Addr} {kvs:List (A9×V)} (e:H a=some (.dK kvs)):BB H (.ref a) .dic
 | tup {a:Addr} {us:List V} {ts:List Th} (e:H a=some (.tup us)) (hn:us.length=ts.length) (hh:∀(j:Nat) (u:V) (t:Th),us[j]?=some u→ts[j]?=some t→BB H u t):BB H (.ref a) (.tup ts)
theorem BB.same {H H':Hp}{v:V}{th:Th}(h:BB H v th)(s:AF H H'):BB H' v th:=by
 induction h with
 | non=>exact .non
 | bl b=>exact .bl b
 | int i=>exact .int i
 | str z hz=>exact .str z hz
 | lst e=>exact .lst (s _ _ e)
 | dic e=>exact .dic (s _ _ e)
 | tup e hn hh ih=>exact .tup (s _ _ e) hn fun j u t a b=>ih j u t a b
theorem BB.ofP {H:Hp}{a:Addr}{us:List V}{ts:List Th}(e:H a=some (.tup us))(p:Paired (BB H) us ts):BB H (.ref a) (.tup ts):=by
 refine .tup e (Paired.length p) ?_
 intro j u t h1 h2
 obtain⟨t',h3,h4⟩:=Au p h1
 rw[h2]at h3
 rw[Option.some.inj h3]
 exact h4
theorem BB.toP {H:Hp}:∀{us:List V} {ts:List Th},us.length=ts.length→(∀(j:Nat) (u:V) (t:Th),us[j]?=some u→ts[j]?=some t→BB H u t)→Paired (BB H) us ts
 | [],[],_,_=>.nil
 | [],_::_,h,_=>by simp at h
 | _::_,[],h,_=>by simp at h
 | u::us,t::ts,h,g=>.cons (g 0 u t rfl rfl) (BB.toP (by simpa using h) fun j a b h1 h2=>g (j+1) a b (by simpa using h1) (by simpa using h2))
def Xu:Th→String
 | .non=>"NoneType" | .bl _=>"bool" | .int _=>"int" | .str _=>"str" | .lst=>"list" | .dic=>"dict" | .tup _=>"tuple"
theorem BB.ty {K:PySem.W.Frag}{H:Hp}{v:V}{th:Th}(h:BB H v th):F9 K H v (.type (Xu th)):=by
 cases h with
 | non=>exact .non
 | bl b=>exact .bl b
 | int i=>exact .int i
 | str z hz=>exact .str z
 | lst e=>exact .lst e
 | dic e=>exact .dK e
 | tup e hn hh=>exact .tup e
def isInt:Th→Bool | .int _=>true | _=>false
def Ez:Th→Bool | .bl _=>true | _=>false
def Id:Th→Bool | .int i=>decide ((if i<0 then -i else i)≤999999999999999999999999999999) | _=>false
def Tz:Th→Th→Bool | .int t,.int b=>decide (1≤b)&&decide (V.int ((Nat.gcd t.natAbs b.natAbs:Nat):Int)=V.int 1) | _,_=>false
def KO (a b:Th):Bool:=Id a&&Id b&&Tz a b
def ET (L:Str)(z:Str):Bool:=(z.cps.toList.map fun c=>decide (c∈L.cps.toList)).all id
def LZ:Th→Bool | .str z=>!decide ((20:Int)<(z.length:Int))&&ET (Str.ofString "abcdefghijklmnopqrstuvwxyz0123456789 ") z | _=>false
def La:Th→Bool | .str z=>Ee (.str z) (ER.map V.str) | _=>false
def DL:Th→Bool | .str z=>!decide ((z.length:Int)<1)&&!decide ((6:Int)<(z.length:Int))&&ET (Str.ofString "abcdefghijklmnopqrstuvwxyz") z | _=>false
def BF (l:Int):Th→Bool | .int i=>decide (1≤i)&&decide (i≤l) | _=>false
def Js:Th→Bool | .tup [a,b,c]=>DL a&&BF 16 b&&BF 8 c | _=>false
def Di (k:Str)(ts:List Th):Bool:=
 if k=Str.ofString "none" then ts.isEmpty
 else if k=Str.ofString "number" then(match ts with | [a,b]=>KO a b | _=>false)
 else if k=Str.ofString "text" then(match ts with | [a]=>LZ a | _=>false)
 else if k=Str.ofString "truth" then(match ts with | [a]=>Ez a | _=>false)
 else if k=Str.ofString "fault" then(match ts with | [a,b]=>La a&&Js b | _=>false)
 else false
def Gn:Th→Bool | .tup (.str k::ts)=>Di k ts | _=>false
def HZ (f:Th→Bool):Sp:=fun vs H Q _=>∃(v:V) (th:Th),vs=[v]∧BB H v th∧∀ H',AF H H'→Q (.bl (f th)) H'
def XH (f:Th→Th→Bool):Sp:=fun vs H Q _=>∃(v u:V) (th tu:Th),vs=[v,u]∧BB H v th∧BB H u tu∧∀ H',AF H H'→Q (.bl (f th tu)) H'
def XI:Sp:=fun vs H Q _=>∃(v:V) (th:Th) (l:Int),vs=[v,.int l]∧BB H v th∧∀ H',AF H H'→Q (.bl (BF l th)) H'
def XJ:Sp:=fun vs H Q _=>∃ t b:Int,vs=[.int t,.int b]∧Q (.bl (Tz (.int t) (.int b))) H
theorem XM {z y:Str}:V.bl (decide (V.str z=V.str y))=V.bl (decide (z=y)):=by
 congr 1
 by_cases h:z=y
 ·subst h;simp
 ·rw[decide_eq_false h];exact decide_eq_false fun e=>h (by injection e)
theorem Ef {z y:Str}(h:z≠y):V.bl (decide (V.str z=V.str y))=V.bl false:=by rw[decide_eq_false fun e=>h (by injection e)]
theorem Go {n:Nat}{m:Int}(h:(n:Int)≠m):V.bl (decide (V.int (n:Int)=V.int m))=V.bl false:=by rw[decide_eq_false fun e=>h (by injection e)]
theorem Md {n:Nat}{m:Int}(h:(n:Int)=m):V.bl (decide (V.int (n:Int)=V.int m))=V.bl true:=by rw[decide_eq_true (by rw[h])]
theorem Ng {n:Nat}{m:Int}(h:(n:Int)=m):V.bl (!decide (V.int (n:Int)=V.int m))=V.bl false:=by rw[decide_eq_true (by rw[h])];rfl
theorem Nh {n:Nat}{m:Int}(h:(n:Int)≠m):V.bl (!decide (V.int (n:Int)=V.int m))=V.bl true:=by rw[decide_eq_false fun e=>h (by injection e)];rfl
theorem Oa {ts:List Th}(h:ts.length≠3):Js (.tup ts)=false:=by
 match ts,h with
 | [],_=>rfl
 | [_],_=>rfl
 | [_,_],_=>rfl
 | [_,_,_],h=>exact absurd rfl h
 | _::_::_::_::_,_=>rfl
theorem VZ (ts:List Th):Di (Str.ofString "none") ts=ts.isEmpty:=by unfold Di;rw[if_pos rfl]
theorem Si (ts:List Th):Di (Str.ofString "number") ts=(match ts with | [a,b]=>KO a b | _=>false):=by unfold Di;rw[if_neg (by nofun),if_pos rfl]
theorem Va (ts:List Th):Di (Str.ofString "text") ts=(match ts with | [a]=>LZ a | _=>false):=by unfold Di;rw[if_neg (by nofun),if_neg (by nofun),if_pos rfl]
theorem Vb (ts:List Th):Di (Str.ofString "truth") ts=(match ts with | [a]=>Ez a | _=>false):=by unfold Di;rw[if_neg (by nofun),if_neg (by nofun),if_neg (by nofun),if_pos rfl]
theorem Vc (ts:List Th):Di (Str.ofString "fault") ts=(match ts with | [a,b]=>La a&&Js b | _=>false):=by
 unfold Di;rw[if_neg (by nofun),if_neg (by nofun),if_neg (by nofun),if_neg (by nofun),if_pos rfl]
theorem Sj {i:Int}(h:i.natAbs<10 ^ 30):Id (.int i)=true:=by
 show decide ((if i<0 then -i else i)≤999999999999999999999999999999)=true
 refine decide_eq_true ?_
 split <;> omega
def Me:Vl→Th
 | .none=>.tup [.str (Str.ofString "none")]
 | .num t b=>.tup [.str (Str.ofString "number"),.int t,.int b]
 | .txt z=>.tup [.str (Str.ofString "text"),.str z]
 | .tru b=>.tup [.str (Str.ofString "truth"),.bl b]
 | .flt w z r c=>.tup [.str (Str.ofString "fault"),.str w,.tup [.str z,.int r,.int c]]
theorem sT {H:Hp}{z:Str}(h:z.length≤1000):BB H (.str z) (.str z):=.str z h
theorem LU.th {H:Hp}{p:Addr}{v:Vl}(ok:Rs v)(h:LU H p v):BB H (.ref p) (Me v):=by
 cases v with
 | none=>exact .ofP h (.cons (sT (by nofun)) .nil)
 | num t b=>exact .ofP h (.cons (sT (by nofun)) (.cons (.int _) (.cons (.int _) .nil)))
 | txt z=>exact .ofP h (.cons (sT (by nofun)) (.cons (sT (Nat.le_trans ok.1 (by decide))) .nil))
 | tru b=>exact .ofP h (.cons (sT (by nofun)) (.cons (.bl _) .nil))
 | flt w z r c=>
  obtain⟨q,a,b⟩:=h
  obtain⟨hw,nm,_⟩:=ok
  have tab:∀ w∈ER,w.length≤1000:=by nofun
  exact .ofP a (.cons (sT (by nofun)) (.cons (sT (tab w hw)) (.cons (.ofP b (.cons (sT (Nat.le_trans nm.hi (by decide))) (.cons (.int _) (.cons (.int _) .nil)))) .nil)))
theorem QJ {v:Vl}(ok:Rs v):Gn (Me v)=true:=by
 cases v with
 | none=>exact VZ _
 | num t b=>
  refine(Si _).trans ?_
  have hp:=ok.1.pos
  show(Id (.int t)&&Id (.int b)&&(decide (1≤b)&&decide (V.int ((Nat.gcd t.natAbs b.natAbs:Nat):Int)=V.int 1)))=true
  rw[Sj ok.2.1,Sj ok.2.2,ok.1.cop,decide_eq_true (show 1≤b by omega)]
  rfl
 | txt z=>
  refine(Va _).trans ?_
  have h1:=ok.1
  show(!decide ((20:Int)<(z.length:Int))&&ET (Str.ofString "abcdefghijklmnopqrstuvwxyz0123456789 ") z)=true
  rw[decide_eq_false (by omega)]
  exact Gj ok.2
 | tru b=>exact Vb _
 | flt w z r c=>
  refine(Vc _).trans ?_
  obtain⟨hw,nm,r0,r1,c0,c1⟩:=ok
  show(Ee (.str w) (ER.map V.str)&&(!decide ((z.length:Int)<1)&&!decide ((6:Int)<(z.length:Int))&&ET (Str.ofString "abcdefghijklmnopqrstuvwxyz") z&&(decide (1≤r)&&decide (r≤16))&&(decide (1≤c)&&decide (c≤8))))=true
  have h1:=nm.lo
  have h2:=nm.hi
  rw[QE hw,decide_eq_false (by omega),decide_eq_false (by omega),show ET (Str.ofString "abcdefghijklmnopqrstuvwxyz") z=true from Gj (QC nm),decide_eq_true r0,decide_eq_true r1,decide_eq_true c0,decide_eq_true c1]
  rfl
theorem c1 {a b c:Th}(h:DL a=false):Js (.tup [a,b,c])=false:=by show(DL a&&BF 16 b&&BF 8 c)=false;rw[h];rfl
def Ob:List (A9×V):=[(.inr (zS "value"),.int 2),(.inr (zS "cell"),.int 3),(.inr (zS "range"),.int 4),(.inr (zS "columns"),.int 4),(.inr (zS "gone"),.int 1),(.inr (zS "name"),.int 2),(.inr (zS "own"),.int 3),(.inr (zS "param"),.int 2),(.inr (zS "op"),.int 4),(.inr (zS "neg"),.int 2),(.inr (zS "if"),.int 4),(.inr (zS "sum"),.int 2),(.inr (zS "count"),.int 2),(.inr (zS "least"),.int 2),(.inr (zS "most"),.int 2),(.inr (zS "sumif"),.int 5),(.inr (zS "find"),.int 4),(.inr (zS "turn"),.int 2),(.inr (zS "stack"),.int 3),(.inr (zS "grid"),.int 5),(.inr (zS "outer"),.int 2)]
def DM (k:Str):Int:=match B4 Ob (.inr k)with | some (.int i)=>i | _=>0
def T1:V→Bool | .int _=>true | _=>false
theorem QK (k:Str):(B4 Ob (.inr k)).getD (.int 0)=.int (DM k):=by
 unfold DM
 cases h:B4 Ob (.inr k)with
 | none=>rfl
 | some v=>
  have all:∀ kv∈Ob,T1 kv.2=true:=by nofun
  unfold B4 at h
  obtain⟨kv,h1,h2⟩:=Option.map_eq_some_iff.mp h
  have:=all kv (List.mem_of_find?_eq_some h1)
  rw[h2]at this
  cases v <;> first | rfl | cases this
def T2:List (Str×List Nat):=[(zS "op",[2,3]),(zS "neg",[1]),(zS "if",[1,2,3]),(zS "sum",[1]),(zS "count",[1]),(zS "least",[1]),(zS "most",[1]),(zS "sumif",[1,3,4]),(zS "find",[1,2,3]),(zS "turn",[1]),(zS "stack",[1,2]),(zS "grid",[3,4]),(zS "outer",[1])]
def KP (k:Str):List Nat:=((T2.find? fun x=>decide (x.1=k)).map (·.2)).getD []
def T3:List V:=[vS "+",vS "-",vS "*",vS "/",vS "&",vS "=",vS "<"]
def Ub:List V:=[vS "=",vS "<"]
def Sk:List V:=[vS "yes",vS "no",vS "if",vS "sum",vS "count",vS "least",vS "most",vS "sumif",vS "find",vS "turn",vS "stack",vS "grid",vS "outer"]
def Fr:Th→Bool | .non=>true | th=>DL th
def CO:Th→Bool | .tup [a,b,c,d]=>Ez c&&Ez d&&BF 16 a&&BF 8 b | _=>false
def EI:Th→Bool | .tup [a,b]=>BF 8 a&&Ez b | _=>false
def Mf:Th→Th→Bool | .int a,.int b=>decide (a≤b) | _,_=>false
def Lb:Th→Bool | .str z=>DL (.str z)&&!Ee (.str z) Sk | _=>false
def Oc (l:List V):Th→Bool | .str z=>Ee (.str z) l | _=>false
def T4 (pr:Int):Th→Bool | .int i=>decide (0≤i)&&decide (i<min pr 3) | _=>false
def Ni (k:Str)(ts:List Th):Bool:=if k=zS "number" then(match ts with | [.int a,.int b]=>decide (b=1)&&decide (0≤a)&&decide (a≤999999999) | _=>false)else decide (k=zS "text")||decide (k=zS "truth")
def Uc:Th→Bool | .tup (.str k::ts)=>Gn (.tup (.str k::ts))&&Ni k ts | _=>false
def Ie:List Th→Bool
 | [.tup (a::x),.tup (b::y)]=>EI (.tup (a::x))&&EI (.tup (b::y))&&Mf a b
 | _=>false
def Mg:List Th→Bool
 | [.tup (a::b::x),.tup (c::d::y)]=>CO (.tup (a::b::x))&&CO (.tup (c::d::y))&&Mf a c&&Mf b d
 | _=>false
def Gp (k:Str)(r:List Th):Bool:=
 if k=zS "columns" then Ie r else if k=zS "cell" then(match r with | [c]=>CO c | _=>false)else Mg r
def JP (k:Str):List Th→Bool | s::r=>Fr s&&Gp k r | _=>false
def Ha (k:Str):List Th→Bool | a::r=>Lb a&&(if k=zS "name" then true else(match r with | .tup us::_=>decide (us.length≤3) | _=>false)) | _=>false
def BO (pr:Int)(k:Str)(ts:List Th):Bool:=
 if k=zS "value" then(match ts with | [a]=>Uc a | _=>false)
 else if k=zS "cell" then JP k ts
 else if k=zS "range" then JP k ts
 else if k=zS "columns" then JP k ts
 else if k=zS "name" then Ha k ts
 else if k=zS "own" then Ha k ts
 else if k=zS "param" then(match ts with | [a]=>T4 pr a | _=>false)
 else if k=zS "op" then(match ts with | a::_=>Oc T3 a | _=>false)
 else if k=zS "sumif" then(match ts with | _::a::_=>Oc Ub a | _=>false)
 else if k=zS "grid" then(match ts with | a::b::_=>BF 16 a&&BF 8 b | _=>false)
 else true
def DO (pr:Int):Th→Bool
 | .tup (.str k::ts)=>decide (((ts.length+1:Nat):Int)=DM k)&&BO pr k ts
 | _=>false
def XN:List Th→List Th | [_,.tup us]=>us | _=>[]
def DZ:Th→List Th
 | .tup (.str k::ts)=>if k=zS "own" then XN ts else(KP k).filterMap fun i=>(Th.str k::ts)[i]?
 | _=>[]
def DP:Nat→Int→Th→Bool
 | 0,_,_=>false
 | n+1,pr,th=>DO pr th&&(DZ th).all (DP n pr)
theorem Nj {n:Nat}{pr:Int}{th:Th}(h1:DO pr th=true)(h2:∀ t∈DZ th,DP n pr t=true):DP (n+1) pr th=true:=by
 rw[DP,Bool.and_eq_true,List.all_eq_true]
 exact⟨h1,h2⟩
theorem QL (k:Str):(KP k).length≤3:=by
 unfold KP
 cases h:T2.find? fun x=>decide (x.1=k)with
 | none=>exact Nat.zero_le _
 | some x=>
  have all:∀ x∈T2,x.2.length≤3:=by nofun
  exact all x (List.mem_of_find?_eq_some h)
theorem Lc {pr:Int}{ts:List Th}(h:DO pr (.tup (.str (zS "own")::ts))=true):∃ a us,ts=[a,.tup us]∧us.length≤3:=by
 have h:(decide (((ts.length+1:Nat):Int)=DM (zS "own"))&&BO pr (zS "own") ts)=true:=h
 rw[Bool.and_eq_true]at h
 obtain⟨h1,h2⟩:=h
 have e3:DM (zS "own")=3:=by nofun
 rw[e3]at h1
 have hl:ts.length=2:=by have:=of_decide_eq_true h1;omega
 match ts,hl with
 | [a,b],_=>
  have h2:Ha (zS "own") [a,b]=true:=by
   unfold BO at h2
   rw[if_neg (by nofun),if_neg (by nofun),if_neg (by nofun),if_neg (by nofun),if_neg (by nofun),if_pos rfl]at h2
   exact h2
  unfold Ha at h2
  dsimp only at h2
  rw[if_neg (by nofun),Bool.and_eq_true]at h2
  cases b with
  | tup us=>exact⟨a,us,rfl,of_decide_eq_true h2.2⟩
  | _=>cases h2.2
theorem T5 {pr:Int}{th:Th}(h:DO pr th=true):(DZ th).length≤3:=by
 cases th with
 | tup ts=>
  cases ts with
  | nil=>cases h
  | cons a ts=>
   cases a with
   | str k=>
    unfold DZ
    dsimp only
    by_cases hk:k=zS "own"
    ·subst hk
     obtain⟨a,us,rfl,hl⟩:=Lc h
     rw[if_pos rfl]
     exact hl
    ·rw[if_neg hk]
     exact Nat.le_trans (List.length_filterMap_le _ _) (QL k)
   | _=>cases h
 | _=>cases h
def Sl:Option Str→Th
 | none=>.non
 | some z=>.str z
def Fg (c:Sd):Th:=.tup [.int c.r,.int c.c,.bl c.x,.bl c.y]
def WZ:Lf→Th
 | .val v=>.tup [.str (zS "value"),Me v]
 | .cell s c=>.tup [.str (zS "cell"),Sl s,Fg c]
 | .rng s c d=>.tup [.str (zS "range"),Sl s,Fg c,Fg d]
 | .cols s i x j y=>.tup [.str (zS "columns"),Sl s,.tup [.int i,.bl x],.tup [.int j,.bl y]]
 | .gone=>.tup [.str (zS "gone")]
 | .nam z=>.tup [.str (zS "name"),.str z]
 | .par i=>.tup [.str (zS "param"),.int i]
 | .flt z=>.tup [.str (zS "fault"),.str z]
def R0:Kd→List Th→List Th
 | .op z,us=>.str (zS "op")::.str z::us
 | .neg,us=>.str (zS "neg")::us
 | .own z,us=>[.str (zS "own"),.str z,.tup us]
 | .sumif z,us=>.str (zS "sumif")::(us.take 1++.str z::us.drop 1)
 | .grid i j,us=>.str (zS "grid")::.int i::.int j::us
 | .wd z,us=>.str z::us
mutual
def Od:Fm→Th
 | .lf l=>WZ l
 | .nd k ps=>.tup (R0 k (Oy ps))
def Oy:List Fm→List Th
 | []=>[]
 | f::fs=>Od f::Oy fs
end
theorem Nk:∀ fs:List Fm,(Oy fs).length=fs.length
 | []=>by rw[Oy];rfl
 | f::fs=>by rw[Oy,List.length_cons,List.length_cons,Nk fs]
theorem sL {H:Hp}(z:String)(h:(zS z).length≤1000:=by nofun):BB H (vS z) (.str (zS z)):=.str _ h
theorem Mh {H:Hp}{s:Option Str}(h:QF s):BB H (Ua s) (Sl s):=by
 cases s with
 | none=>exact .non
 | some z=>exact .str z (Nat.le_trans (show Nm z from h).hi (by decide))
theorem Ig {H:Hp}{q:Addr}{c:Sd}(h:H q=some (.tup (Ru c))):BB H (.ref q) (Fg c):=.ofP h (.cons (.int _) (.cons (.int _) (.cons (.bl _) (.cons (.bl _) .nil))))
theorem GH.th {H:Hp}{a:Addr}{l:Lf}{pr:Nat}(ok:HX pr l)(h:GH H a l):BB H (.ref a) (WZ l):=by
 cases l with
 | val v=>obtain⟨q,h1,h2⟩:=h;exact .ofP h1 (.cons (sL _) (.cons (LU.th ok.1 h2) .nil))
 | cell s c=>obtain⟨q,h1,h2⟩:=h;exact .ofP h1 (.cons (sL _) (.cons (Mh ok.1) (.cons (Ig h2) .nil)))
 | rng s c d=>obtain⟨q,u,h1,h2,h3⟩:=h;exact .ofP h1 (.cons (sL _) (.cons (Mh ok.1) (.cons (Ig h2) (.cons (Ig h3) .nil))))
 | cols s i x j y=>obtain⟨q,u,h1,h2,h3⟩:=h;exact .ofP h1 (.cons (sL _) (.cons (Mh ok.1) (.cons (.ofP h2 (.cons (.int _) (.cons (.bl _) .nil))) (.cons (.ofP h3 (.cons (.int _) (.cons (.bl _) .nil))) .nil))))
 | gone=>exact .ofP h (.cons (sL _) .nil)
 | nam z=>exact .ofP h (.cons (sL _) (.cons (.str z (Nat.le_trans ok.1.hi (by decide))) .nil))
 | par i=>exact .ofP h (.cons (sL _) (.cons (.int _) .nil))
 | flt z=>exact .ofP h (.cons (sL _) (.cons (.str z (Nat.le_trans ok.2 (by decide))) .nil))
theorem T6 {z:Str}(h:z∈QG):z.length≤1000:=by have:=Rw h;omega
theorem Xw {α β:Type}{F:α→β→Prop}:∀{xs:List α} {ys:List β} (n:Nat),Paired F xs ys→Paired F (xs.take n) (ys.take n)
 | _,_,0,_=>by rw[List.take_zero,List.take_zero];exact .nil
 | _,_,_+1,.nil=>.nil
 | _,_,n+1,.cons r t=>by rw[List.take_succ_cons,List.take_succ_cons];exact .cons r (Xw n t)
theorem Xx {α β:Type}{F:α→β→Prop}:∀{xs:List α} {ys:List β} (n:Nat),Paired F xs ys→Paired F (xs.drop n) (ys.drop n)
 | _,_,0,h=>h
 | _,_,_+1,.nil=>.nil
 | _,_,n+1,.cons _ t=>by rw[List.drop_succ_cons,List.drop_succ_cons];exact Xx n t
theorem T7 {H:Hp}{a t:Addr}{k:Kd}{us:List V}{ts:List Th}{m:Nat}(ok:ES k m)(h:H a=some (.tup (Fq t k us)))(ht:DK k=true→H t=some (.tup us))(p:Paired (BB H) us ts):BB H (.ref a) (.tup (R0 k ts)):=by
 cases k with
 | op z=>exact .ofP h (.cons (sL _) (.cons (.str z (T6 ok.1)) p))
 | neg=>exact .ofP h (.cons (sL _) p)
 | own z=>exact .ofP h (.cons (sL _) (.cons (.str z (Nat.le_trans ok.1.hi (by decide))) (.cons (.ofP (ht rfl) p) .nil)))
 | sumif z=>
  have hz:z.length≤1000:=by rcases ok.1 with rfl | rfl <;> nofun
  exact .ofP h (.cons (sL _) (HY (Xw 1 p) (.cons (.str z hz) (Xx 1 p))))
 | grid i j=>exact .ofP h (.cons (sL _) (.cons (.int _) (.cons (.int _) p)))
 | wd z=>
  have tab:∀ x∈Gk,x.1.length≤1000:=by nofun
  exact .ofP h (.cons (.str z (tab _ (show(z,m)∈Gk from ok))) p)
theorem QM {H:Hp}:∀{us:List V} {ps:List Fm},Ay H us ps→(∀ g∈ps,∀ v,Aw H v g→BB H v (Od g))→Paired (BB H) us (Oy ps)
 | _,_,.nil,_=>by rw[Oy];exact .nil
 | _,_,.cons r t,h=>by rw[Oy];exact .cons (h _ (by simp) _ r) (QM t fun g hg=>h g (List.mem_cons_of_mem _ hg))
theorem Aw.th {H:Hp}{pr n:Nat}{f:Fm}(fo:FO pr n f):∀{v:V},Aw H v f→BB H v (Od f):=by
 induction fo with
 | lf ok=>
  intro v h
  cases h with
  | lf h=>rw[Od];exact GH.th ok h
 | @nd n k ps ok _ ih=>
  intro v h
  cases h with
  | nd h ht hl hh=>
   rw[Od]
   exact T7 ok h ht (QM (Aw.parts hl hh) fun g hg v hv=>ih g hg hv)
theorem Gq {z:Str}(nm:Nm z):DL (.str z)=true:=by
 have h1:=nm.lo
 have h2:=nm.hi
 show(!decide ((z.length:Int)<1)&&!decide ((6:Int)<(z.length:Int))&&ET (Str.ofString "abcdefghijklmnopqrstuvwxyz") z)=true
 rw[decide_eq_false (by omega),decide_eq_false (by omega),show ET (Str.ofString "abcdefghijklmnopqrstuvwxyz") z=true from Gj (QC nm)]
 rfl
theorem R1 {z:Str}(h:Rt z=false):Ee (.str z) Sk=false:=by
 unfold Rt at h
 rw[Bool.or_eq_false_iff]at h
 have e:Sk=Xn++Xo:=rfl
 rw[e]
 unfold Ee at *
 rw[List.any_append,h.1,h.2]
 rfl
theorem GI {z:Str}(nm:Nm z)(h:Rt z=false):Lb (.str z)=true:=by
 show(DL (.str z)&&!Ee (.str z) Sk)=true
 rw[Gq nm,R1 h]
 rfl
theorem Ih {s:Option Str}(h:QF s):Fr (Sl s)=true:=by
 cases s with
 | none=>rfl
 | some z=>exact Gq h
theorem DJ {l i:Int}(h0:1≤i)(h1:i≤l):BF l (.int i)=true:=by
 show(decide (1≤i)&&decide (i≤l))=true
 rw[decide_eq_true h0,decide_eq_true h1]
 rfl
theorem Gr {c:Sd}(h:Nf c):CO (Fg c)=true:=by
 show(true&&true&&BF 16 (.int c.r)&&BF 8 (.int c.c))=true
 rw[DJ h.r0 h.r1,DJ h.c0 h.c1]
 rfl
theorem KQ {a b:Int}(h:a≤b):Mf (.int a) (.int b)=true:=decide_eq_true h
theorem R3 {v:Vl}(ok:Rs v)(w:Xp v):Uc (Me v)=true:=by
 have e:=QJ ok
 cases v with
 | none=>exact w.elim
 | num t b=>
  show(Gn (Me (.num t b))&&Ni (zS "number") [.int t,.int b])=true
  rw[e]
  unfold Ni
  rw[if_pos rfl]
  show(true&&(decide (b=1)&&decide (0≤t)&&decide (t≤999999999)))=true
  rw[decide_eq_true w.1,decide_eq_true w.2.1,decide_eq_true w.2.2]
  rfl
 | txt z=>
  show(Gn (Me (.txt z))&&Ni (zS "text") [.str z])=true
  rw[e]
  unfold Ni
  rw[if_neg (by nofun),decide_eq_true rfl]
  rfl
 | tru b=>
  show(Gn (Me (.tru b))&&Ni (zS "truth") [.bl b])=true
  rw[e]
  unfold Ni
  rw[if_neg (by nofun)]
  show(true&&(_||decide (zS "truth"=zS "truth")))=true
  rw[decide_eq_true rfl,Bool.or_true]
  rfl
 | flt w' z r c=>exact w.elim
theorem Bw {pr:Int}{k:Str}{ts:List Th}(h1:((ts.length+1:Nat):Int)=DM k)(h2:BO pr k ts=true):DO pr (.tup (.str k::ts))=true:=by
 show(decide (((ts.length+1:Nat):Int)=DM k)&&BO pr k ts)=true
 rw[decide_eq_true h1,h2]
 rfl
theorem Ld (pr:Int)(ts:List Th):BO pr (zS "value") ts=(match ts with | [a]=>Uc a | _=>false):=by unfold BO;rw[if_pos rfl]
theorem Nl (pr:Int)(ts:List Th):BO pr (zS "cell") ts=JP (zS "cell") ts:=by unfold BO;rw[if_neg (by nofun),if_pos rfl]
theorem Le (pr:Int)(ts:List Th):BO pr (zS "range") ts=JP (zS "range") ts:=by unfold BO;rw[if_neg (by nofun),if_neg (by nofun),if_pos rfl]
theorem Ii (pr:Int)(ts:List Th):BO pr (zS "columns") ts=JP (zS "columns") ts:=by unfold BO;rw[if_neg (by nofun),if_neg (by nofun),if_neg (by nofun),if_pos rfl]
theorem Nn (pr:Int)(ts:List Th):BO pr (zS "name") ts=Ha (zS "name") ts:=by unfold BO;rw[if_neg (by nofun),if_neg (by nofun),if_neg (by nofun),if_neg (by nofun),if_pos rfl]
theorem QN (pr:Int)(ts:List Th):BO pr (zS "own") ts=Ha (zS "own") ts:=by unfold BO;rw[if_neg (by nofun),if_neg (by nofun),if_neg (by nofun),if_neg (by nofun),if_neg (by nofun),if_pos rfl]
theorem Lg (pr:Int)(ts:List Th):BO pr (zS "param") ts=(match ts with | [a]=>T4 pr a | _=>false):=by unfold BO;rw[if_neg (by nofun),if_neg (by nofun),if_neg (by nofun),if_neg (by nofun),if_neg (by nofun),if_neg (by nofun),if_pos rfl]
theorem Sm (pr:Int)(ts:List Th):BO pr (zS "op") ts=(match ts with | a::_=>Oc T3 a | _=>false):=by unfold BO;rw[if_neg (by nofun),if_neg (by nofun),if_neg (by nofun),if_neg (by nofun),if_neg (by nofun),if_neg (by nofun),if_neg (by nofun),if_pos rfl]
theorem Lh (pr:Int)(ts:List Th):BO pr (zS "sumif") ts=(match ts with | _::a::_=>Oc Ub a | _=>false):=by unfold BO;rw[if_neg (by nofun),if_neg (by nofun),if_neg (by nofun),if_neg (by nofun),if_neg (by nofun),if_neg (by nofun),if_neg (by nofun),if_neg (by nofun),if_pos rfl]
theorem No (pr:Int)(ts:List Th):BO pr (zS "grid") ts=(match ts with | a::b::_=>BF 16 a&&BF 8 b | _=>false):=by unfold BO;rw[if_neg (by nofun),if_neg (by nofun),if_neg (by nofun),if_neg (by nofun),if_neg (by nofun),if_neg (by nofun),if_neg (by nofun),if_neg (by nofun),if_neg (by nofun),if_pos rfl]
def QO (k:Str):Bool:=!decide (k=zS "value")&&!decide (k=zS "cell")&&!decide (k=zS "range")&&!decide (k=zS "columns")&&!decide (k=zS "name")&&!decide (k=zS "own")&&!decide (k=zS "param")&&!decide (k=zS "op")&&!decide (k=zS "sumif")&&!decide (k=zS "grid")
theorem KR {pr:Int}{k:Str}{ts:List Th}(h:QO k=true):BO pr k ts=true:=by
 unfold QO at h
 simp only[Bool.and_eq_true,Bool.not_eq_true',decide_eq_false_iff_not]at h
 obtain⟨⟨⟨⟨⟨⟨⟨⟨⟨h0,h1⟩,h2⟩,h3⟩,h4⟩,h5⟩,h6⟩,h7⟩,h8⟩,h9⟩:=h
 unfold BO
 rw[if_neg h0,if_neg h1,if_neg h2,if_neg h3,if_neg h4,if_neg h5,if_neg h6,if_neg h7,if_neg h8,if_neg h9]
theorem Oe {pr:Nat}{l:Lf}(ok:HX pr l){q:Int}(hq:(pr:Int)≤q)(h3:pr≤3):DO q (WZ l)=true:=by
 cases l with
 | val v=>exact Bw (by show(2:Int)=_;nofun) ((Ld _ _).trans (R3 ok.1 ok.2))
 | cell s c=>
  refine Bw (by show(3:Int)=_;nofun) ((Nl _ _).trans ?_)
  show(Fr (Sl s)&&Gp (zS "cell") [Fg c])=true
  rw[Ih ok.1]
  unfold Gp
  rw[if_neg (by nofun),if_pos rfl]
  exact Gr ok.2
 | rng s c d=>
  refine Bw (by show(4:Int)=_;nofun) ((Le _ _).trans ?_)
  show(Fr (Sl s)&&Gp (zS "range") [Fg c,Fg d])=true
  rw[Ih ok.1]
  unfold Gp
  rw[if_neg (by nofun),if_neg (by nofun)]
  show(true&&(CO (Fg c)&&CO (Fg d)&&Mf (.int c.r) (.int d.r)&&Mf (.int c.c) (.int d.c)))=true
  rw[Gr ok.2.1,Gr ok.2.2.1,KQ ok.2.2.2.1,KQ ok.2.2.2.2]
  rfl
 | cols s i x j y=>
  refine Bw (by show(4:Int)=_;nofun) ((Ii _ _).trans ?_)
  show(Fr (Sl s)&&Gp (zS "columns") [.tup [.int i,.bl x],.tup [.int j,.bl y]])=true
  rw[Ih ok.1]
  unfold Gp
  rw[if_pos rfl]
  show(true&&((BF 8 (.int i)&&true)&&(BF 8 (.int j)&&true)&&Mf (.int i) (.int j)))=true
  rw[DJ ok.2.1 (by have:=ok.2.2.1;have:=ok.2.2.2;omega),DJ (by have:=ok.2.1;have:=ok.2.2.1;omega) ok.2.2.2,KQ ok.2.2.1]
  rfl
 | gone=>exact Bw (by show(1:Int)=_;nofun) (KR (by nofun))
 | nam z=>
  refine Bw (by show(2:Int)=_;nofun) ((Nn _ _).trans ?_)
  unfold Ha
  dsimp only
  rw[GI ok.1 ok.2,if_pos rfl]
  rfl
 | par i=>
  refine Bw (by show(2:Int)=_;nofun) ((Lg _ _).trans ?_)
  show(decide (0≤i)&&decide (i<min q 3))=true
  rw[decide_eq_true ok.1,decide_eq_true (by have:=ok.2;omega)]
  rfl
 | flt z=>exact absurd ok.1 (by omega)
theorem QP (l:Lf):DZ (WZ l)=[]:=by
 have e:∀(k:Str) (ts:List Th),k≠zS "own"→KP k=[]→DZ (.tup (.str k::ts))=[]:=fun k ts h1 h2=>by
  unfold DZ
  dsimp only
  rw[if_neg h1,h2]
  rfl
 cases l <;> exact e _ _ (by nofun) (by nofun)
theorem XO {us:List Th}{m:Nat}(h:us.length=m)(hm:m=1∨m=2∨m=3):(m=1∧∃ a,us=[a])∨(m=2∧∃ a b,us=[a,b])∨(m=3∧∃ a b c,us=[a,b,c]):=by
 rcases hm with rfl | rfl | rfl
 ·exact .inl ⟨rfl,LW h⟩
 ·exact .inr (.inl ⟨rfl,HW h⟩)
 ·exact .inr (.inr ⟨rfl,LX h⟩)
def YE:Nat→List Nat
 | 1=>[1] | 2=>[1,2] | 3=>[1,2,3] | _=>[]
theorem QR {k:Kd}{us:List Th}(ok:ES k us.length):DZ (.tup (R0 k us))=us:=by
 have e:∀(k:Str) (ts:List Th) (pl:List Nat),k≠zS "own"→KP k=pl→DZ (.tup (.str k::ts))=pl.filterMap fun i=>(Th.str k::ts)[i]?:=fun k ts pl h1 h2=>by
  unfold DZ
  dsimp only
  rw[if_neg h1,h2]
 cases k with
 | op z=>
  obtain⟨a,b,rfl⟩:=HW ok.2
  exact(e _ _ [2,3] (by nofun) (by nofun)).trans rfl
 | neg=>
  obtain⟨a,rfl⟩:=LW (show us.length=1 from ok)
  exact(e _ _ [1] (by nofun) (by nofun)).trans rfl
 | own z=>
  show DZ (.tup [.str (zS "own"),.str z,.tup us])=us
  unfold DZ
  dsimp only
  rw[if_pos rfl]
  rfl
 | sumif z=>
  obtain⟨a,b,c,rfl⟩:=LX ok.2
  exact(e _ _ [1,3,4] (by nofun) (by nofun)).trans rfl
 | grid i j=>
  obtain⟨a,b,rfl⟩:=HW ok.2.2.2.2
  exact(e _ _ [3,4] (by nofun) (by nofun)).trans rfl
 | wd z=>
  have hw:(z,us.length)∈Gk:=ok
  have tab:∀ x∈Gk,x.1≠zS "own"∧KP x.1=YE x.2∧(x.2=1∨x.2=2∨x.2=3):=by nofun
  obtain⟨t1,t2,t3⟩:=tab _ hw
  refine(e z us _ t1 t2).trans ?_
  dsimp only at t3 ⊢
  rcases XO rfl t3 with⟨h,a,rfl⟩ | ⟨h,a,b,rfl⟩ | ⟨h,a,b,c,rfl⟩ <;> rfl
theorem T8 {z:Str}(h:z∈QG):Oc T3 (.str z)=true:=by
 have tab:∀ z∈QG,Ee (.str z) T3=true:=by nofun
 exact tab z h
theorem Of {k:Kd}{us:List Th}(ok:ES k us.length)(q:Int):DO q (.tup (R0 k us))=true:=by
 cases k with
 | op z=>
  obtain⟨a,b,rfl⟩:=HW ok.2
  exact Bw (by show(4:Int)=_;nofun) ((Sm _ _).trans (T8 ok.1))
 | neg=>
  obtain⟨a,rfl⟩:=LW (show us.length=1 from ok)
  exact Bw (by show(2:Int)=_;nofun) (KR (by nofun))
 | own z=>
  refine Bw (by show(3:Int)=_;nofun) ((QN _ _).trans ?_)
  show(Lb (.str z)&&(if zS "own"=zS "name" then true else decide (us.length≤3)))=true
  rw[GI ok.1 ok.2.1,if_neg (by nofun),decide_eq_true ok.2.2]
  rfl
 | sumif z=>
  obtain⟨a,b,c,rfl⟩:=LX ok.2
  refine Bw (by show(5:Int)=_;nofun) ((Lh _ _).trans ?_)
  show Ee (.str z) Ub=true
  rcases ok.1 with rfl | rfl <;> nofun
 | grid i j=>
  obtain⟨a,b,rfl⟩:=HW ok.2.2.2.2
  refine Bw (by show(5:Int)=_;nofun) ((No _ _).trans ?_)
  show(BF 16 (.int i)&&BF 8 (.int j))=true
  rw[DJ ok.1 ok.2.1,DJ ok.2.2.1 ok.2.2.2.1]
  rfl
 | wd z=>
  have hw:(z,us.length)∈Gk:=ok
  have tab:∀ x∈Gk,QO x.1=true∧((x.2+1:Nat):Int)=DM x.1:=by nofun
  obtain⟨t1,t2⟩:=tab _ hw
  exact Bw t2 (KR t1)
theorem Np {t:Th}:∀{fs:List Fm},t∈Oy fs→∃ g∈fs,t=Od g
 | [],h=>by rw[Oy]at h;cases h
 | f::fs,h=>by
  rw[Oy]at h
  rcases List.mem_cons.mp h with e | h
  ·exact⟨f,by simp,e⟩
  ·obtain⟨g,hg,e⟩:=Np h
   exact⟨g,List.mem_cons_of_mem _ hg,e⟩
theorem FO.tree {pr n:Nat}{f:Fm}(fo:FO pr n f){q:Int}(hq:(pr:Int)≤q)(h3:pr≤3):DP n q (Od f)=true:=by
 induction fo with
 | lf ok=>exact Nj (by rw[Od];exact Oe ok hq h3) fun t ht=>by rw[Od,QP]at ht;cases ht
 | @nd n k ps ok hp ih=>
  have okt:ES k (Oy ps).length:=by rw[Nk];exact ok
  refine Nj (by rw[Od];exact Of okt q) fun t ht=>?_
  rw[Od,QR okt]at ht
  obtain⟨g,hg,rfl⟩:=Np ht
  exact ih g hg
def YF:Lf→Int
 | .par i=>i+1
 | _=>0
mutual
def YG:Fm→Int
 | .lf l=>YF l
 | .nd _ ps=>Xy ps
def Xy:List Fm→Int
 | []=>0
 | f::fs=>max (YG f) (Xy fs)
end
theorem QS:Sk.all BC=true:=by nofun
theorem QT:T3.all BC=true:=by nofun
theorem QU:Ub.all BC=true:=by nofun
def Vd (K:PySem.W.Frag):Sp:=fun vs H Q _=>∃(v:V) (th:Th) (b:Addr) (ys:List V),vs=[v,.ref b]∧BB H v th∧(∀ H',Ae K H' b ys)∧ys.all BC=true∧∀ H',AF H H'→Q (.bl (Oc ys th)) H'
theorem Ve {th:Th}(h:Gn th=false):Uc th=false:=by
 cases th with
 | tup ts=>
  cases ts with
  | nil=>rfl
  | cons a ts=>
   cases a with
   | str k=>show(Gn (.tup (.str k::ts))&&Ni k ts)=false;rw[h];rfl
   | _=>rfl
 | _=>rfl
theorem Og {ts:List Th}(h:Gn (.tup ts)=true):∃ k ts',ts=.str k::ts':=by
 cases ts with
 | nil=>cases h
 | cons a ts=>
  cases a with
  | str k=>exact⟨k,ts,rfl⟩
  | _=>cases h
theorem Vf {k:Str}{ts:List Th}(h:Gn (.tup (.str k::ts))=true):Uc (.tup (.str k::ts))=Ni k ts:=by
 show(Gn (.tup (.str k::ts))&&Ni k ts)=_
 rw[h];rfl
theorem Nq {a:Th}(h:Id a=true):∃ i,a=.int i:=by cases a <;> first | exact⟨_,rfl⟩ | cases h
theorem R4 {ts:List Th}(h:Gn (.tup (.str (zS "number")::ts))=true):∃ x y,ts=[.int x,.int y]:=by
 have h:Di (zS "number") ts=true:=h
 rw[Si]at h
 match ts,h with
 | [a,b],h=>
  have h:(Id a&&Id b&&Tz a b)=true:=h
  simp only[Bool.and_eq_true]at h
  obtain⟨x,rfl⟩:=Nq h.1.1
  obtain⟨y,rfl⟩:=Nq h.1.2
  exact⟨x,y,rfl⟩
theorem XQ {a b:Int}:decide (V.int a=V.int b)=decide (a=b):=by
 by_cases h:a=b
 ·rw[decide_eq_true h,decide_eq_true (by rw[h])]
 ·rw[decide_eq_false h,decide_eq_false fun e=>h (by injection e)]
theorem R5 {x y:Int}:Ni (zS "number") [.int x,.int y]=(decide (V.int y=V.int 1)&&(decide (0≤x)&&decide (x≤999999999))):=by
 unfold Ni
 rw[if_pos rfl,XQ,← Bool.and_assoc]
theorem T9 {k:Str}{ts:List Th}(h:k≠zS "number"):Ni k ts=(decide (k=zS "text")||decide (k=zS "truth")):=by
 unfold Ni
 rw[if_neg h]
theorem Oh {ts:List Th}(h:ts.length≠4):CO (.tup ts)=false:=by
 match ts,h with
 | [],_=>rfl
 | [_],_=>rfl
 | [_,_],_=>rfl
 | [_,_,_],_=>rfl
 | [_,_,_,_],h=>exact absurd rfl h
 | _::_::_::_::_::_,_=>rfl
theorem Oi {ts:List Th}(h:ts.length≠2):EI (.tup ts)=false:=by
 match ts,h with
 | [],_=>rfl
 | [_],_=>rfl
 | [_,_],h=>exact absurd rfl h
 | _::_::_::_,_=>rfl
theorem Ij {l:Int}{t:Th}(h:BF l t=true):∃ i,t=.int i:=by cases t <;> first | exact⟨_,rfl⟩ | cases h
theorem Ik {t:Th}(h:EI t=true):∃ i b,t=.tup [.int i,b]:=by
 match t,h with
 | .tup [a,b],h=>
  have h:(BF 8 a&&Ez b)=true:=h
  rw[Bool.and_eq_true]at h
  obtain⟨i,rfl⟩:=Ij h.1
  exact⟨i,b,rfl⟩
theorem Il {t:Th}(h:CO t=true):∃ i j b c,t=.tup [.int i,.int j,b,c]:=by
 match t,h with
 | .tup [a,b,c,d],h=>
  have h:(Ez c&&Ez d&&BF 16 a&&BF 8 b)=true:=h
  simp only[Bool.and_eq_true]at h
  obtain⟨i,rfl⟩:=Ij h.1.2
  obtain⟨j,rfl⟩:=Ij h.2
  exact⟨i,j,c,d,rfl⟩
theorem QV {t u:Th}(h:EI t=false):Ie [t,u]=false:=by
 unfold Ie
 split
 ·rename_i a x b y e
  cases e
  rw[h];rfl
 ·rfl
theorem QW {t u:Th}(h:EI u=false):Ie [t,u]=false:=by
 unfold Ie
 split
 ·rename_i a x b y e
  cases e
  rw[h,Bool.and_false];rfl
 ·rfl
theorem QX {i j:Int}{b c:Th}(h1:EI (.tup [.int i,b])=true)(h2:EI (.tup [.int j,c])=true):Ie [.tup [.int i,b],.tup [.int j,c]]=decide (i≤j):=by
 show(EI _&&EI _&&decide (i≤j))=_
 rw[h1,h2];rfl
theorem R6 {t u:Th}(h:CO t=false):Mg [t,u]=false:=by
 unfold Mg
 split
 ·rename_i e
  cases e
  rw[h];rfl
 ·rfl
theorem R7 {t u:Th}(h:CO u=false):Mg [t,u]=false:=by
 unfold Mg
 split
 ·rename_i e
  cases e
  rw[h,Bool.and_false];rfl
 ·rfl
theorem R8 {i j i' j':Int}{b c b' c':Th}(h1:CO (.tup [.int i,.int j,b,c])=true)(h2:CO (.tup [.int i',.int j',b',c'])=true):Mg [.tup [.int i,.int j,b,c],.tup [.int i',.int j',b',c']]=(decide (i≤i')&&decide (j≤j')):=by
 show(CO _&&CO _&&decide (i≤i')&&decide (j≤j'))=_
 rw[h1,h2];rfl
def XR:Sp:=fun vs H Q _=>∃(v:V) (k:Str) (ts:List Th),vs=[v]∧BB H v (.tup (.str k::ts))∧((k=zS "cell"∧ts.length=2)∨(k=zS "range"∧ts.length=3)∨(k=zS "columns"∧ts.length=3))∧∀ H',AF H H'→Q (.bl (JP k ts)) H'
def Vg:Sp:=fun vs H Q _=>∃(v:V) (k:Str) (ts:List Th),vs=[v]∧BB H v (.tup (.str k::ts))∧((k=zS "name"∧ts.length=1)∨(k=zS "own"∧ts.length=2))∧∀ H',AF H H'→Q (.bl (Ha k ts)) H'
def Vh:Sp:=fun vs H Q _=>∃(v:V) (th:Th) (pr:Int),vs=[v,.int pr]∧BB H v th∧∀ H',AF H H'→Q (.bl (T4 pr th)) H'
def XS:Sp:=fun vs H Q _=>∃(v:V) (th:Th) (pr:Int),vs=[v,.int pr]∧BB H v th∧∀ H',AF H H'→Q (.bl (DO pr th)) H'
theorem XT {n:Nat}:decide ((n:Int)≤3)=decide (n≤3):=by
 by_cases h:n≤3
 ·rw[decide_eq_true h,decide_eq_true (by omega)]
 ·rw[decide_eq_false h,decide_eq_false (by omega)]
theorem XU {pr:Int}:(if(3:Int)<pr then(3:Int)else pr)=min pr 3:=by
 by_cases h:3<pr
 ·rw[if_pos h];omega
 ·rw[if_neg h];omega
theorem CH {H:Hp}{v:V}{ts:List Th}(h:BB H v (.tup ts)):∃ a us,v=.ref a∧H a=some (.tup us)∧Paired (BB H) us ts:=by
 cases h with
 | tup e hn hh=>exact⟨_,_,rfl,e,BB.toP hn hh⟩
theorem QY {s c:Th}:JP (zS "cell") [s,c]=(Fr s&&CO c):=by
 show(Fr s&&Gp (zS "cell") [c])=_
 unfold Gp
 rw[if_neg (by nofun),if_pos rfl]
theorem Oj {s c d:Th}:JP (zS "range") [s,c,d]=(Fr s&&Mg [c,d]):=by
 show(Fr s&&Gp (zS "range") [c,d])=_
 unfold Gp
 rw[if_neg (by nofun),if_neg (by nofun)]
theorem Li {s c d:Th}:JP (zS "columns") [s,c,d]=(Fr s&&Ie [c,d]):=by
 show(Fr s&&Gp (zS "columns") [c,d])=_
 unfold Gp
 rw[if_pos rfl]
theorem QZ {a:Th}:Ha (zS "name") [a]=Lb a:=by
 unfold Ha
 dsimp only
 rw[if_pos rfl,Bool.and_true]
theorem R9 {a b:Th}:Ha (zS "own") [a,b]=(Lb a&&(match b with | .tup us=>decide (us.length≤3) | _=>false)):=by
 unfold Ha
 dsimp only
 rw[if_neg (by nofun)]
 cases b <;> rfl
theorem UA {α:Type}{us:List α}(h:us.length=4):∃ a b c d,us=[a,b,c,d]:=match us,h with | [a,b,c,d],_=>⟨a,b,c,d,rfl⟩
theorem Mi {pr:Int}{th:Th}(h:DO pr th=true):∃ k ts,th=.tup (.str k::ts):=by
 cases th with
 | tup ts=>
  cases ts with
  | nil=>cases h
  | cons a ts=>
   cases a with
   | str k=>exact⟨k,ts,rfl⟩
   | _=>cases h
 | _=>cases h
theorem Qa {pr:Int}{k:Str}{ts:List Th}(h:DO pr (.tup (.str k::ts))=true):((ts.length+1:Nat):Int)=DM k:=by
 have h:(decide (((ts.length+1:Nat):Int)=DM k)&&BO pr k ts)=true:=h
 rw[Bool.and_eq_true]at h
 exact of_decide_eq_true h.1
theorem Vi {pr:Int}{k:Str}{ts:List Th}(h:DO pr (.tup (.str k::ts))=true):∀ p∈KP k,p<ts.length+1:=by
 intro p hp
 have hl:=Qa h
 unfold KP at hp
 cases e:T2.find? fun x=>decide (x.1=k)with
 | none=>rw[e]at hp;cases hp
 | some x=>
  rw[e]at hp
  have tab:∀ x∈T2,∀ p∈x.2,(p:Int)<DM x.1:=by nofun
  have hx:=tab x (List.mem_of_find?_eq_some e) p hp
  have hk:x.1=k:=by simpa using List.find?_some e
  rw[hk]at hx
  omega
theorem SA:WY=T2.map fun x=>((Sum.inr x.1:A9),x.2.map fun p=>V.int (p:Nat)):=rfl
theorem Vj (k:Str):(FW k=none∧KP k=[])∨FW k=some ((KP k).map fun p=>V.int (p:Nat)):=by
 unfold FW KP
 rw[SA,List.find?_map]
 have e:((fun kt:A9×List V=>decide (kt.1=(Sum.inr k:A9)))∘fun x:Str×List Nat=>((Sum.inr x.1:A9),x.2.map fun p=>V.int (p:Nat)))=fun x=>decide (x.1=k):=by
  funext x
  show decide ((Sum.inr x.1:A9)=Sum.inr k)=decide (x.1=k)
  by_cases h:x.1=k
  ·rw[decide_eq_true h,decide_eq_true (by rw[h])]
  ·rw[decide_eq_false h,decide_eq_false fun z=>h (Sum.inr.inj z)]
 rw[e]
 cases h:T2.find? fun x=>decide (x.1=k)with
 | none=>exact .inl ⟨rfl,rfl⟩
 | some x=>exact .inr rfl
theorem Nr {α β:Type}{F:α→β→Prop}{xs:List α}{ys:List β}(d:α)(h:Paired F xs ys):∀{pl:List Nat},(∀ p∈pl,p<xs.length)→Paired F (pl.map fun p=>xs.getD p d) (pl.filterMap fun p=>ys[p]?)
 | [],_=>.nil
 | p::pl,hp=>by
  have h1:=hp p (by simp)
  have e1:xs[p]?=some (xs.getD p d):=by rw[List.getD_eq_getElem?_getD,List.getElem?_eq_getElem h1];rfl
  obtain⟨y,e2,r⟩:=Au h e1
  rw[List.map_cons,List.filterMap_cons_some e2]
  exact .cons r (Nr d h fun q hq=>hp q (List.mem_cons_of_mem _ hq))
def Vk:Sp:=fun vs H Q _=>∃(v:V) (th:Th) (pr:Int),vs=[v]∧BB H v th∧DO pr th=true∧∀(l:Addr) (us:List V) (H':Hp),H l=none→H' l=some (.lst us)→Paired (BB H') us (DZ th)→AF H H'→Q (.ref l) H'
theorem SC {a:Th}{us:List Th}:DZ (.tup [.str (zS "own"),a,.tup us])=us:=by
 unfold DZ
 dsimp only
 rw[if_pos rfl]
 rfl
theorem UB {k:Str}{ts:List Th}(h:k≠zS "own"):DZ (.tup (.str k::ts))=(KP k).filterMap fun i=>(Th.str k::ts)[i]?:=by
 unfold DZ
 dsimp only
 rw[if_neg h]
theorem UC {H H':Hp}{us:List V}{ts:List Th}(p:Paired (BB H) us ts)(s:AF H H'):Paired (BB H') us ts:=Paired.imp' (fun _ _ x=>x.same s) p
def XV (n:Nat):Sp:=fun vs H Q _=>∃(v:V) (th:Th) (pr d:Int),vs=[v,.int pr,.int d]∧d=(n:Int)∧BB H v th∧∀ H',AF H H'→Q (.bl (DP n pr th)) H'
theorem Qb {n:Nat}{pr:Int}{th:Th}(h:DO pr th=true):DP (n+1) pr th=(DZ th).all (DP n pr):=by rw[DP,h,Bool.true_and]
theorem Qc {n:Nat}{pr:Int}{th:Th}(h:DO pr th=false):DP (n+1) pr th=false:=by rw[DP,h,Bool.false_and]
structure Dq (K:PySem.W.Frag)(x q:Str)(st:Stmt)(ps:List Str)(f:Addr)(fd:FuncData):Prop where
 fn:Fun K x q st f fd
 b:Ed K fd ps []
def Qd (K:PySem.W.Frag)(P1:Addr):Sp:=fun vs H Q _=>∃(a:Addr) (ns:List Int),vs=[.ref a]∧At K H a (ns.map V.int)∧ns.length≤63∧H P1=some (.tbl #[])∧∀ H',Q (.bl true) H'
theorem IB {t u:TS}{D:IF}{σ:St}{H:Hp}(J:St→Hp→Prop)(a:∀ N:St→Hp→Prop,(∀ σ' H',J σ' H'→N σ' H')→t { D with nx:=N } σ H)(BH:∀ σ' H',J σ' H'→u D σ' H'):Uj t u D σ H:=a _ BH
theorem Qe {W:List Str}{w:Str}(h:w∈W):Ee (.str w) (W.map V.str)=true:=by
 unfold Ee
 rw[List.any_map,List.any_eq_true]
 exact⟨w,h,by simp[Function.comp,Hq]⟩
theorem SD {W:List Str}{w:Str}:Ee (.str w) (W.map V.str)=decide (w∈W):=by
 by_cases h:w∈W
 ·rw[Qe h,decide_eq_true h]
 ·rw[decide_eq_false h]
  unfold Ee
  rw[List.any_map,List.any_eq_false]
  intro v hv e
  have:v=w:=by simpa [Function.comp,Hq]using e
  exact h (this▸hv)
section
variable (sh:Str)(zs:List Str)
def Ei (s:Option Str):Str:=s.getD sh
def RE:Lf→Lf
 | .cell s c=>if Ei sh s∈zs then .cell (some (Ei sh s)) c else .flt (zS "gone")
 | .rng s c d=>if Ei sh s∈zs then .rng (some (Ei sh s)) c d else .flt (zS "gone")
 | .cols s i x j y=>if Ei sh s∈zs then .rng (some (Ei sh s)) ⟨1,i,true,x⟩ ⟨16,j,true,y⟩else .flt (zS "gone")
 | .gone=>.flt (zS "gone")
 | .nam _=>.flt (zS "name")
 | l=>l
end
def Sn (w:Str):Bool:=decide (w∉[zS "gone",zS "cell",zS "range",zS "columns",zS "name"])
theorem So {k:Kd}{m:Nat}(ok:ES k m):Sn (kw k)=true:=by
 cases k with
 | op z=>show Sn (zS "op")=true;nofun
 | neg=>show Sn (zS "neg")=true;nofun
 | own z=>show Sn (zS "own")=true;nofun
 | sumif z=>show Sn (zS "sumif")=true;nofun
 | grid a b=>show Sn (zS "grid")=true;nofun
 | wd z=>
  have:∀ x∈Gk,Sn x.1=true:=by nofun
  exact this _ ok
theorem Im {w x:Str}(h:Sn w=true)(hx:x∈[zS "gone",zS "cell",zS "range",zS "columns",zS "name"]):decide (V.str w=V.str x)=false:=decide_eq_false fun e=>by
 injection e with e
 exact of_decide_eq_true h (e▸hx)
def Lj:Fm→Bool
 | .lf (.nam _)=>true
 | _=>false
def Mj:Fm→Bool
 | .nd k _=>DK k
 | _=>false
theorem SE {H:Hp}{v:V}{f:Fm}{pr n:Nat}(hv:Aw H v f)(fo:FO pr n f):∃(a:Addr) (w:Str) (r:List V),v=.ref a∧H a=some (.tup (.str w::r))∧decide (V.str w=V.str (zS "name"))=Lj f∧decide (V.str w=V.str (zS "own"))=Mj f:=by
 cases hv with
 | @lf a l hl=>
  cases l with
  | val v=>obtain⟨q,ha,_⟩:=hl;exact⟨a,_,_,rfl,ha,(show decide (V.str (zS "value")=V.str (zS "name"))=false by nofun),(show decide (V.str (zS "value")=V.str (zS "own"))=false by nofun)⟩
  | cell s c=>obtain⟨q,ha,_⟩:=hl;exact⟨a,_,_,rfl,ha,(show decide (V.str (zS "cell")=V.str (zS "name"))=false by nofun),(show decide (V.str (zS "cell")=V.str (zS "own"))=false by nofun)⟩
  | rng s c d=>obtain⟨q,q2,ha,_⟩:=hl;exact⟨a,_,_,rfl,ha,(show decide (V.str (zS "range")=V.str (zS "name"))=false by nofun),(show decide (V.str (zS "range")=V.str (zS "own"))=false by nofun)⟩
  | cols s i x j y=>obtain⟨q,q2,ha,_⟩:=hl;exact⟨a,_,_,rfl,ha,(show decide (V.str (zS "columns")=V.str (zS "name"))=false by nofun),(show decide (V.str (zS "columns")=V.str (zS "own"))=false by nofun)⟩
  | gone=>exact⟨a,_,_,rfl,hl,(show decide (V.str (zS "gone")=V.str (zS "name"))=false by nofun),(show decide (V.str (zS "gone")=V.str (zS "own"))=false by nofun)⟩
  | nam z=>exact⟨a,_,_,rfl,hl,(show decide (V.str (zS "name")=V.str (zS "name"))=true by nofun),(show decide (V.str (zS "name")=V.str (zS "own"))=false by nofun)⟩
  | par i=>exact⟨a,_,_,rfl,hl,(show decide (V.str (zS "param")=V.str (zS "name"))=false by nofun),(show decide (V.str (zS "param")=V.str (zS "own"))=false by nofun)⟩
  | flt z=>exact⟨a,_,_,rfl,hl,(show decide (V.str (zS "fault")=V.str (zS "name"))=false by nofun),(show decide (V.str (zS "fault")=V.str (zS "own"))=false by nofun)⟩
 | @nd a t kd us ps ha ht hl hh=>
  cases fo with
  | nd ok hps=>
   obtain⟨r0,er⟩:=Gm t kd us
   exact⟨a,kw kd,r0,rfl,by rw[ha,er],Im (So ok) (by simp),Mc ok⟩
theorem FO.prt1 {pr n:Nat}{f:Fm}(h:FO pr (n+1) f):∀ g∈A5 f,FO pr n g:=fun g hg=>by
 cases h with
 | lf h=>cases hg
 | nd h hp=>exact hp g hg
abbrev Da:=Str×Str
abbrev FX:=List (Da×Nat×Fm)
def Eg:Fm→Option Da
 | .lf (.nam z)=>some (zS "name",z)
 | .nd (.own z) _=>some (zS "own",z)
 | _=>none
mutual
def Cr (ts:List Fm):Fm→Fm
 | .lf (.par i)=>ts.getD i.toNat (.lf (.par i))
 | .lf l=>.lf l
 | .nd k ps=>.nd k (Lk ts ps)
def Lk (ts:List Fm):List Fm→List Fm
 | []=>[]
 | f::fs=>Cr ts f::Lk ts fs
end
theorem KS (ts:List Fm):∀ fs:List Fm,Lk ts fs=fs.map (Cr ts)
 | []=>by rw[Lk];rfl
 | f::fs=>by rw[Lk,KS ts fs];rfl
abbrev Io:Fm:=.lf (.flt (zS "name"))
section
variable (B:FX)(sh:Str)(zs:List Str)
def Bn:Nat→List Da→Fm→Fm
 | 0,_,f=>f
 | n+1,W,f=>match Eg f with
  | some key=>(match B.lookup key with
   | some (m,g)=>if key∈W∨m≠(A5 f).length then Io else Cr ((A5 f).map (Bn n W)) (Bn n (key::W) g)
   | none=>Io)
  | none=>(match f with
   | .lf l=>.lf (RE sh zs l)
   | .nd k ps=>.nd k (ps.map (Bn n W)))
def HK:Nat→List Da→Fm→Prop
 | 0,_,_=>False
 | n+1,W,f=>(∀ p∈A5 f,HK n W p)∧∀ key m g,Eg f=some key→B.lookup key=some (m,g)→key∉W→HK n (key::W) g
def B6:Nat→List Da→Fm→Nat
 | 0,_,_=>0
 | n+1,W,f=>((A5 f).map (B6 n W)).sum+(match Eg f with
  | some key=>(match B.lookup key with
   | some (_,g)=>if key∈W then 0 else 1+B6 n (key::W) g
   | none=>0)
  | none=>0)
theorem FP {n:Nat}{W:List Da}{f g:Fm}{key:Da}{m:Nat}(h1:Eg f=some key)(h2:B.lookup key=some (m,g))(h3:key∉W)(h4:m=(A5 f).length):Bn B sh zs (n+1) W f=Cr ((A5 f).map (Bn B sh zs n W)) (Bn B sh zs n (key::W) g):=by
 conv=>lhs;unfold Bn
 simp only[h1,h2]
 rw[if_neg (fun z=>z.elim h3 fun y=>y h4)]
theorem EU {n:Nat}{W:List Da}{f:Fm}{key:Da}(h1:Eg f=some key)(h:key∈W∨B.lookup key=none∨∃ m g,B.lookup key=some (m,g)∧m≠(A5 f).length):Bn B sh zs (n+1) W f=Io:=by
 conv=>lhs;unfold Bn
 simp only[h1]
 cases q:B.lookup key with
 | none=>rfl
 | some p=>
  obtain⟨m,g⟩:=p
  dsimp only
  rw[if_pos]
  rcases h with h | h | ⟨m',g',h,h'⟩
  ·exact .inl h
  ·rw[q]at h;cases h
  ·rw[q]at h;cases h;exact .inr h'
theorem Cs {n:Nat}{W:List Da}{k:Kd}{ps:List Fm}(h:Eg (.nd k ps)=none):Bn B sh zs (n+1) W (.nd k ps)=.nd k (ps.map (Bn B sh zs n W)):=by
 conv=>lhs;unfold Bn
 simp only[h]
theorem E1 {n:Nat}{W:List Da}{l:Lf}(h:Eg (.lf l)=none):Bn B sh zs (n+1) W (.lf l)=.lf (RE sh zs l):=by
 conv=>lhs;unfold Bn
 simp only[h]
theorem HK.put {n:Nat}{W:List Da}{f g:Fm}{key:Da}{m:Nat}(h:HK B (n+1) W f)(h1:Eg f=some key)(h2:B.lookup key=some (m,g))(h3:key∉W):HK B n (key::W) g:=h.2 key m g h1 h2 h3
theorem GJ {n:Nat}:∀{m:Nat} {W W':List Da} {f:Fm},HK B n W f→n≤m→(∀ k,k∈W↔k∈W')→Bn B sh zs m W' f=Bn B sh zs n W f∧HK B m W' f:=by
 induction n with
 | zero=>intro m W W' f h;exact h.elim
 | succ n ih=>
  intro m W W' f h hm hW
  obtain⟨m,rfl⟩:∃ k,m=k+1:=⟨m-1,by omega⟩
  have hp:∀ p∈A5 f,Bn B sh zs m W' p=Bn B sh zs n W p∧HK B m W' p:=fun p hp=>ih (h.1 p hp) (by omega) hW
  have hmap:(A5 f).map (Bn B sh zs m W')=(A5 f).map (Bn B sh zs n W):=List.map_congr_left fun p h=>(hp p h).1
  have hc:∀ key m' g,Eg f=some key→B.lookup key=some (m',g)→key∉W→Bn B sh zs m (key::W') g=Bn B sh zs n (key::W) g∧HK B m (key::W') g:=fun key m' g h1 h2 h3=>ih (h.2 key m' g h1 h2 h3) (by omega) fun k=>by simp[hW k]
  refine⟨?_,fun p h=>(hp p h).2,fun key m' g h1 h2 h3=>(hc key m' g h1 h2 (fun z=>h3 ((hW key).mp z))).2⟩
  cases hk:Eg f with
  | none=>
   cases f with
   | lf l=>rw[E1 B sh zs hk,E1 B sh zs hk]
   | nd k ps=>rw[Cs B sh zs hk,Cs B sh zs hk];exact congrArg _ hmap
  | some key=>
   by_cases hw:key∈W
   ·rw[EU B sh zs hk (.inl ((hW key).mp hw)),EU B sh zs hk (.inl hw)]
   cases hb:B.lookup key with
   | none=>rw[EU B sh zs hk (.inr (.inl hb)),EU B sh zs hk (.inr (.inl hb))]
   | some p=>
    obtain⟨m',g⟩:=p
    by_cases ha:m'=(A5 f).length
    ·rw[FP B sh zs hk hb (fun z=>hw ((hW key).mpr z)) ha,FP B sh zs hk hb hw ha,hmap,(hc key m' g hk hb hw).1]
    ·rw[EU B sh zs hk (.inr (.inr ⟨_,_,hb,ha⟩)),EU B sh zs hk (.inr (.inr ⟨_,_,hb,ha⟩))]
end
def Qf (g:Fm)(ts:List Fm):Fm:=match g with
 | .lf l=>.lf l
 | .nd k _=>.nd k ts
def GK (st:List Fm)(g:Fm):List Fm:=st.take (st.length-(A5 g).length)++[Qf g (st.drop (st.length-(A5 g).length))]
theorem Ip {st ts:List Fm}{g:Fm}(h:ts.length=(A5 g).length):GK (st++ts) g=st++[Qf g ts]:=by
 unfold GK
 have e:(st++ts).length-(A5 g).length=st.length:=by rw[List.length_append];omega
 rw[e,List.take_left,List.drop_left]
inductive FY:List Fm→List Fm→Prop where
 | nil:FY [] []
 | lf {l:Lf} {r ts:List Fm} (h:FY r ts):FY (.lf l::r) (.lf l::ts)
 | nd {k:Kd} {ps r0 ts0 r ts:List Fm} (h0:FY r0 ts0) (hl:ps.length=ts0.length) (h:FY r ts):FY (r0++.nd k ps::r) (.nd k ts0::ts)
theorem FY.app {r ts r' ts':List Fm}(h:FY r ts)(h':FY r' ts'):FY (r++r') (ts++ts'):=by
 induction h with
 | nil=>exact h'
 | lf _ ih=>exact .lf ih
 | nd h0 hl _ _ ih=>rw[List.append_assoc];exact .nd h0 hl ih
theorem FY.one {k:Kd}{ps r ts:List Fm}(h:FY r ts)(hl:ps.length=ts.length):FY (r++[.nd k ps]) [.nd k ts]:=.nd h hl .nil
theorem FY.len {r ts:List Fm}(h:FY r ts):r.length=BQ ts:=by
 induction h with
 | nil=>rw[BQ];rfl
 | lf _ ih=>rw[BQ,List.length_cons,ih,BW];omega
 | nd _ _ _ ih0 ih=>rw[BQ,List.length_append,List.length_cons,ih0,ih,BW];omega
theorem FY.fold {r ts:List Fm}(h:FY r ts):∀ st:List Fm,r.foldl GK st=st++ts:=by
 induction h with
 | nil=>intro st;simp
 | @lf l r ts _ ih=>
  intro st
  have e:=Ip (st:=st) (ts:=[]) (g:=.lf l) rfl
  rw[List.append_nil]at e
  rw[List.foldl_cons,e,ih,List.append_assoc]
  rfl
 | @nd k ps r0 ts0 r ts h0 hl _ ih0 ih=>
  intro st
  rw[List.foldl_append,ih0,List.foldl_cons,Ip (show ts0.length=(A5 (.nd k ps)).length from hl.symm),ih,List.append_assoc]
  rfl
theorem FY.pre {r ts:List Fm}(h:FY r ts):∀(st:List Fm) (i:Nat) (g:Fm),r[i]?=some g→∃ st' ts',(r.take i).foldl GK st=st'++ts'∧ts'.length=(A5 g).length:=by
 induction h with
 | nil=>intro st i g h;simp at h
 | @lf l r ts _ ih=>
  intro st i g h
  cases i with
  | zero=>
   cases h
   exact⟨st,[],by simp,rfl⟩
  | succ i=>exact ih _ i g h
 | @nd k ps r0 ts0 r ts h0 hl _ ih0 ih=>
  intro st i g h
  by_cases c:i<r0.length
  ·rw[List.getElem?_append_left c]at h
   obtain⟨st',ts',e,l⟩:=ih0 st i g h
   exact⟨st',ts',by rw[List.take_append_of_le_length (by omega)];exact e,l⟩
  ·rw[List.getElem?_append_right (by omega)]at h
   rw[List.take_append,List.take_of_length_le (by omega),List.foldl_append,h0.fold]
   cases q:i-r0.length with
   | zero=>
    rw[q]at h
    cases h
    exact⟨st,ts0,rfl,hl.symm⟩
   | succ j=>
    rw[q]at h
    rw[List.take_succ_cons,List.foldl_cons]
    exact ih _ j g h
def DQ (rs:Nat→List Fm):Fm→List Fm
 | .lf (.par i)=>rs i.toNat
 | g=>[g]
theorem Qg {rs:Nat→List Fm}{g:Fm}(h:∀ i,g≠.lf (.par i)):DQ rs g=[g]:=by
 cases g with
 | nd k ps=>rfl
 | lf l=>
  cases l with
  | par i=>exact absurd rfl (h i)
  | _=>rfl
theorem FY.fill {r ts:List Fm}(h:FY r ts){rs:Nat→List Fm}{Ts:List Fm}:(∀ i:Int,Fm.lf (.par i)∈r→∃ T,Ts[i.toNat]?=some T∧FY (rs i.toNat) [T])→FY (r.flatMap (DQ rs)) (ts.map (Cr Ts)):=by
 induction h with
 | nil=>intro _;exact .nil
 | @lf l r ts _ ih=>
  intro hp
  rw[List.flatMap_cons,List.map_cons]
  have a:=ih fun i hi=>hp i (List.mem_cons_of_mem _ hi)
  cases l with
  | par i=>
   obtain⟨T,e1,e2⟩:=hp i (by simp)
   have e3:Cr Ts (.lf (.par i))=T:=by rw[Cr,List.getD_eq_getElem?_getD,e1];rfl
   rw[e3]
   exact e2.app a
  | val v=>rw[Cr.eq_2 _ _ (fun i z=>by cases z)];exact .lf a
  | cell s c=>rw[Cr.eq_2 _ _ (fun i z=>by cases z)];exact .lf a
  | rng s c d=>rw[Cr.eq_2 _ _ (fun i z=>by cases z)];exact .lf a
  | cols s i x j y=>rw[Cr.eq_2 _ _ (fun i z=>by cases z)];exact .lf a
  | gone=>rw[Cr.eq_2 _ _ (fun i z=>by cases z)];exact .lf a
  | nam z=>rw[Cr.eq_2 _ _ (fun i z=>by cases z)];exact .lf a
  | flt z=>rw[Cr.eq_2 _ _ (fun i z=>by cases z)];exact .lf a
 | @nd k ps r0 ts0 r ts _ hl _ ih0 ih=>
  intro hp
  rw[List.flatMap_append,List.flatMap_cons,List.map_cons,Cr,KS]
  exact .nd (ih0 fun i hi=>hp i (by simp[hi])) (by rw[List.length_map];exact hl) (ih fun i hi=>hp i (by simp[hi]))
def Bq (k:Da):List A9:=[Sum.inr k.1,Sum.inr k.2]
theorem E2 {a b:Da}(h:Bq a=Bq b):a=b:=by
 unfold Bq at h
 injection h with h1 h2
 injection h2 with h2 _
 injection h1 with h1
 injection h2 with h2
 exact Prod.ext h1 h2
def wK (W:List Da):List (Empty ⊕ List A9):=W.map fun k=>.inr (Bq k)
theorem Qh:∀{a b:List Da},wK a=wK b→a=b
 | [],[],_=>rfl
 | [],_::_,h=>by cases h
 | _::_,[],h=>by cases h
 | x::a,y::b,h=>by
  have h:Sum.inr (Bq x)::wK a=Sum.inr (Bq y)::wK b:=h
  injection h with h1 h2
  injection h1 with h1
  rw[E2 h1,Qh h2]
def JQ (H:Hp)(p:List A9×V)(q:Da×Nat×Fm):Prop:=p.1=Bq q.1∧∃(a:Addr) (v:V),p.2=.ref a∧H a=some (.tup [.int q.2.1,v])∧Aw H v q.2.2
theorem JQ.kp {H H':Hp}{p:List A9×V}{q:Da×Nat×Fm}(h:JQ H p q)(s:Kp H H'):JQ H' p q:=by
 obtain⟨e,a,v,x,y,z⟩:=h
 exact⟨e,a,v,x,s _ _ y,z.kp s⟩
theorem Qi {H:Hp}{key:Da}:∀{cs:List (List A9×V)} {B:FX},Paired (JQ H) cs B→B.lookup key=none→B4 cs (Bq key)=none
 | _,_,.nil,_=>rfl
 | p::cs,q::B,.cons r t,h=>by
  rw[List.lookup_cons]at h
  by_cases e:key=q.1
  ·rw[e,beq_self_eq_true]at h;cases h
  ·rw[beq_false_of_ne e]at h
   have ih:=Qi t h
   unfold B4 at ih ⊢
   rw[List.find?_cons,decide_eq_false (by rw[r.1];exact fun z=>e (E2 z).symm)]
   exact ih
theorem KU {H:Hp}{key:Da}{m:Nat}{g:Fm}:∀{cs:List (List A9×V)} {B:FX},Paired (JQ H) cs B→B.lookup key=some (m,g)→∃ a v,B4 cs (Bq key)=some (.ref a)∧H a=some (.tup [.int m,v])∧Aw H v g
 | _,_,.nil,h=>by cases h
 | p::cs,q::B,.cons r t,h=>by
  rw[List.lookup_cons]at h
  unfold B4
  rw[List.find?_cons]
  by_cases e:key=q.1
  ·rw[e,beq_self_eq_true]at h
   have h':q.2=(m,g):=Option.some.inj h
   obtain⟨e1,a,v,e2,e3,e4⟩:=r
   rw[h']at e3 e4
   rw[decide_eq_true (by rw[e1,e])]
   exact⟨a,v,by rw[← e2];rfl,e3,e4⟩
  ·rw[beq_false_of_ne e]at h
   rw[decide_eq_false (by rw[r.1];exact fun z=>e (E2 z).symm)]
   exact KU t h
def RO (pr:Nat)(g:Fm):Prop:=FO 4 8 g∧∀ i,g=.lf (.par i)→0≤i∧i<pr
def Ll (H:Hp)(v:V)(r:List Fm)(T:Fm)(pr:Nat):Prop:=∃(l:Addr) (ws:List V),v=.ref l∧H l=some (.lst ws)∧Ay H ws r∧FY r [T]∧∀ g∈r,RO pr g
def JR (H:Hp)(v:V)(T:Fm)(pr:Nat):Prop:=(BW T≤200∧∃ r,Ll H v r T pr)∨(200<BW T∧v=.non)
theorem Ll.to {H H':Hp}{v:V}{r:List Fm}{T:Fm}{pr:Nat}(h:Ll H v r T pr)(q:Kp H H')(k:∀ l ws,v=.ref l→H l=some (.lst ws)→H' l=some (.lst ws)):Ll H' v r T pr:=by
 obtain⟨l,ws,a,b,c,d⟩:=h
 exact⟨l,ws,a,k l ws a b,Ay.kp c q,d⟩
theorem JR.to {H H':Hp}{v:V}{T:Fm}{pr:Nat}(h:JR H v T pr)(q:Kp H H')(k:∀ l ws,v=.ref l→H l=some (.lst ws)→H' l=some (.lst ws)):JR H' v T pr:=by
 rcases h with⟨a,r,b⟩ | h
 ·exact .inl ⟨a,r,b.to q k⟩
 ·exact .inr h
theorem Ll.len {H:Hp}{v:V}{r:List Fm}{T:Fm}{pr:Nat}(h:Ll H v r T pr):r.length=BW T:=by
 obtain⟨l,ws,_,_,_,s,_⟩:=h
 rw[s.len,BQ,BQ];omega
def YH (B:FX)(sh:Str)(zs:List Str)(H:Hp)(p:KN×Addr×V):Prop:=∃(key:Da) (W:List Da) (m:Nat) (g:Fm) (n:Nat),p.1=(Bq key,wK W)∧B.lookup key=some (m,g)∧HK B n W g∧JR H p.2.2 (Bn B sh zs n W g) m
def Xz (s:V)(t1 c r:Addr):List (Str×V):=[("sheet",s),("sheets",.ref t1),("called",.ref c),("known_rows",.ref r)]
def XW (C:Addr)(H:Hp)(u d:Addr)(sh:Str)(zs:List Str):Prop:=∃ t1 c r:Addr,H u=some (.ins C d (Xz (.str sh) t1 c r))∧H t1=some (.tup (zs.map V.str))
structure HL (P:Program)(w:World)(C:Addr)(H:Hp)(u d r:Addr)(B:FX)(sh:Str)(zs:List Str)(kvs:List (KN×Addr×V)):Prop where
 ob:∃(t1 c:Addr) (cs:List (List A9×V)),H u=some (.ins C d (Xz (.str sh) t1 c r))∧H t1=some (.tup (zs.map V.str))∧H c=some (.dT cs)∧Paired (JQ H) cs B
 me:H r=some (DN P w r kvs)
 ks:∀ p∈kvs,KNAt H p.1 p.2.1
 ok:∀ p∈kvs,YH B sh zs H p
theorem HL.b {P:Program}{w:World}{C:Addr}{H:Hp}{u d r:Addr}{B:FX}{sh:Str}{zs:List Str}{kvs:List (KN×Addr×V)}(h:HL P w C H u d r B sh zs kvs):XW C H u d sh zs:=by
 obtain⟨t1,c,cs,a,b,_⟩:=h.ob
 exact⟨t1,c,r,a,b⟩
theorem _root_.L2.KNAt.kp {H H':Hp}{k:KN}{b:Addr}(h:KNAt H k b)(s:Kp H H'):KNAt H' k b:=by
 obtain⟨b1,b2,cs,a,c,d,e⟩:=h
 exact⟨b1,b2,cs,s _ _ a,s _ _ c,s _ _ d,Paired.imp' (fun _ _ x=>let ⟨ks,y,z⟩:=x;⟨ks,y,s _ _ z⟩) e⟩
section
variable {P:Program}{w:World}{C:Addr}{H H':Hp}{u d r:Addr}{B:FX}{sh:Str}{zs:List Str}{kvs:List (KN×Addr×V)}
theorem HL.to (h:HL P w C H u d r B sh zs kvs)(q:Kp H H')(k1:∀ C d fs,H u=some (.ins C d fs)→H' u=some (.ins C d fs))(k2:∀ c cs,H c=some (.dT cs)→H' c=some (.dT cs))(k3:∀ φ,H r=some (.ext φ)→H' r=some (.ext φ))
 (k4:∀ p∈kvs,∀ l ws,p.2.2=.ref l→H l=some (.lst ws)→H' l=some (.lst ws)):HL P w C H' u d r B sh zs kvs:=by
 obtain⟨⟨t1,c,cs,a1,a2,a3,a4⟩,b,e,f⟩:=h
 refine⟨⟨t1,c,cs,k1 _ _ _ a1,q _ _ a2,k2 _ _ a3,Paired.imp' (fun _ _ x=>x.kp q) a4⟩,k3 _ b,fun p hp=>(e p hp).kp q,fun p hp=>?_⟩
 obtain⟨key,W,m,g,n,x1,x2,x3,x4⟩:=f p hp
 exact⟨key,W,m,g,n,x1,x2,x3,x4.to q (k4 p hp)⟩
theorem HL.same (h:HL P w C H u d r B sh zs kvs)(s:AF H H'):HL P w C H' u d r B sh zs kvs:=h.to (Kp.same s) (fun _ _ _=>s _ _) (fun _ _=>s _ _) (fun _=>s _ _) fun _ _ _ _ _=>s _ _
theorem HL.kx {l:Addr}{o:HO}(h:HL P w C H u d r B sh zs kvs)(k:KeepX l H H')(hl:H l=some o)(ho:(∃ ys,o=.lst ys)∨∃ kv,o=.dK kv)(hn:∀ p∈kvs,p.2.2≠.ref l):HL P w C H' u d r B sh zs kvs:=by
 have ne:∀{b:Addr} {o':HO},H b=some o'→(∀ ys,o'≠.lst ys)→(∀ kv,o'≠.dK kv)→b≠l:=fun {b o'} e n1 n2 z=>by
  rw[z,hl]at e
  cases e
  rcases ho with⟨ys,rfl⟩ | ⟨kv,rfl⟩
  ·exact n1 _ rfl
  ·exact n2 _ rfl
 refine h.to (fun a xs e=>k _ _ (ne e (fun _ z=>by cases z) (fun _ z=>by cases z)) e) (fun _ _ _ e=>k _ _ (ne e (fun _ z=>by cases z) (fun _ z=>by cases z)) e) (fun _ _ e=>k _ _ (ne e (fun _ z=>by cases z) (fun _ z=>by cases z)) e) (fun _ e=>k _ _ (ne e (fun _ z=>by cases z) (fun _ z=>by cases z)) e) fun p hp l' ws e e'=>k _ _ (fun z=>hn p hp (by rw[e,z])) e'
end
def KW (B:FX)(zs:List Str):Prop:=(∀ z∈zs,Nm z)∧∀ k m g,B.lookup k=some (m,g)→m≤3∧FO m 8 g
structure XX (H:Hp)(x:V)(W:List Da)(kvs kvs':List (KN×Addr×V))(c:Nat):Prop where
 fr:∀ l,x=.ref l→H l=none
 en:∀ p∈kvs',p∈kvs∨(W.length<p.1.2.length∧∀ l,p.2.2=.ref l→H l=none)
 ln:kvs'.length≤kvs.length+c
def SF (P:Program)(w:World)(C:Addr)(n:Nat):Sp:=fun vs H Q _=>∃(u d r wa:Addr) (v:V) (B:FX) (sh:Str) (zs:List Str) (kvs:List (KN×Addr×V)) (W:List Da) (f:Fm) (pr:Nat) (ws:List V),vs=[.ref u,v,.ref wa]∧HL P w C H u d r B sh zs kvs∧KW B zs∧Aw H v f∧FO pr 8 f∧pr≤3∧H wa=some (.tup ws)∧PSt.Prs H ws W∧W.length+n≤60∧HK B n W f∧kvs.length+B6 B n W f≤1000000∧
 ∀(x:V) (kvs':List (KN×Addr×V)) (H':Hp),HL P w C H' u d r B sh zs kvs'→JR H' x (Bn B sh zs n W f) pr→KeepX r H H'→XX H x W kvs kvs' (B6 B n W f)→Q x H'
def Vm (P:Program)(w:World)(C:Addr)(n:Nat):Sp:=fun vs H Q _=>∃(u d r wa:Addr) (v:V) (B:FX) (sh:Str) (zs:List Str) (kvs:List (KN×Addr×V)) (W:List Da) (f:Fm) (pr:Nat) (ws:List V) (key:Da),vs=[.ref u,v,.ref wa]∧HL P w C H u d r B sh zs kvs∧KW B zs∧Aw H v f∧FO pr 8 f∧pr≤3∧H wa=some (.tup ws)∧PSt.Prs H ws W∧W.length+(n+1)≤60∧HK B (n+1) W f∧kvs.length+B6 B (n+1) W f≤1000000∧Eg f=some key∧
 ∀(x:V) (kvs':List (KN×Addr×V)) (H':Hp),HL P w C H' u d r B sh zs kvs'→JR H' x (Bn B sh zs (n+1) W f) pr→KeepX r H H'→XX H x W kvs kvs' (B6 B (n+1) W f)→Q x H'
def XY (P:Program)(w:World)(C:Addr)(n:Nat):Sp:=fun vs H Q _=>∃(u d r ka wa:Addr) (B:FX) (sh:Str) (zs:List Str) (kvs:List (KN×Addr×V)) (W:List Da) (key:Da) (m:Nat) (g:Fm) (ws:List V),vs=[.ref u,.ref ka,.ref wa]∧HL P w C H u d r B sh zs kvs∧KW B zs∧H ka=some (.tup [.str key.1,.str key.2])∧H wa=some (.tup ws)∧PSt.Prs H ws W∧W.length+(n+1)≤60∧key∉W∧B.lookup key=some (m,g)∧HK B n (key::W) g∧kvs.length+(1+B6 B n (key::W) g)≤1000000∧
 ∀(x:V) (kvs':List (KN×Addr×V)) (H':Hp),HL P w C H' u d r B sh zs kvs'→JR H' x (Bn B sh zs n (key::W) g) m→KeepX r H H'→(∀ p∈kvs',p∈kvs∨(W.length<p.1.2.length∧∀ l,p.2.2=.ref l→H l=none))→kvs'.length≤kvs.length+(1+B6 B n (key::W) g)→Q x H'
def Vn (P:Program)(w:World)(C:Addr)(n:Nat):Sp:=fun vs H Q _=>∃(u d r rl pl wa:Addr) (B:FX) (sh:Str) (zs:List Str) (kvs:List (KN×Addr×V)) (W:List Da) (pr m:Nat) (rw:List Fm) (T:Fm) (us ws:List V) (ps:List Fm),vs=[.ref u,.ref rl,.ref pl,.ref wa]∧HL P w C H u d r B sh zs kvs∧KW B zs∧Ll H (.ref rl) rw T m∧BW T≤200∧H pl=some (.lst us)∧Ay H us ps∧ps.length=m∧ps.length≤3∧(∀ p∈ps,FO pr 8 p∧HK B n W p)∧pr≤3∧H wa=some (.tup ws)∧PSt.Prs H ws W∧W.length+n≤60∧kvs.length+(ps.map (B6 B n W)).sum≤1000000∧
 ∀(x:V) (kvs':List (KN×Addr×V)) (H':Hp),HL P w C H' u d r B sh zs kvs'→JR H' x (Cr (ps.map (Bn B sh zs n W)) T) pr→KeepX r H H'→XX H x W kvs kvs' (ps.map (B6 B n W)).sum→Q x H'
def Vo:Lf→Bool
 | .cell ..=>true
 | .rng ..=>true
 | .cols ..=>true
 | _=>false
def Wa (sh:Str)(zs:List Str):Fm→Fm
 | .lf l=>.lf (RE sh zs l)
 | f=>f
def Vp:Sp:=fun vs H Q _=>∃(z:Str) (p q:Addr) (i j:Int) (x y:Bool),vs=[.str z,.ref p,.ref q]∧H p=some (.tup [.int i,.bl x])∧H q=some (.tup [.int j,.bl y])∧∀(a:Addr) (H':Hp),GH H' a (.rng (some z) ⟨1,i,true,x⟩ ⟨16,j,true,y⟩)→AF H H'→Q (.ref a) H'
def Vq (C:Addr):Sp:=fun vs H Q _=>∃(u d a:Addr) (sh:Str) (zs:List Str) (l:Lf),vs=[.ref u,.ref a]∧XW C H u d sh zs∧GH H a l∧Vo l=true∧∀(b:Addr) (H':Hp),GH H' b (RE sh zs l)→AF H H'→Q (.ref b) H'
def UD:Fm→Bool
 | .lf (.nam _)=>false
 | .lf _=>true
 | .nd k _=>!DK k
def Vr (C:Addr):Sp:=fun vs H Q _=>∃(u d:Addr) (v:V) (sh:Str) (zs:List Str) (f:Fm) (pr n:Nat),vs=[.ref u,v]∧XW C H u d sh zs∧Aw H v f∧FO pr n f∧UD f=true∧∀(x:V) (H':Hp),Aw H' x (Wa sh zs f)→AF H H'→Q x H'
theorem UE {pr:Nat}{sh:Str}{zs:List Str}{l:Lf}(hz:∀ z∈zs,Nm z)(h4:pr≤4)(h:HX pr l):HX 4 (RE sh zs l):=by
 have fl:HX 4 (.flt (zS "gone")):=⟨Nat.le_refl _,by nofun⟩
 cases l with
 | val v=>exact h
 | cell s c=>
  show HX 4 (if Ei sh s∈zs then .cell (some (Ei sh s)) c else .flt (zS "gone"))
  by_cases c1:Ei sh s∈zs
  ·rw[if_pos c1];exact⟨hz _ c1,h.2⟩
  ·rw[if_neg c1];exact fl
 | rng s c d=>
  show HX 4 (if Ei sh s∈zs then .rng (some (Ei sh s)) c d else .flt (zS "gone"))
  by_cases c1:Ei sh s∈zs
  ·rw[if_pos c1];exact⟨hz _ c1,h.2⟩
  ·rw[if_neg c1];exact fl
 | cols s i x j y=>
  show HX 4 (if Ei sh s∈zs then .rng (some (Ei sh s)) ⟨1,i,true,x⟩ ⟨16,j,true,y⟩else .flt (zS "gone"))
  by_cases c1:Ei sh s∈zs
  ·rw[if_pos c1]
   obtain⟨_,h1,h2,h3⟩:=h
   exact⟨hz _ c1,⟨(by show(1:Int)≤1;decide),(by show(1:Int)≤16;decide),h1,by show i≤8;omega⟩,⟨(by show(1:Int)≤16;decide),(by show(16:Int)≤16;decide),by show 1≤j;omega,h3⟩,(by show(1:Int)≤16;decide),h2⟩
  ·rw[if_neg c1];exact fl
 | gone=>exact fl
 | nam z=>exact⟨Nat.le_refl _,by show(zS "name").length≤20;nofun⟩
 | par i=>exact⟨h.1,by have:=h.2;show i<4;omega⟩
 | flt z=>exact⟨Nat.le_refl _,h.2⟩
theorem HX.up {pr q:Nat}{l:Lf}(h:HX pr l)(hq:pr≤q):HX q l:=by
 cases l with
 | par i=>exact⟨h.1,by have:=h.2;show i<q;omega⟩
 | flt z=>exact⟨Nat.le_trans h.1 hq,h.2⟩
 | val v=>exact h
 | cell s c=>exact h
 | rng s c d=>exact h
 | cols s i x j y=>exact h
 | gone=>exact h
 | nam z=>exact h
theorem FO.up {pr q n:Nat}{f:Fm}(h:FO pr n f)(hq:pr≤q):FO q n f:=by
 induction h with
 | lf h=>exact .lf (h.up hq)
 | nd h _ ih=>exact .nd h ih
theorem Qj {f:Fm}:(Eg f).isSome=(Lj f||Mj f):=by
 cases f with
 | lf l=>cases l <;> rfl
 | nd k ps=>cases k <;> rfl
theorem SG {f:Fm}:UD f=!(Lj f||Mj f):=by
 cases f with
 | lf l=>cases l <;> rfl
 | nd k ps=>simp[UD,Lj,Mj]
theorem UF {pr n:Nat}{sh:Str}{zs:List Str}{f:Fm}(hz:∀ z∈zs,Nm z)(h3:pr≤3)(fo:FO pr 8 f):RO pr (Wa sh zs f):=by
 cases f with
 | lf l=>
  cases fo with
  | lf h=>
   refine⟨.lf (UE hz (by omega) h),fun i e=>?_⟩
   injection e with e
   cases l with
   | par j=>cases e;exact h
   | val v=>cases e
   | gone=>cases e
   | nam z=>cases e
   | flt z=>exact absurd h.1 (by omega)
   | cell s c=>
    have e:(if Ei sh s∈zs then Lf.cell (some (Ei sh s)) c else .flt (zS "gone"))=.par i:=e
    split at e <;> cases e
   | rng s c d=>
    have e:(if Ei sh s∈zs then Lf.rng (some (Ei sh s)) c d else .flt (zS "gone"))=.par i:=e
    split at e <;> cases e
   | cols s a x b y=>
    have e:(if Ei sh s∈zs then Lf.rng (some (Ei sh s)) ⟨1,a,true,x⟩ ⟨16,b,true,y⟩else .flt (zS "gone"))=.par i:=e
    split at e <;> cases e
 | nd k ps=>exact⟨fo.up (by omega),fun i e=>by cases e⟩
theorem HM {F:Fm→Fm}{p:Fm}:∀{ps:List Fm},p∈ps→BW (F p)≤BQ (ps.map F)
 | q::ps,h=>by
  rw[List.map_cons,BQ]
  rcases List.mem_cons.mp h with e | h
  ·rw[e];omega
  ·have:=HM (F:=F) h;omega
theorem SH (f:Fm):1≤BW f:=by rw[Hy];omega
theorem FY.sz_par {r ts:List Fm}(h:FY r ts){Ts:List Fm}{i:Int}{T:Fm}(hT:Ts[i.toNat]?=some T):Fm.lf (.par i)∈r→BW T≤BQ (ts.map (Cr Ts)):=by
 induction h with
 | nil=>intro h;cases h
 | @lf l r ts _ ih=>
  intro h
  rw[List.map_cons,BQ]
  rcases List.mem_cons.mp h with e | h
  ·injection e with e
   subst e
   have:Cr Ts (.lf (.par i))=T:=by rw[Cr,List.getD_eq_getElem?_getD,hT];rfl
   rw[this];omega
  ·have:=ih h;omega
 | @nd k ps r0 ts0 r ts _ hl _ ih0 ih=>
  intro h
  rw[List.map_cons,BQ,Cr,KS,BW]
  rcases List.mem_append.mp h with h | h
  ·have:=ih0 h;omega
  ·rcases List.mem_cons.mp h with h | h
   ·cases h
   ·have:=ih h;omega
theorem Qk {B:FX}{n:Nat}:∀{W W':List Da} {f:Fm},(∀ k,k∈W↔k∈W')→B6 B n W' f=B6 B n W f:=by
 induction n with
 | zero=>intros;rfl
 | succ n ih=>
  intro W W' f hW
  have e1:(A5 f).map (B6 B n W')=(A5 f).map (B6 B n W):=List.map_congr_left fun p _=>ih hW
  unfold B6
  rw[e1]
  cases hk:Eg f with
  | none=>rfl
  | some key=>
   dsimp only
   cases hb:B.lookup key with
   | none=>rfl
   | some p=>
    dsimp only
    by_cases hw:key∈W
    ·rw[if_pos hw,if_pos ((hW key).mp hw)]
    ·rw[if_neg hw,if_neg fun z=>hw ((hW key).mpr z),ih (W:=key::W) (W':=key::W') fun k=>by simp[hW k]]
theorem IC {B:FX}{n:Nat}{W:List Da}{f g:Fm}{key:Da}{m:Nat}(h1:Eg f=some key)(h2:B.lookup key=some (m,g))(h3:key∉W):B6 B (n+1) W f=((A5 f).map (B6 B n W)).sum+(1+B6 B n (key::W) g):=by
 conv=>lhs;unfold B6
 simp only[h1,h2,if_neg h3]
theorem SI {B:FX}{n:Nat}{W:List Da}{f:Fm}:((A5 f).map (B6 B n W)).sum≤B6 B (n+1) W f:=by
 conv=>rhs;unfold B6
 omega
theorem Ql {A:Around}{k:Nat}(hr:BY k A):A.units+5<cLine:=by have:=hr.un;omega
theorem UG {A:Around}{k:Nat}(hr:BY k A):A.units+2<cLine:=by have:=hr.un;omega
theorem Ol {kvs:List (KN×Addr×V)}{k:KN}{v:V}(h:EC kvs k=some v):∃ p∈kvs,p.1=k∧p.2.2=v:=by
 unfold EC at h
 cases q:kvs.find? fun p=>decide (p.1=k)with
 | none=>rw[q]at h;cases h
 | some p=>
  rw[q]at h
  exact⟨p,List.mem_of_find?_eq_some q,(by simpa using List.find?_some q),Option.some.inj h⟩
theorem Om {kvs:List (KN×Addr×V)}{k:KN}(h:∀ p∈kvs,p.1≠k):EC kvs k=none:=by
 unfold EC
 rw[List.find?_eq_none.mpr fun p hp=>by simpa using h p hp]
 rfl
theorem Qm {kvs:List (KN×Addr×V)}{k:KN}{b:Addr}{v:V}(h:∀ p∈kvs,p.1≠k):EC (kvs++[(k,b,v)]) k=some v:=by
 unfold EC
 rw[List.find?_append,List.find?_eq_none.mpr fun p hp=>by simpa using h p hp]
 simp
theorem Lm {H:Hp}:∀{vs:List V} {ps:List Da},PSt.Prs H vs ps→∃ cs:List Addr,vs=cs.map V.ref∧Paired (Tj H) cs (wK ps)
 | _,_,.nil=>⟨[],rfl,.nil⟩
 | _,_,.cons (b:=p) ⟨b,e,hb⟩ t=>by
  obtain⟨cs,a,c⟩:=Lm t
  exact⟨b::cs,by rw[e,a];rfl,.cons ⟨Bq p,rfl,hb⟩ c⟩
theorem Prs.kp {H H':Hp}{vs:List V}{ps:List Da}(h:PSt.Prs H vs ps)(s:Kp H H'):PSt.Prs H' vs ps:=Paired.imp' (fun _ _ x=>let ⟨b,y,z⟩:=x;⟨b,y,s _ _ z⟩) h
theorem SJ {CX:OA}{P:Program}{w:World}{K:PySem.W.Frag}{mg:Str→Option Value}{base:Heap}{N:List Str}{q:Str}{sc:Scope}{f:Addr}{cd:Value}{A:Around}{o:List Env}{s:Shared}{H:Hp}{E:XK}:(IM CX P w K mg base N q sc f cd A o s H E).nox.prog=P:=rfl
theorem XZ {CX:OA}{P:Program}{w:World}{K:PySem.W.Frag}{mg:Str→Option Value}{base:Heap}{N:List Str}{q:Str}{sc:Scope}{f:Addr}{cd:Value}{A:Around}{o:List Env}{s:Shared}{H:Hp}{E:XK}:(IM CX P w K mg base N q sc f cd A o s H E).nox.w=w:=rfl
theorem _root_.Fs.KeepX.back {r l:Addr}{H H':Hp}{o:HO}(k:KeepX r H H')(hr:H' r=some o)(h:H' l=none):H l=none:=by
 cases e:H l with
 | none=>rfl
 | some u=>rw[k l u (fun z=>by rw[z,hr]at h;cases h) e]at h;cases h
theorem UH {H:Hp}{v:V}{f:Fm}{key:Da}(hv:Aw H v f)(hk:Eg f=some key):∃(a:Addr) (rs:List V),v=.ref a∧H a=some (.tup (.str key.1::.str key.2::rs)):=by
 cases hv with
 | @lf a l hl=>
  cases l with
  | nam z=>cases hk;exact⟨a,[],rfl,hl⟩
  | val v=>cases hk
  | cell s c=>cases hk
  | rng s c d=>cases hk
  | cols s i x j y=>cases hk
  | gone=>cases hk
  | par i=>cases hk
  | flt z=>cases hk
 | @nd a t0 kd us ps ha ht hl hh=>
  cases kd with
  | own z=>cases hk;exact⟨a,_,rfl,ha⟩
  | op z=>cases hk
  | neg=>cases hk
  | sumif z=>cases hk
  | grid a b=>cases hk
  | wd z=>cases hk
theorem ID {F:Nat→Nat}:∀{N:Nat} {js:List Nat},js.Nodup→(∀ j∈js,j<N)→(js.map F).sum≤((List.range N).map F).sum
 | 0,js,_,h=>by
  rw[List.eq_nil_iff_forall_not_mem.mpr fun j hj=>absurd (h j hj) (Nat.not_lt_zero _)]
  exact Nat.zero_le _
 | N+1,js,nd,h=>by
  rw[List.range_succ,List.map_append,List.sum_append]
  by_cases hN:N∈js
  ·have e:=((List.perm_cons_erase hN).map F).sum_nat
   rw[List.map_cons,List.sum_cons]at e
   have:=ID (F:=F) (nd.erase N) (N:=N) fun j hj=>by
    have h1:=h j (List.mem_of_mem_erase hj)
    have h2:j≠N:=fun z=>nd.not_mem_erase (z▸hj)
    omega
   rw[List.map_singleton,List.sum_singleton]
   omega
  ·have:=ID (F:=F) nd (N:=N) fun j hj=>by
    have h1:=h j hj
    have h2:j≠N:=fun z=>hN (z▸hj)
    omega
   omega
theorem Gs {F:Fm→Nat}{ps:List Fm}{js:List Nat}(nd:js.Nodup)(h:∀ j∈js,j<ps.length):(js.map fun j=>F (ps.getD j Io)).sum≤(ps.map F).sum:=by
 refine Nat.le_trans (ID nd h) (Nat.le_of_eq ?_)
 have e:=PSt.range_getD Io ps
 conv=>rhs;rw[← e]
 rw[List.map_map]
 rfl
theorem KY {pr:Nat}{H:Hp}{l p:Addr}(hl:H l=some (.lst [.ref p]))(hp:H p=some (.tup [vS "fault",vS "name"])):JR H (.ref l) Io pr:=by
 refine .inl ⟨by rw[BW];decide,[Io],l,_,rfl,hl,.cons (.lf hp) .nil,.lf .nil,fun g hg=>?_⟩
 rw[List.mem_singleton.mp hg]
 exact⟨.lf ⟨Nat.le_refl _,by nofun⟩,fun i e=>by cases e⟩
theorem FO.len3 {pr n:Nat}{f:Fm}(h:FO pr n f):(A5 f).length≤3:=by
 cases h with
 | lf h=>exact Nat.zero_le _
 | nd h hp=>exact h.le
theorem FO.prt8 {pr:Nat}{f:Fm}(h:FO pr 8 f):∀ g∈A5 f,FO pr 8 g:=fun g hg=>(h.prt1 g hg).mono (by decide)
theorem UI {H:Hp}{pr n:Nat}{v:V}{f:Fm}(fo:FO pr n f)(h:Aw H v f):(∃ a i,v=.ref a∧f=.lf (.par i)∧H a=some (.tup [vS "param",.int i]))∨(∃ a w r,v=.ref a∧H a=some (.tup (.str w::r))∧decide (V.str w=vS "param")=false∧∀ i,f≠.lf (.par i)):=by
 cases h with
 | @lf a l h=>
  cases l with
  | val v=>obtain⟨q,h1,_⟩:=h;exact .inr ⟨_,_,_,rfl,h1,by nofun,fun i e=>by cases e⟩
  | cell s c=>obtain⟨q,h1,_⟩:=h;exact .inr ⟨_,_,_,rfl,h1,by nofun,fun i e=>by cases e⟩
  | rng s c d=>obtain⟨q,u,h1,_⟩:=h;exact .inr ⟨_,_,_,rfl,h1,by nofun,fun i e=>by cases e⟩
  | cols s i x j y=>obtain⟨q,u,h1,_⟩:=h;exact .inr ⟨_,_,_,rfl,h1,by nofun,fun i e=>by cases e⟩
  | gone=>exact .inr ⟨_,_,_,rfl,h,by nofun,fun i e=>by cases e⟩
  | nam z=>exact .inr ⟨_,_,_,rfl,h,by nofun,fun i e=>by cases e⟩
  | flt z=>exact .inr ⟨_,_,_,rfl,h,by nofun,fun i e=>by cases e⟩
  | par i=>exact .inl ⟨_,_,rfl,rfl,h⟩
 | @nd a t kd us ps ha ht hl hh=>
  cases fo with
  | nd ok _=>
   obtain⟨r,er⟩:=Gm t kd us
   refine .inr ⟨a,kw kd,r,rfl,by rw[ha,er],?_,fun i e=>by cases e⟩
   cases kd with
   | wd z=>
    have hw:(z,ps.length)∈Gk:=ok
    have tab:∀ x∈Gk,decide (V.str x.1=vS "param")=false:=by nofun
    exact tab _ hw
   | op z=>exact(by nofun:decide (vS "op"=vS "param")=false)
   | neg=>exact(by nofun:decide (vS "neg"=vS "param")=false)
   | own z=>exact(by nofun:decide (vS "own"=vS "param")=false)
   | sumif z=>exact(by nofun:decide (vS "sumif"=vS "param")=false)
   | grid i j=>exact(by nofun:decide (vS "grid"=vS "param")=false)
def Qn (H:Hp)(v:V)(r:List Fm)(T:Fm)(pr:Nat)(fl:Addr):Prop:=(BW T≤200∧Ll H v r T pr∧v≠.ref fl)∨(200<BW T∧v=.non)
theorem Qn.to {H H':Hp}{v:V}{r:List Fm}{T:Fm}{pr:Nat}{fl:Addr}(h:Qn H v r T pr fl)(q:Kp H H')(k:∀ l ws,l≠fl→v=.ref l→H l=some (.lst ws)→H' l=some (.lst ws)):Qn H' v r T pr fl:=by
 rcases h with⟨a,b,c⟩ | h
 ·exact .inl ⟨a,b.to q fun l ws e=>k l ws (fun z=>c (by rw[e,z])) e,c⟩
 ·exact .inr h
structure X0 (P:Program)(w:World)(C:Addr)(H H2:Hp)(u d r fl dO:Addr)(B:FX)(sh:Str)(zs:List Str)(W:List Da)(n pr:Nat)(kvs:List (KN×Addr×V))(rw0 ps:List Fm)(i:Nat)(H5:Hp)(fws:List V)(rs:Nat→List Fm)(os:List (A9×V))(js:List Nat)(kvs5:List (KN×Addr×V)):Prop where
 ofl:H5 fl=some (.lst fws)
 fm:Ay H5 fws ((rw0.take i).flatMap (DQ rs))
 ro:∀ g∈(rw0.take i).flatMap (DQ rs),RO pr g
 ln:fws.length≤200*i
 od:H5 dO=some (.dK os)
 ks:os.map (·.1)=js.map (fun j=>(Sum.inl ((j:Nat):Int):A9))
 nd:js.Nodup
 lt:∀ j∈js,j<ps.length
 vs:∀ j∈js,∃ v p,B4 os (Sum.inl ((j:Nat):Int))=some v∧ps[j]?=some p∧Qn H5 v (rs j) (Bn B sh zs n W p) pr fl
 pj:∀ j:Nat,Fm.lf (.par (j:Int))∈rw0.take i→j∈js∧∃ p,ps[j]?=some p∧FY (rs j) [Bn B sh zs n W p]
 op:HL P w C H5 u d r B sh zs kvs5
 av:∀ p∈kvs5,p.2.2≠.ref fl
 en:∀ p∈kvs5,p∈kvs∨(W.length<p.1.2.length∧∀ l,p.2.2=.ref l→H l=none)
 cn:kvs5.length≤kvs.length+(js.map fun j=>B6 B n W (ps.getD j Io)).sum
 kp:∀ b o,b≠fl→b≠dO→b≠r→H2 b=some o→H5 b=some o
theorem Iq {rs rs':Nat→List Fm}:∀{l:List Fm},(∀ g∈l,DQ rs g=DQ rs' g)→l.flatMap (DQ rs)=l.flatMap (DQ rs')
 | [],_=>rfl
 | g::l,h=>by rw[List.flatMap_cons,List.flatMap_cons,h g (by simp),Iq fun g' hg=>h g' (List.mem_cons_of_mem _ hg)]
theorem On {os:List (A9×V)}{js:List Nat}{j:Nat}(h:os.map (·.1)=js.map (fun j=>(Sum.inl ((j:Nat):Int):A9)))(hj:j∉js):∀ p∈os,p.1≠Sum.inl ((j:Nat):Int):=fun p hp e=>by
 have:p.1∈os.map (·.1):=List.mem_map_of_mem hp
 rw[h,List.mem_map]at this
 obtain⟨k,hk,ek⟩:=this
 rw[e]at ek
 injection ek with ek
 have:k=j:=by omega
 exact hj (this▸hk)
theorem SK {κ:Type}[DecidableEq κ]{os:List (κ×V)}{k:κ}(h:∀ p∈os,p.1≠k):B4 os k=none:=by
 unfold B4
 rw[List.find?_eq_none.mpr fun p hp=>by simpa using h p hp]
 rfl
theorem Oo {κ:Type}[DecidableEq κ]{os:List (κ×V)}{k:κ}{v:V}(h:∀ p∈os,p.1≠k):B4 (os++[(k,v)]) k=some v:=by
 unfold B4
 rw[List.find?_append,List.find?_eq_none.mpr fun p hp=>by simpa using h p hp]
 simp
theorem Qo {κ:Type}[DecidableEq κ]{os:List (κ×V)}{k k':κ}{v x:V}(h:B4 os k'=some x):B4 (os++[(k,v)]) k'=some x:=by
 unfold B4 at h ⊢
 rw[List.find?_append]
 cases q:os.find? fun kv=>decide (kv.1=k')with
 | none=>rw[q]at h;cases h
 | some p=>rw[q]at h;exact h
theorem UJ {H:Hp}{v:V}{g:Fm}{y:Addr}{ws:List V}{ts:List Fm}(h:VS H v g y ws)(hv:Aw H v g)(fm:Ay H ws ts):Aw H (.ref y) (Qf g ts):=by
 cases g with
 | lf l=>
  obtain⟨a,its,rfl,ha,hy,_⟩:=h
  cases hv with
  | lf hl=>
   refine .lf ?_
   cases l with
   | val v=>obtain⟨q,e,x⟩:=hl;rw[ha]at e;cases e;exact⟨q,hy,x⟩
   | cell s c=>obtain⟨q,e,x⟩:=hl;rw[ha]at e;cases e;exact⟨q,hy,x⟩
   | rng s c d=>obtain⟨q,u,e,x⟩:=hl;rw[ha]at e;cases e;exact⟨q,u,hy,x⟩
   | cols s i x j z=>obtain⟨q,u,e,x⟩:=hl;rw[ha]at e;cases e;exact⟨q,u,hy,x⟩
   | gone=>have e:H a=_:=hl;rw[ha]at e;cases e;exact hy
   | nam z=>have e:H a=_:=hl;rw[ha]at e;cases e;exact hy
   | par i=>have e:H a=_:=hl;rw[ha]at e;cases e;exact hy
   | flt z=>have e:H a=_:=hl;rw[ha]at e;cases e;exact hy
 | nd k ps=>
  obtain⟨t,hy,ht⟩:=h
  refine .nd hy ht (Paired.length fm) fun j u g e1 e2=>?_
  obtain⟨g',e3,x⟩:=Au fm e1
  rw[e3]at e2
  cases e2
  exact x
theorem Jt:∀(l:List Fm) (st:List Fm),(l.foldl GK st).length≤st.length+l.length
 | [],st=>Nat.le_refl _
 | g::l,st=>by
  rw[List.foldl_cons,List.length_cons]
  refine Nat.le_trans (Jt l _) ?_
  have:(GK st g).length≤st.length+1:=by
   unfold GK
   rw[List.length_append,List.length_take,List.length_singleton];omega
  omega
def Vs (T:Fm):Fm:=if BW T≤200 then T else .lf (.flt (zS "great"))
def Vt (P:Program)(w:World)(C:Addr)(N:Nat):Sp:=fun vs H Q _=>∃(u d r:Addr) (v:V) (B:FX) (sh:Str) (zs:List Str) (f:Fm),vs=[.ref u,v]∧HL P w C H u d r B sh zs []∧KW B zs∧Aw H v f∧FO 0 8 f∧HK B N [] f∧B6 B N [] f≤1000000∧∀(x:V) (H':Hp),Aw H' x (Vs (Bn B sh zs N [] f))→KeepX r H H'→Q x H'
def Vu:Sp:=fun vs H Q E=>Se vs H Q E∨Vk vs H Q E
def Vv:Sp:=fun vs H Q _=>∃(v:V) (f:Fm) (pr:Nat),vs=[v,.int pr]∧Aw H v f∧FO pr 8 f∧pr≤3∧BW f≤24∧∀ H',AF H H'→Q (.bl true) H'
mutual
def Ct:Fm→Bool
 | .lf (.cell none _)=>false
 | .lf (.rng none _ _)=>false
 | .lf (.cols none _ _ _ _)=>false
 | .lf _=>true
 | .nd _ ps=>Ir ps
def Ir:List Fm→Bool
 | []=>true
 | f::fs=>Ct f&&Ir fs
end
def Vw:Sp:=fun vs H Q _=>∃(v:V) (f:Fm) (pr:Nat),vs=[v]∧Aw H v f∧FO pr 8 f∧Ct f=true∧∀ H',AF H H'→Q (.bl true) H'
def Vx:Sp:=fun vs H Q _=>∃(v:V) (f:Fm) (pr:Nat),vs=[v,.int pr]∧Aw H v f∧FO pr 8 f∧pr≤3∧BW f≤24∧Ct f=true∧∀ H',AF H H'→Q (.bl true) H'
def Vy:Fm→Bool
 | .lf (.cell none _)=>false
 | .lf (.rng none _ _)=>false
 | .lf (.cols none _ _ _ _)=>false
 | _=>true
theorem Ln:∀{fs:List Fm},Ir fs=true→∀ g∈fs,Ct g=true
 | [],_,g,h=>nomatch h
 | f::fs,h,g,hg=>by
  rw[Ir,Bool.and_eq_true]at h
  rcases List.mem_cons.mp hg with e | e
  ·rw[e];exact h.1
  ·exact Ln h.2 g e
theorem Vz {f:Fm}(h:Ct f=true):Vy f=true:=by
 cases f with
 | nd k ps=>rfl
 | lf l=>
  cases l with
  | cell s c=>
   cases s with
   | none=>rw[Ct]at h;cases h
   | some z=>rfl
  | rng s c d=>
   cases s with
   | none=>rw[Ct]at h;cases h
   | some z=>rfl
  | cols s i x j y=>
   cases s with
   | none=>rw[Ct]at h;cases h
   | some z=>rfl
  | _=>rfl
abbrev DR:=Str×Nat×Fm
def Xa (own:Bool)(e:DR)(v:V):List V:=if own=true then [.str e.1,.int e.2.1,v]else [.str e.1,v]
def Br (own:Bool)(H:Hp)(v:V)(e:DR):Prop:=∃(a:Addr) (v1:V),v=.ref a∧H a=some (.tup (Xa own e v1))∧Aw H v1 e.2.2
theorem Br.kp {own:Bool}{H H':Hp}{v:V}{e:DR}(h:Br own H v e)(s:Kp H H'):Br own H' v e:=by
 obtain⟨a,v1,x,y,z⟩:=h
 exact⟨a,v1,x,s _ _ y,z.kp s⟩
structure LF (own:Bool)(e:DR):Prop where
 nm:Nm e.1
 rs:Rt e.1=false
 n0:own=false→e.2.1=0
 m3:e.2.1≤3
 fo:FO e.2.1 8 e.2.2
 sz:BW e.2.2≤24
 td:Ct e.2.2=true
def Sq (own:Bool):Sp:=fun vs H Q _=>∃(v:V) (e:DR),vs=[v]∧Br own H v e∧LF own e∧∀ H',AF H H'→Q (.bl true) H'
def Xb:Sp:=fun _ _ _ _=>False
def V0:Sp:=fun vs H Q _=>∃(a:Addr) (ys:List V) (m:Int),vs=[.ref a,.int m]∧H a=some (.lst ys)∧(ys.length:Int)≤m∧∀ H',AF H H'→Q (.bl true) H'
def V1:Sp:=fun vs H Q _=>∃(i m:Int),vs=[.int i,.int m]∧0≤i∧i≤m∧∀ H',AF H H'→Q (.bl true) H'
theorem SL {X:Cx}{scope:Scope}{cl:List (Str×Addr)}{C:Addr}{N:List Str}{s₀:Shared}{H₀:Hp}{ex:List Addr}{pn:List (Addr×Obj)}:FR (Bh X scope cl C N s₀ H₀ ex pn) (compareOp .In) (Wx X.K false):=FM
def V2:Sp:=fun vs H Q _=>∃(a:Addr) (ys:List V) (m:Int),vs=[.ref a,.int m]∧H a=some (.tup ys)∧(ys.length:Int)=m∧Q (.bl true) H
def Sr (zs:List Str):Prop:=1≤zs.length∧zs.length≤4∧zs.Nodup∧∀ z∈zs,Nm z
def V3:Sp:=fun vs H Q _=>∃(a:Addr) (zs:List Str),vs=[.ref a]∧H a=some (.lst (zs.map V.str))∧Sr zs∧∀ H',AF H H'→Q (.bl true) H'
def Qp (H:Hp)(v:V)(z:Str):Prop:=∃(b:Addr) (r:List V),v=.ref b∧H b=some (.tup (.str z::r))
theorem Br.hd {own:Bool}{H:Hp}{v:V}{e:DR}(h:Br own H v e):Qp H v e.1:=by
 obtain⟨a,v1,x,y,z⟩:=h
 cases own with
 | true=>exact⟨a,_,x,y⟩
 | false=>exact⟨a,_,x,y⟩
def V4:Sp:=fun vs H Q _=>∃(a:Addr) (us:List V) (zs:List Str),vs=[.ref a]∧H a=some (.lst us)∧Paired (Qp H) us zs∧zs.Nodup∧zs.length≤60∧∀ H',AF H H'→Q (.bl true) H'
def V5:Sp:=fun vs H Q _=>∃(a:Addr) (v:V),vs=[.ref a,v]∧H a=some (.lst [])∧∀ H',AF H H'→Q (.bl true) H'
def EV (own:Bool)(es:List DR):Prop:=es.length≤6∧(es.map (·.1)).Nodup∧∀ e∈es,LF own e
def Ss (own:Bool):Sp:=fun vs H Q _=>∃(a:Addr) (us:List V) (es:List DR),vs=[.ref a]∧H a=some (.lst us)∧Paired (Br own H) us es∧EV own es∧∀ H',AF H H'→Q (.bl true) H'
def qS:Str:=Str.ofString "sorted_by_first"++Str.ofString ".<locals>."++Str.ofString "<lambda>"
def V6 (P:Addr):Sp:=fun vs H Q _=>∃(a:Addr) (ps:List (V×Str)),vs=[.ref a]∧H a=some (.lst (ps.map (·.1)))∧ps.length<64∧(∀ p∈ps,Qp H p.1 p.2)∧EA H P qS∧
 ∀(b:Addr) (qs:List (V×Str)) (H':Hp),(∀ p∈qs,p∈ps)→(qs.map (·.2)).Perm (ps.map (·.2))→KSt.Rise (qs.map (·.2))→H' b=some (.tup (qs.map (·.1)))→KeepX P H H'→EA H' P qS→Q (.ref b) H'
def Fh (H:Hp)(b:Addr)(zs:List Str)(ns os:List DR):Prop:=∃(t1 t2 t3 t4:Addr) (us ws:List V),H b=some (.tup [.ref t1,.ref t2,.ref t3,.ref t4,.int 0])∧H t1=some (.tup (zs.map V.str))∧H t2=some (.tup [])∧H t3=some (.tup us)∧H t4=some (.tup ws)∧Paired (Br false H) us ns∧Paired (Br true H) ws os
theorem Fh.kp {H H':Hp}{b:Addr}{zs:List Str}{ns os:List DR}(h:Fh H b zs ns os)(s:Kp H H'):Fh H' b zs ns os:=by
 obtain⟨t1,t2,t3,t4,us,ws,a,c,d,e,f,g,i⟩:=h
 exact⟨t1,t2,t3,t4,us,ws,s _ _ a,s _ _ c,s _ _ d,s _ _ e,s _ _ f,Paired.imp' (fun _ _ x=>x.kp s) g,Paired.imp' (fun _ _ x=>x.kp s) i⟩
def Qq (es ns:List DR):Prop:=(∀ e∈es,e∈ns)∧(es.map (·.1)).Perm (ns.map (·.1))∧KSt.Rise (es.map (·.1))
def V7 (P:Addr):Sp:=fun vs H Q _=>∃(a c n o:Addr) (us ws:List V) (zs:List Str) (ns os:List DR),vs=[.ref a,.ref c,.ref n,.ref o,.int 0]∧H a=some (.lst (zs.map V.str))∧H c=some (.lst [])∧H n=some (.lst us)∧H o=some (.lst ws)∧Paired (Br false H) us ns∧Paired (Br true H) ws os∧Sr zs∧EV false ns∧EV true os∧EA H P qS∧
 ∀(b:Addr) (ns' os':List DR) (H':Hp),Fh H' b zs ns' os'→Qq ns' ns→Qq os' os→KeepX P H H'→Q (.ref b) H'
def Op:List V:=[vS "cell",vS "range",vS "columns"]
def Iu (H:Hp)(u:V):Prop:=∃(a:Addr) (w z:Str) (r:List V),u=.ref a∧H a=some (.tup (.str w::.str z::r))
theorem Iu.kp {H H':Hp}{u:V}(h:Iu H u)(s:Kp H H'):Iu H' u:=by
 obtain⟨a,w,z,r,x,y⟩:=h
 exact⟨a,w,z,r,x,s _ _ y⟩
theorem Iu.same {H H':Hp}{u:V}(h:Iu H u)(s:AF H H'):Iu H' u:=h.kp (Kp.same s)
theorem V8 {n:Nat}(h:n≤4000):n<sizeLine:=Nat.lt_of_le_of_lt h (by decide)
theorem Nt {g:Fm}:∀{fs:List Fm},g∈GX fs→∃ f∈fs,g∈Ks f
 | [],h=>by rw[GX]at h;cases h
 | f::fs,h=>by
  rw[GX]at h
  rcases List.mem_append.mp h with h | h
  ·exact⟨f,by simp,h⟩
  ·obtain⟨f',a,b⟩:=Nt h
   exact⟨f',List.mem_cons_of_mem _ a,b⟩
theorem SM {pr n:Nat}{f:Fm}(fo:FO pr n f):Ct f=true→∀ g∈Ks f,FO pr n g∧Ct g=true:=by
 induction fo with
 | @lf n l h=>
  intro tl g hg
  rw[Ks]at hg
  rw[List.mem_singleton.mp hg]
  exact⟨.lf h,tl⟩
 | @nd n k ps h hp ih=>
  intro tl g hg
  rw[Ks]at hg
  rcases List.mem_append.mp hg with hg | hg
  ·obtain⟨f,hf,hg⟩:=Nt hg
   rw[Ct]at tl
   have:=ih f hf (Ln tl f hf) g hg
   exact⟨this.1.mono (Nat.le_succ _),this.2⟩
  ·rw[List.mem_singleton.mp hg]
   exact⟨.nd h hp,tl⟩
theorem UK {k:Kd}{m:Nat}(ok:ES k m):Ee (.str (kw k)) Op=false:=by
 cases k with
 | op z=>show Ee (vS "op") Op=false;nofun
 | neg=>show Ee (vS "neg") Op=false;nofun
 | own z=>show Ee (vS "own") Op=false;nofun
 | sumif z=>show Ee (vS "sumif") Op=false;nofun
 | grid a b=>show Ee (vS "grid") Op=false;nofun
 | wd z=>
  have:∀ x∈Gk,Ee (.str x.1) Op=false:=by nofun
  exact this _ ok
theorem Qr {H:Hp}{v:V}{g:Fm}{pr n:Nat}(hv:Aw H v g)(fo:FO pr n g)(h1:Vy g=true):∃(a:Addr) (w:Str) (r:List V),v=.ref a∧H a=some (.tup (.str w::r))∧(Ee (.str w) Op=true→∃ z r',r=.str z::r'):=by
 cases hv with
 | @lf a l hl=>
  cases l with
  | val v=>obtain⟨q,ha,_⟩:=hl;exact⟨a,_,_,rfl,ha,fun z=>absurd z (by nofun)⟩
  | cell s c=>
   cases s with
   | none=>cases h1
   | some z=>obtain⟨q,ha,_⟩:=hl;exact⟨a,_,_,rfl,ha,fun _=>⟨z,_,rfl⟩⟩
  | rng s c d=>
   cases s with
   | none=>cases h1
   | some z=>obtain⟨q,q2,ha,_⟩:=hl;exact⟨a,_,_,rfl,ha,fun _=>⟨z,_,rfl⟩⟩
  | cols s i x j y=>
   cases s with
   | none=>cases h1
   | some z=>obtain⟨q,q2,ha,_⟩:=hl;exact⟨a,_,_,rfl,ha,fun _=>⟨z,_,rfl⟩⟩
  | gone=>exact⟨a,_,_,rfl,hl,fun z=>absurd z (by nofun)⟩
  | nam z=>exact⟨a,_,_,rfl,hl,fun z=>absurd z (by nofun)⟩
  | par i=>exact⟨a,_,_,rfl,hl,fun z=>absurd z (by nofun)⟩
  | flt z=>exact⟨a,_,_,rfl,hl,fun z=>absurd z (by nofun)⟩
 | @nd a t kd us ps ha ht hl hh=>
  cases fo with
  | nd ok hps=>
   obtain⟨r0,er⟩:=Gm t kd us
   exact⟨a,kw kd,r0,rfl,by rw[ha,er],fun z=>by rw[UK ok]at z;cases z⟩
theorem KZ {α β γ:Type}{F:α→β→Prop}{f:β→γ}:∀{xs:List α} {ys:List β},Paired F xs ys→(xs.zip (ys.map f)).map (·.1)=xs∧(xs.zip (ys.map f)).map (·.2)=ys.map f∧(xs.zip (ys.map f)).length=ys.length
 | _,_,.nil=>⟨rfl,rfl,rfl⟩
 | x::xs,y::ys,.cons _ t=>by
  obtain⟨a,b,c⟩:=KZ (f:=f) t
  refine⟨?_,?_,?_⟩
  ·rw[List.map_cons,List.zip_cons_cons,List.map_cons,a]
  ·rw[List.map_cons,List.zip_cons_cons,List.map_cons,b]
  ·rw[List.map_cons,List.zip_cons_cons,List.length_cons,c];rfl
theorem Ka {α β γ:Type}{F:α→β→Prop}{f:β→γ}{p:α×γ}:∀{xs:List α} {ys:List β},Paired F xs ys→p∈xs.zip (ys.map f)→∃ y∈ys,F p.1 y∧f y=p.2
 | _,_,.nil,h=>by simp at h
 | x::xs,y::ys,.cons r t,h=>by
  rw[List.map_cons,List.zip_cons_cons]at h
  rcases List.mem_cons.mp h with e | h
  ·rw[e];exact⟨y,by simp,r,rfl⟩
  ·obtain⟨z,a,b⟩:=Ka t h
   exact⟨z,List.mem_cons_of_mem _ a,b⟩
theorem Iv {own:Bool}{H:Hp}{us:List V}{ns:List DR}(h:Paired (Br own H) us ns):∀{qs:List (V×Str)},(∀ p∈qs,p∈us.zip (ns.map (·.1)))→∃ ns':List DR,Paired (Br own H) (qs.map (·.1)) ns'∧(∀ e∈ns',e∈ns)∧ns'.map (·.1)=qs.map (·.2)
 | [],_=>⟨[],.nil,(fun _ h=>nomatch h),rfl⟩
 | q::qs,hq=>by
  obtain⟨e,he,x,y⟩:=Ka h (hq q (by simp))
  obtain⟨ns',a,b,c⟩:=Iv h (qs:=qs) fun p hp=>hq p (List.mem_cons_of_mem _ hp)
  exact⟨e::ns',.cons x a,fun z hz=>(List.mem_cons.mp hz).elim (fun w=>w▸he) (b z),by rw[List.map_cons,List.map_cons,c,y]⟩
theorem Qs {own:Bool}{H:Hp}{us:List V}{ns:List DR}(h:Paired (Br own H) us ns):∀ p∈us.zip (ns.map (·.1)),Qp H p.1 p.2:=fun p hp=>by
 obtain⟨e,_,x,y⟩:=Ka h hp
 rw[← y]
 exact x.hd
theorem Qt {α β γ:Type}{F:α→γ→Prop}{f:β→γ}:∀{xs:List α} {ys:List β},Paired (fun x y=>F x (f y)) xs ys→Paired F xs (ys.map f)
 | _,_,.nil=>.nil
 | _,_,.cons r t=>.cons r (Qt t)
def Ft (ns os:List DR):FX:=ns.map (fun e=>((zS "name",e.1),0,e.2.2))++os.map (fun e=>((zS "own",e.1),e.2.1,e.2.2))
def V9 (ns os:List DR):Prop:=(ns.map (·.1)).Nodup∧(os.map (·.1)).Nodup∧ns.length≤60∧os.length≤60
def WA:Sp:=fun vs H Q _=>∃(b:Addr) (zs:List Str) (ns os:List DR),vs=[.ref b]∧Fh H b zs ns os∧V9 ns os∧∀(c:Addr) (cs:List (List A9×V)) (H':Hp),H c=none→H' c=some (.dT cs)→Paired (JQ H') cs (Ft ns os)→AF H H'→Q (.ref c) H'
def WB (P:Program)(w:World)(C:Addr):Sp:=fun vs H Q _=>∃(x dx b:Addr) (sh:Str) (zs:List Str) (ns os:List DR),vs=[.ref x,.ref b,.str sh]∧H x=some (.ins C dx [])∧Fh H b zs ns os∧V9 ns os∧∀(H':Hp) (r:Addr),H r=none→HL P w C H' x dx r (Ft ns os) sh zs []→KeepX x H H'→Q .non H'
theorem Kb {κ:Type}[DecidableEq κ]{kvs:List (κ×V)}{k:κ}{v:V}(h:∀ p∈kvs,p.1≠k):GE kvs k v=kvs++[(k,v)]:=by
 unfold GE
 rw[if_neg]
 rw[List.any_eq_true]
 rintro⟨p,hp,e⟩
 exact h p hp (of_decide_eq_true e)
theorem Ml {H:Hp}{key:Da}:∀{cs:List (List A9×V)} {B:FX},Paired (JQ H) cs B→key∉B.map (·.1)→∀ p∈cs,p.1≠Bq key
 | _,_,.nil,_,p,hp=>nomatch hp
 | q::cs,b::B,.cons r t,h,p,hp=>by
  rw[List.map_cons,List.mem_cons,not_or]at h
  rcases List.mem_cons.mp hp with e | e
  ·rw[e,r.1];exact fun z=>h.1 (E2 z).symm
  ·exact Ml t h.2 p e
theorem Iw {ns:List DR}{i:Nat}{e e':DR}(nd:(ns.map (·.1)).Nodup)(he:ns[i]?=some e)(h:e'∈ns.take i)(q:e'.1=e.1):False:=by
 obtain⟨j,hj,ej⟩:=List.mem_iff_getElem.mp h
 rw[List.length_take]at hj
 rw[List.getElem_take]at ej
 obtain⟨hi,ei⟩:=List.getElem?_eq_some_iff.mp he
 have:=List.pairwise_iff_getElem.mp nd j i (by rw[List.length_map];omega) (by rw[List.length_map];omega) (by omega)
 rw[List.getElem_map,List.getElem_map,ej,ei]at this
 exact this q
theorem Qu {js:List Nat}{m:Nat}(nd:js.Nodup)(h:∀ j∈js,j<m){N:Nat}(hm:m≤N):js.length≤N:=by
 have:=ID (F:=fun _=>1) nd h
 have e:∀ l:List Nat,(l.map fun _=>1).sum=l.length:=fun l=>by
  induction l with
  | nil=>rfl
  | cons a l ih=>rw[List.map_cons,List.sum_cons,ih,List.length_cons];omega
 rw[e,e,List.length_range]at this
 omega
mutual
theorem Qv:∀(Ts:List Fm) (T:Fm),BW T≤BW (Cr Ts T)
 | Ts,.lf l=>by rw[BW];exact SH _
 | Ts,.nd k ps=>by
  rw[Cr,BW,BW]
  have:=Qw Ts ps
  omega
theorem Qw:∀(Ts:List Fm) (ps:List Fm),BQ ps≤BQ (Lk Ts ps)
 | Ts,[]=>by rw[Lk];exact Nat.le_refl _
 | Ts,f::fs=>by
  rw[Lk,BQ,BQ]
  have a:=Qv Ts f
  have b:=Qw Ts fs
  omega
end
def WC (N:Nat):Sp:=fun vs H Q _=>∃(b:Addr) (v:V) (sh:Str) (zs:List Str) (ns os:List DR) (f:Fm),vs=[.ref b,.str sh,v]∧Fh H b zs ns os∧V9 ns os∧KW (Ft ns os) zs∧Aw H v f∧FO 0 8 f∧HK (Ft ns os) N [] f∧B6 (Ft ns os) N [] f≤1000000∧∀(x:V) (H':Hp),Aw H' x (Vs (Bn (Ft ns os) sh zs N [] f))→AF H H'→Q x H'
theorem Ix {k:Da}{x:Nat×Fm}:∀{B:FX},B.lookup k=some x→(k,x)∈B
 | [],h=>by cases h
 | p::B,h=>by
  rw[List.lookup_cons]at h
  by_cases e:k=p.1
  ·rw[e,beq_self_eq_true]at h
   have:p.2=x:=Option.some.inj h
   rw[e,← this]
   simp
  ·rw[beq_false_of_ne e]at h
   exact List.mem_cons_of_mem _ (Ix h)
theorem Mm:∀{ns:List DR},(ns.map (·.1)).Nodup→∀{a b:DR},a∈ns→b∈ns→a.1=b.1→a=b
 | [],_,a,b,ha,_,_=>nomatch ha
 | x::ns,nd,a,b,ha,hb,e=>by
  rw[List.map_cons,List.nodup_cons]at nd
  rcases List.mem_cons.mp ha with ha' | ha'
  ·rcases List.mem_cons.mp hb with hb' | hb'
   ·rw[ha',hb']
   ·exact absurd (show x.1∈ns.map (·.1)by rw[← ha',e];exact List.mem_map_of_mem hb') nd.1
  ·rcases List.mem_cons.mp hb with hb' | hb'
   ·exact absurd (show x.1∈ns.map (·.1)by rw[← hb',← e];exact List.mem_map_of_mem ha') nd.1
   ·exact Mm nd.2 ha' hb' e
theorem Lo {es ns:List DR}(h:Qq es ns)(nd:(ns.map (·.1)).Nodup){e:DR}(he:e∈ns):e∈es∧∀ e'∈es,e'.1=e.1→e'=e:=by
 obtain⟨h1,h2,_⟩:=h
 refine⟨?_,fun e' he' q=>Mm nd (h1 e' he') he q⟩
 have:e.1∈es.map (·.1):=h2.mem_iff.mpr (List.mem_map_of_mem he)
 rw[List.mem_map]at this
 obtain⟨e',he',q⟩:=this
 rw[← Mm nd (h1 e' he') he q]
 exact he'
theorem Qx {e:DR}{R:FX}:∀{es:List DR},e∈es→(∀ e'∈es,e'.1=e.1→e'=e)→(es.map (fun(e:DR)=>((zS "name",e.1),0,e.2.2))++R).lookup (zS "name",e.1)=some (0,e.2.2)
 | a::es,he,hu=>by
  rw[List.map_cons,List.cons_append,List.lookup_cons]
  by_cases q:a.1=e.1
  ·rw[hu a (by simp) q,beq_self_eq_true]
  ·have:((zS "name",e.1)==(zS "name",a.1))=false:=beq_false_of_ne fun z=>q (congrArg Prod.snd z).symm
   rw[this]
   refine Qx ((List.mem_cons.mp he).resolve_left fun z=>q (by rw[z])) fun e' h=>hu e' (List.mem_cons_of_mem _ h)
theorem Qy {e:DR}:∀{es:List DR},e∈es→(∀ e'∈es,e'.1=e.1→e'=e)→(es.map (fun(e:DR)=>((zS "own",e.1),e.2.1,e.2.2))).lookup (zS "own",e.1)=some (e.2.1,e.2.2)
 | a::es,he,hu=>by
  rw[List.map_cons,List.lookup_cons]
  by_cases q:a.1=e.1
  ·rw[hu a (by simp) q,beq_self_eq_true]
  ·have:((zS "own",e.1)==(zS "own",a.1))=false:=beq_false_of_ne fun z=>q (congrArg Prod.snd z).symm
   rw[this]
   exact Qy ((List.mem_cons.mp he).resolve_left fun z=>q (by rw[z])) fun e' h=>hu e' (List.mem_cons_of_mem _ h)
theorem Ju {z:Str}{R:FX}:∀ ns:List DR,(ns.map (fun(e:DR)=>((zS "name",e.1),0,e.2.2))++R).lookup (zS "own",z)=R.lookup (zS "own",z)
 | []=>rfl
 | a::ns=>by
  rw[List.map_cons,List.cons_append,List.lookup_cons]
  have:((zS "own",z)==(zS "name",a.1))=false:=beq_false_of_ne fun q=>absurd (congrArg Prod.fst q) (show ¬ zS "own"=zS "name" by nofun)
  rw[this]
  exact Ju ns
theorem Jv {ns ns' os':List DR}(h:Qq ns' ns)(nd:(ns.map (·.1)).Nodup){e:DR}(he:e∈ns):(Ft ns' os').lookup (zS "name",e.1)=some (0,e.2.2):=by
 obtain⟨a,b⟩:=Lo h nd he
 exact Qx a b
theorem Qz {os ns' os':List DR}(h:Qq os' os)(nd:(os.map (·.1)).Nodup){e:DR}(he:e∈os):(Ft ns' os').lookup (zS "own",e.1)=some (e.2.1,e.2.2):=by
 obtain⟨a,b⟩:=Lo h nd he
 unfold Ft
 rw[Ju]
 exact Qy a b
theorem WD {ns os ns' os':List DR}{zs:List Str}(hz:∀ z∈zs,Nm z)(hn:Qq ns' ns)(ho:Qq os' os)(okn:EV false ns)(oko:EV true os):KW (Ft ns' os') zs:=by
 refine⟨hz,fun k m g h=>?_⟩
 have hm:=Ix h
 unfold Ft at hm
 rcases List.mem_append.mp hm with hm | hm
 ·rw[List.mem_map]at hm
  obtain⟨e,he,q⟩:=hm
  cases q
  have ok:=okn.2.2 e (hn.1 e he)
  have:=ok.fo
  rw[ok.n0 rfl]at this
  exact⟨by decide,this⟩
 ·rw[List.mem_map]at hm
  obtain⟨e,he,q⟩:=hm
  cases q
  have ok:=oko.2.2 e (ho.1 e he)
  exact⟨ok.m3,ok.fo⟩
theorem UL {ns os ns' os':List DR}(hn:Qq ns' ns)(ho:Qq os' os)(okn:EV false ns)(oko:EV true os):V9 ns' os':=by
 have l1:=hn.2.1.length_eq
 have l2:=ho.2.1.length_eq
 rw[List.length_map,List.length_map]at l1 l2
 have:=okn.1
 have:=oko.1
 exact⟨hn.2.1.nodup_iff.mpr okn.2.1,ho.2.1.nodup_iff.mpr oko.2.1,by omega,by omega⟩
section
variable {X:Cx}
def Xc:R2:=fun x y H Q=>∃(a b:Addr) (w z1 z2:Str) (y1:V) (r:List V),x=.ref a∧y=.ref b∧H a=some (.tup (.str w::y1::r))∧H b=some (.tup [.str z1,.str z2])∧w≠z1∧(BC y1=true∨∃ q xs,y1=.ref q∧H q=some (.tup xs))∧Q (.bl true) H
theorem UM (hu:X.A.units+1<cLine):FR X (compareOp .NotEq) Xc:=by
 intro pins s σ H x y v u Q I rx ry h
 obtain⟨a,b,w,z1,z2,y1,r,rfl,rfl,ha,hb,hne,hy,q⟩:=h
 cases rx
 cases ry
 obtain⟨its,r1,p1,_⟩:=I.tuple (Ae.of ha)
 obtain⟨its2,r2,p2,_⟩:=I.tuple (Ae.of hb)
 have hu1:X.A.in1.units<cLine:=hu
 cases r1 with
 | cons a1 r1=>
 cases r1 with
 | cons a2 r1=>
 cases r2 with
 | cons b1 r2=>
 cases r2 with
 | cons b2 r2=>
 cases r2 with
 | nil=>
 obtain⟨ta,rfl⟩:=a1
 obtain⟨tb,rfl⟩:=b1
 obtain⟨tc,rfl⟩:=b2
 rename_i u1 BH
 have h1:∃ e1,SeqAt.EqAt X.A.in1 s u1 (.str z2 tc) e1:=by
  rcases hy with f1 | ⟨q0,xs,rfl,hq0⟩
  ·exact⟨_,J5 a2 (show Ai (.str z2) (.str z2 tc)from⟨tc,rfl⟩) f1 rfl⟩
  ·cases a2
   obtain⟨its3,_,p3,_⟩:=I.tuple (Ae.of hq0)
   exact⟨_,SeqAt.EqAt.tuple_str z2 tc p3 hu1⟩
 obtain⟨e1,h1⟩:=h1
 have hv:((List.range (min (Value.str w ta::u1::BH).toArray.size [Value.str z1 tb,.str z2 tc].toArray.size)).all (fun j=>if j=0 then w==z1 else e1)&&(Value.str w ta::u1::BH).toArray.size==[Value.str z1 tb,.str z2 tc].toArray.size)=false:=by
  have e0:(w==z1)=false:=beq_false_of_ne hne
  have:(List.range (min (Value.str w ta::u1::BH).toArray.size [Value.str z1 tb,.str z2 tc].toArray.size)).all (fun j=>if j=0 then w==z1 else e1)=false:=by
   rw[List.all_eq_false]
   exact⟨0,List.mem_range.mpr (by simp),by rw[if_pos rfl,e0];decide⟩
  rw[this];rfl
 refine SeqAt.RcNeAt.tuples (e:=fun j=>if j=0 then w==z1 else e1) (show s.heap.IsTuple a _ from p1) (show s.heap.IsTuple b _ from p2) (Nat.lt_of_succ_lt hu) ?_ X.prog X.w X.xe _ ⟨.bl true,H,I,?_,q⟩
 ·intro j h1' h2'
  match j with
  | 0=>exact SeqAt.EqAt.str_str w ta z1 tb
  | 1=>exact h1
  | n+2=>exact absurd h2' (by simp)
 ·rw[hv];rfl
theorem Lp:Ci X (.type "int") (fun xs H Q=>∃ b,xs=[.bl b]∧Q (.int (if b then 1 else 0)) H):=by
 intro pins s σ H xs us Q I r h
 obtain⟨b,rfl,q⟩:=h
 obtain⟨u,rfl,r1⟩:=Fd r
 cases r1
 exact call_int_bool ⟨.int _,H,I.tok _,⟨_,rfl⟩,q⟩
end
def Q0:Sd:=⟨1,1,false,false⟩
def CJ:Nat→Nat→Bool→Fm
 | 0,_,_=>.lf .gone
 | m+1,n,b=>if n=1 then .lf (.cell (some (if b=true then zS "lost" else zS "main")) Q0)else if n=2 then .nd .neg [CJ m 1 b]else .nd (.op (zS "+")) [CJ m ((n-1) / 2) b,CJ m (n-1-(n-1) / 2) (!b)]
mutual
def Mn:Fm→Bool
 | .lf (.nam _)=>false
 | .lf _=>true
 | .nd k ps=>!DK k&&SN ps
def SN:List Fm→Bool
 | []=>true
 | f::fs=>Mn f&&SN fs
end
theorem Mo {m:Nat}{b:Bool}:CJ (m+1) 1 b=.lf (.cell (some (if b=true then zS "lost" else zS "main")) Q0):=by rw[CJ,if_pos rfl]
theorem Mp {m:Nat}{b:Bool}:CJ (m+1) 2 b=.nd .neg [CJ m 1 b]:=by rw[CJ,if_neg (by decide),if_pos rfl]
theorem Mq {m n:Nat}{b:Bool}(h1:n≠1)(h2:n≠2):CJ (m+1) n b=.nd (.op (zS "+")) [CJ m ((n-1) / 2) b,CJ m (n-1-(n-1) / 2) (!b)]:=by rw[CJ,if_neg h1,if_neg h2]
theorem Kc:Nm (zS "main"):=EQ (by nofun)
theorem SO:Nm (zS "lost"):=EQ (by nofun)
theorem Iy:zS "+"∈QG:=by nofun
theorem EW:∀(m n:Nat) (b:Bool),1≤n→n<2 ^ m→FO 0 m (CJ m n b)∧BW (CJ m n b)=n∧Ct (CJ m n b)=true∧Mn (CJ m n b)=true
 | 0,n,b,h1,h2=>by omega
 | m+1,n,b,h1,h2=>by
  by_cases e1:n=1
  ·subst e1
   rw[Mo]
   refine⟨.lf ⟨?_,(by decide),(by decide),(by decide),(by decide)⟩,by rw[BW],by simp[Ct],by simp[Mn]⟩
   cases b
   ·exact Kc
   ·exact SO
  by_cases e2:n=2
  ·subst e2
   have hm:1<2 ^ m:=by rw[Nat.pow_succ]at h2;omega
   obtain⟨a1,a2,a3,a4⟩:=EW m 1 b (by omega) hm
   rw[Mp]
   refine⟨.nd rfl fun f hf=>by rw[List.mem_singleton.mp hf];exact a1,by rw[BW,BQ,BQ,a2],by rw[Ct,Ir,Ir,a3];rfl,by rw[Mn,SN,SN,a4];rfl⟩
  ·have hp:n<2 ^ m*2:=by rw[← Nat.pow_succ];exact h2
   obtain⟨a1,a2,a3,a4⟩:=EW m ((n-1) / 2) b (by omega) (by omega)
   obtain⟨b1,b2,b3,b4⟩:=EW m (n-1-(n-1) / 2) (!b) (by omega) (by omega)
   rw[Mq e1 e2]
   refine⟨.nd ⟨Iy,rfl⟩ fun f hf=>?_,by rw[BW,BQ,BQ,BQ,a2,b2];omega,by rw[Ct,Ir,Ir,Ir,a3,b3];rfl,by rw[Mn,SN,SN,SN,a4,b4];rfl⟩
   rcases List.mem_cons.mp hf with e | hf
   ·rw[e];exact a1
   ·rw[List.mem_singleton.mp hf];exact b1
def Q1:Lf→Bool
 | .val _=>true
 | .cell ..=>true
 | .rng ..=>true
 | .flt _=>true
 | _=>false
inductive OF:Nat→Fm→Prop where
 | lf {n:Nat} {l:Lf} (h:Q1 l=true):OF (n+1) (.lf l)
 | nd {n:Nat} {k:Kd} {ps:List Fm} (hk:ES k ps.length) (ho:DK k=false) (hp:∀ f∈ps,OF n f):OF (n+1) (.nd k ps)
theorem OF.mono {n:Nat}{f:Fm}(h:OF n f):∀{m:Nat},n≤m→OF m f:=by
 induction h with
 | lf h=>intro m hm;obtain⟨m,rfl⟩:∃ k,m=k+1:=⟨m-1,by omega⟩;exact .lf h
 | nd hk ho _ ih=>intro m hm;obtain⟨m,rfl⟩:∃ k,m=k+1:=⟨m-1,by omega⟩;exact .nd hk ho fun f hf=>ih f hf (by omega)
theorem Nu:∀{fs:List Fm},SN fs=true→∀ g∈fs,Mn g=true
 | [],_,g,h=>nomatch h
 | f::fs,h,g,hg=>by
  rw[SN,Bool.and_eq_true]at h
  rcases List.mem_cons.mp hg with e | e
  ·rw[e];exact h.1
  ·exact Nu h.2 g e
theorem Nv {f:Fm}(h:Mn f=true):Eg f=none∧∀ g∈A5 f,Mn g=true:=by
 cases f with
 | lf l=>
  refine⟨?_,fun g hg=>nomatch hg⟩
  cases l with
  | nam z=>rw[Mn]at h;cases h
  | _=>rfl
 | nd k ps=>
  rw[Mn,Bool.and_eq_true]at h
  refine⟨?_,Nu h.2⟩
  cases k with
  | own z=>cases h.1
  | _=>rfl
theorem GL {B:FX}{sh:Str}{zs:List Str}{n:Nat}{f:Fm}(fo:FO 0 n f):∀{W:List Da},Mn f=true→HK B n W f∧B6 B n W f=0∧BW (Bn B sh zs n W f)=BW f∧OF n (Bn B sh zs n W f):=by
 induction fo with
 | @lf n l h=>
  intro W hp
  obtain⟨hk,_⟩:=Nv hp
  refine⟨⟨(fun p hp=>nomatch hp),fun key m g e=>by rw[hk]at e;cases e⟩,?_,?_,?_⟩
  ·unfold B6;rw[hk];rfl
  ·rw[E1 B sh zs hk,BW,BW]
  ·rw[E1 B sh zs hk]
   refine .lf ?_
   cases l with
   | val v=>rfl
   | gone=>rfl
   | nam z=>rw[Mn]at hp;cases hp
   | par i=>exact absurd h.2 (by have:=h.1;omega)
   | flt z=>rfl
   | cell s c=>
    show Q1 (if _ then _ else _)=true
    split <;> rfl
   | rng s c d=>
    show Q1 (if _ then _ else _)=true
    split <;> rfl
   | cols s i x j y=>
    show Q1 (if _ then _ else _)=true
    split <;> rfl
 | @nd n k ps h hq ih=>
  intro W hp
  obtain⟨hk,hps⟩:=Nv hp
  have all:=fun g (hg:g∈ps)=>ih g hg (W:=W) (hps g hg)
  refine⟨⟨fun p hp=>(all p hp).1,fun key m g e=>by rw[hk]at e;cases e⟩,?_,?_,?_⟩
  ·unfold B6
   rw[hk]
   have:∀ qs:List Fm,(∀ g∈qs,B6 B n W g=0)→(qs.map (B6 B n W)).sum=0:=fun qs=>by
    induction qs with
    | nil=>intro _;rfl
    | cons q qs ih=>intro h;rw[List.map_cons,List.sum_cons,h q (by simp),ih fun g hg=>h g (List.mem_cons_of_mem _ hg)]
   show(ps.map (B6 B n W)).sum+0=0
   rw[this ps fun g hg=>(all g hg).2.1]
  ·rw[Cs B sh zs hk,BW,BW]
   have:∀ qs:List Fm,(∀ g∈qs,BW (Bn B sh zs n W g)=BW g)→BQ (qs.map (Bn B sh zs n W))=BQ qs:=fun qs=>by
    induction qs with
    | nil=>intro _;rfl
    | cons q qs ih=>intro h;rw[List.map_cons,BQ,BQ,h q (by simp),ih fun g hg=>h g (List.mem_cons_of_mem _ hg)]
   rw[this ps fun g hg=>(all g hg).2.2.1]
  ·rw[Cs B sh zs hk]
   refine .nd (by rw[List.length_map];exact h) ?_ fun g hg=>?_
   ·cases k with
    | own z=>cases hk
    | _=>rfl
   ·rw[List.mem_map]at hg
    obtain⟨g',hg',rfl⟩:=hg
    exact(all g' hg').2.2.2
def Mr (t:Nat):Str:=if t=0 then zS "zero" else if t=1 then zS "one" else if t=2 then zS "two" else zS "three"
def p0:Fm:=.lf (.par 0)
def g4 (t:Nat):Fm:=if t=0 then .lf (.val (.num 1 1))else if t=1 then p0 else if t=2 then .nd (.op (zS "+")) [p0,p0]else .nd (.wd (zS "stack")) [.nd (.op (zS "*")) [p0,p0],p0]
def f4 (t m:Nat):Nat:=if t=0 then 1 else if t=1 then m else if t=2 then 2*m+1 else 3*m+2
def Hb:List Nat→Fm
 | []=>.lf (.nam (zS "n"))
 | t::ts=>.nd (.own (Mr t)) [Hb ts]
def L3 (own:Nat):List Nat→Nat
 | []=>own
 | t::ts=>f4 t (L3 own ts)
structure WE (B:FX)(tn tm:Fm):Prop where
 n:B.lookup (zS "name",zS "n")=some (0,tn)
 m:B.lookup (zS "name",zS "m")=some (0,tm)
 o:∀ t,t≤3→B.lookup (zS "own",Mr t)=some (1,g4 t)
def Su:Fm→Prop
 | .lf (.flt _)=>False
 | _=>True
structure Oq (B:FX)(sh:Str)(zs:List Str)(N d c:Nat)(f:Fm)(s:Nat):Prop where
 ok:HK B N [] f
 cn:B6 B N [] f≤c
 sz:BW (Bn B sh zs N [] f)=s
 nf:Su (Bn B sh zs N [] f)
 of:OF d (Bn B sh zs N [] f)
theorem Sv (t:Nat):∀{B:FX} {W:List Da} {n:Nat},HK B (n+3) W (g4 t)∧B6 B (n+3) W (g4 t)=0∧∀{sh:Str} {zs:List Str},Bn B sh zs (n+3) W (g4 t)=g4 t:=by
 intro B W n
 have pk:∀ n,HK B (n+1) W p0:=fun n=>⟨(fun p hp=>nomatch hp),fun key m g e=>nomatch e⟩
 have pc:∀ n,B6 B n W p0=0:=fun n=>by cases n <;> rfl
 have po:∀{sh:Str} {zs:List Str} (n),Bn B sh zs (n+1) W p0=p0:=fun {sh zs} n=>E1 B sh zs rfl
 unfold g4
 split
 ·exact⟨⟨(fun p hp=>nomatch hp),fun key m g e=>nomatch e⟩,rfl,fun {sh zs}=>E1 B sh zs rfl⟩
 split
 ·exact⟨pk _,pc _,po _⟩
 split
 ·refine⟨⟨fun p hp=>?_,fun key m g e=>nomatch e⟩,?_,fun {sh zs}=>?_⟩
  ·have:p=p0:=by simpa [A5]using hp
   rw[this];exact pk _
  ·show([p0,p0].map (B6 B (n+2) W)).sum+0=0
   simp[pc]
  ·rw[Cs B sh zs rfl]
   simp[po]
 ·have mk:∀ n,HK B (n+2) W (.nd (.op (zS "*")) [p0,p0]):=fun n=>⟨fun p hp=>by
   have:p=p0:=by simpa [A5]using hp
   rw[this];exact pk _,fun key m g e=>nomatch e⟩
  have mc:∀ n,B6 B n W (.nd (.op (zS "*")) [p0,p0])=0:=fun n=>by
   cases n with
   | zero=>rfl
   | succ n=>show([p0,p0].map (B6 B n W)).sum+0=0;simp[pc]
  have mo:∀{sh:Str} {zs:List Str} (n),Bn B sh zs (n+2) W (.nd (.op (zS "*")) [p0,p0])=.nd (.op (zS "*")) [p0,p0]:=fun {sh zs} n=>by
   rw[Cs B sh zs rfl]
   simp[po]
  refine⟨⟨fun p hp=>?_,fun key m g e=>nomatch e⟩,?_,fun {sh zs}=>?_⟩
  ·have:p=.nd (.op (zS "*")) [p0,p0]∨p=p0:=by simpa [A5]using hp
   rcases this with rfl | rfl
   ·exact mk _
   ·exact pk _
  ·show([Fm.nd (.op (zS "*")) [p0,p0],p0].map (B6 B (n+2) W)).sum+0=0
   simp[pc,mc]
  ·rw[Cs B sh zs rfl]
   simp[po,mo]
theorem Q2 (T:Fm):Cr [T] p0=T:=by
 unfold p0
 rw[Cr]
 rfl
theorem WF (t:Nat)(T:Fm)(ht:t≤3):BW (Cr [T] (g4 t))=f4 t (BW T)∧(Su T→Su (Cr [T] (g4 t)))∧∀ d,OF d T→OF (d+2) (Cr [T] (g4 t)):=by
 have st:zS "*"∈QG:=by nofun
 have sk:(zS "stack",2)∈Gk:=by nofun
 have two:∀ z:Str,Cr [T] (.nd (.op z) [p0,p0])=.nd (.op z) [T,T]:=fun z=>by rw[Cr,Lk,Lk,Lk,Q2]
 have:t=0∨t=1∨t=2∨t=3:=by omega
 rcases this with rfl | rfl | rfl | rfl
 ·have e:Cr [T] (g4 0)=.lf (.val (.num 1 1)):=by
   show Cr [T] (.lf (.val (.num 1 1)))=_
   rw[Cr.eq_2 _ _ (fun i z=>by cases z)]
  rw[e]
  exact⟨by rw[BW];rfl,fun _=>trivial,fun d _=>.lf rfl⟩
 ·have e:Cr [T] (g4 1)=T:=Q2 T
  rw[e]
  exact⟨rfl,id,fun d h=>h.mono (by omega)⟩
 ·have e:Cr [T] (g4 2)=.nd (.op (zS "+")) [T,T]:=two _
  rw[e]
  refine⟨by rw[BW,BQ,BQ,BQ];show _=2*BW T+1;omega,fun _=>trivial,fun d h=>.nd ⟨Iy,rfl⟩ rfl fun f hf=>?_⟩
  have:f=T:=by simpa using hf
  rw[this];exact h.mono (by omega)
 ·have e:Cr [T] (g4 3)=.nd (.wd (zS "stack")) [.nd (.op (zS "*")) [T,T],T]:=by
   show Cr [T] (.nd (.wd (zS "stack")) [.nd (.op (zS "*")) [p0,p0],p0])=_
   rw[Cr,Lk,Lk,Lk,Q2,two]
  rw[e]
  refine⟨by rw[BW,BQ,BQ,BQ,BW,BQ,BQ,BQ];show _=3*BW T+2;omega,fun _=>trivial,fun d h=>.nd sk rfl fun f hf=>?_⟩
  have:f=.nd (.op (zS "*")) [T,T]∨f=T:=by simpa using hf
  rcases this with rfl | rfl
  ·refine .nd ⟨st,rfl⟩ rfl fun f hf=>?_
   have:f=T:=by simpa using hf
   rw[this];exact h
  ·exact h.mono (by omega)
theorem Nw {B:FX}{sh:Str}{zs:List Str}{z:Str}{tr:Fm}{N:Nat}(h:B.lookup (zS "name",z)=some (0,tr))(fo:FO 0 8 tr)(pl:Mn tr=true)(hN:8≤N):HK B (N+1) [] (.lf (.nam z))∧B6 B (N+1) [] (.lf (.nam z))=1∧Bn B sh zs (N+1) [] (.lf (.nam z))=Cr [] (Bn B sh zs 8 [(zS "name",z)] tr):=by
 obtain⟨a,b,c,d⟩:=GL (B:=B) (sh:=sh) (zs:=zs) fo (W:=[(zS "name",z)]) pl
 obtain⟨e1,e2⟩:=GJ B sh zs a hN (fun k=>Iff.rfl)
 have c0:B6 B N [(zS "name",z)] tr=0:=(GL (B:=B) (sh:=sh) (zs:=zs) (fo.mono hN) (W:=[(zS "name",z)]) pl).2.1
 refine⟨⟨(fun p hp=>nomatch hp),fun key m g e1 e3 _=>?_⟩,?_,?_⟩
 ·cases e1
  rw[h]at e3
  cases e3
  exact e2
 ·rw[IC (f:=.lf (.nam z)) rfl h (by simp),c0];rfl
 ·rw[FP B sh zs (f:=.lf (.nam z)) rfl h (by simp) rfl,e1];rfl
mutual
theorem Ms:∀{n:Nat} (T:Fm),OF n T→Cr [] T=T
 | _,.lf l,h=>by
  cases h with
  | lf h=>
   cases l with
   | par i=>cases h
   | val v=>rw[Cr.eq_2 _ _ (fun i z=>by cases z)]
   | cell s c=>rw[Cr.eq_2 _ _ (fun i z=>by cases z)]
   | rng s c d=>rw[Cr.eq_2 _ _ (fun i z=>by cases z)]
   | flt z=>rw[Cr.eq_2 _ _ (fun i z=>by cases z)]
   | cols s i x j y=>cases h
   | gone=>cases h
   | nam z=>cases h
 | _,.nd k ps,h=>by
  cases h with
  | nd _ _ hp=>rw[Cr,Nx ps hp]
theorem Nx:∀{n:Nat} (ps:List Fm),(∀ f∈ps,OF n f)→Lk [] ps=ps
 | _,[],_=>by rw[Lk]
 | _,f::fs,h=>by rw[Lk,Ms f (h f (by simp)),Nx fs fun g hg=>h g (List.mem_cons_of_mem _ hg)]
end
theorem Q3 {B:FX}{sh:Str}{zs:List Str}{z:Str}{tr:Fm}{N:Nat}(h:B.lookup (zS "name",z)=some (0,tr))(fo:FO 0 8 tr)(pl:Mn tr=true)(hN:8≤N)(nf:Su (Bn B sh zs 8 [(zS "name",z)] tr)):Oq B sh zs (N+1) 8 1 (.lf (.nam z)) (BW tr):=by
 obtain⟨a,b,c⟩:=Nw (sh:=sh) (zs:=zs) h fo pl hN
 obtain⟨_,_,d,e⟩:=GL (B:=B) (sh:=sh) (zs:=zs) fo (W:=[(zS "name",z)]) pl
 rw[Ms _ e]at c
 exact⟨a,by omega,by rw[c];exact d,by rw[c];exact nf,by rw[c];exact e⟩
theorem Q4 {B:FX}{sh:Str}{zs:List Str}{tn tm:Fm}(hB:WE B tn tm)(fo:FO 0 8 tn)(pl:Mn tn=true)(nf:Su (Bn B sh zs 8 [(zS "name",zS "n")] tn)):∀{ts:List Nat},(∀ t∈ts,t≤3)→∀{N:Nat},ts.length+8≤N→Oq B sh zs (N+1) (8+2*ts.length) (1+ts.length) (Hb ts) (L3 (BW tn) ts)
 | [],_,N,hN=>Q3 hB.n fo pl (by simpa using hN) nf
 | t::ts,ht,N,hN=>by
  have t3:=ht t (by simp)
  rw[List.length_cons]at hN
  obtain⟨N,rfl⟩:∃ M,N=M+3:=⟨N-3,by omega⟩
  have ih:=Q4 hB fo pl nf (ts:=ts) (fun t h=>ht t (List.mem_cons_of_mem _ h)) (N:=N+2) (by omega)
  obtain⟨k1,k2,k3⟩:=Sv t (B:=B) (W:=[(zS "own",Mr t)]) (n:=N)
  have hl:=hB.o t t3
  have e:Bn B sh zs (N+3+1) [] (Hb (t::ts))=Cr [Bn B sh zs (N+3) [] (Hb ts)] (g4 t):=by
   rw[show Hb (t::ts)=.nd (.own (Mr t)) [Hb ts]from rfl,FP B sh zs (f:=.nd (.own (Mr t)) [Hb ts]) rfl hl (by simp) rfl,k3]
   rfl
  obtain⟨s1,s2,s3⟩:=WF t (Bn B sh zs (N+3) [] (Hb ts)) t3
  refine⟨⟨fun p hp=>?_,fun key m g e1 e3 _=>?_⟩,?_,?_,?_,?_⟩
  ·have:p=Hb ts:=by simpa [A5,Hb]using hp
   rw[this];exact ih.ok
  ·have e1:some (zS "own",Mr t)=some key:=e1
   cases e1
   rw[hl]at e3
   cases e3
   exact k1
  ·rw[IC (f:=Hb (t::ts)) (key:=(zS "own",Mr t)) rfl hl (by simp),k2]
   show([Hb ts].map (B6 B (N+3) [])).sum+_≤_
   have:B6 B (N+3) [] (Hb ts)≤1+ts.length:=ih.cn
   simp only[List.map_cons,List.map_nil,List.sum_cons,List.sum_nil,List.length_cons]
   omega
  ·rw[e,s1,ih.sz];rfl
  ·rw[e];exact s2 ih.nf
  ·rw[e]
   exact(s3 _ ih.of).mono (by rw[List.length_cons];omega)
theorem Mt:∀{ts:List Nat},(∀ t∈ts,t≤3)→FO 0 (ts.length+1) (Hb ts)
 | [],_=>.lf ⟨EQ (by nofun),by nofun⟩
 | t::ts,h=>by
  refine .nd ?_ fun f hf=>?_
  ·have t3:=h t (by simp)
   have:t=0∨t=1∨t=2∨t=3:=by omega
   rcases this with rfl | rfl | rfl | rfl
   all_goals exact⟨EQ (by nofun),by nofun,(by show 1≤3;decide)⟩
  ·rw[List.mem_singleton.mp hf]
   exact Mt fun t ht=>h t (List.mem_cons_of_mem _ ht)
theorem Q5 {B:FX}{sh:Str}{zs:List Str}{N d c:Nat}{k:Kd}{ps:List Fm}(hk:ES k ps.length)(ho:DK k=false)(ok:∀ p∈ps,HK B N [] p)(cn:(ps.map (B6 B N [])).sum≤c)(of:∀ p∈ps,OF d (Bn B sh zs N [] p)):Oq B sh zs (N+1) (d+1) c (.nd k ps) (1+BQ (ps.map (Bn B sh zs N []))):=by
 have hkey:Eg (.nd k ps)=none:=by cases k <;> first | rfl | cases ho
 have e:=Cs B sh zs (n:=N) (W:=[]) hkey
 refine⟨⟨ok,fun key m g e=>by rw[hkey]at e;cases e⟩,?_,?_,?_,?_⟩
 ·unfold B6
  rw[hkey]
  exact cn
 ·rw[e,BW]
 ·rw[e];trivial
 ·rw[e]
  refine .nd (by rw[List.length_map];exact hk) ho fun f hf=>?_
  rw[List.mem_map]at hf
  obtain⟨p,hp,rfl⟩:=hf
  exact of p hp
theorem Oq.mono {B:FX}{sh:Str}{zs:List Str}{N d c d' c':Nat}{f:Fm}{s:Nat}(h:Oq B sh zs N d c f s)(hd:d≤d')(hc:c≤c'):Oq B sh zs N d' c' f s:=⟨h.ok,Nat.le_trans h.cn hc,h.sz,h.nf,h.of.mono hd⟩
theorem UN {B:FX}{W:List Da}{m n N:Nat}:Su (Bn B (zS "main") [zS "main"] (N+1) W (CJ (m+1) n false)):=by
 by_cases e1:n=1
 ·subst e1
  rw[Mo,E1 B _ _ rfl,show(if false=true then zS "lost" else zS "main")=zS "main" from rfl]
  have e:RE (zS "main") [zS "main"] (.cell (some (zS "main")) Q0)=.cell (some (zS "main")) Q0:=by
   show(if Ei (zS "main") (some (zS "main"))∈[zS "main"]then Lf.cell (some (Ei (zS "main") (some (zS "main")))) Q0 else .flt (zS "gone"))=_
   exact if_pos (show zS "main"∈[zS "main"]by simp)
  rw[e]
  trivial
 by_cases e2:n=2
 ·subst e2
  rw[Mp,Cs B _ _ rfl]
  trivial
 ·rw[Mq e1 e2,Cs B _ _ rfl]
  trivial
def UO (o mo:Nat):List DR:=[(zS "n",0,CJ 5 o false),(zS "m",0,CJ 5 mo true)]
def Ud:List DR:=[(zS "zero",1,g4 0),(zS "one",1,g4 1),(zS "two",1,g4 2),(zS "three",1,g4 3)]
theorem Ke {o mo:Nat}(h1:1≤o)(h2:o≤24)(h3:1≤mo)(h4:mo≤24):EV false (UO o mo):=by
 obtain⟨a1,a2,a3,a4⟩:=EW 5 o false h1 (by omega)
 obtain⟨b1,b2,b3,b4⟩:=EW 5 mo true h3 (by omega)
 refine⟨by show 2≤6;decide,by show [zS "n",zS "m"].Nodup;nofun,fun e he=>?_⟩
 have:e=(zS "n",0,CJ 5 o false)∨e=(zS "m",0,CJ 5 mo true):=by simpa [UO]using he
 rcases this with rfl | rfl
 ·exact⟨show Nm (zS "n")from EQ (by nofun),(show Rt (zS "n")=false by nofun),fun _=>rfl,(by show 0≤3;decide),a1.mono (by decide),(by show BW (CJ 5 o false)≤24;omega),a3⟩
 ·exact⟨show Nm (zS "m")from EQ (by nofun),(show Rt (zS "m")=false by nofun),fun _=>rfl,(by show 0≤3;decide),b1.mono (by decide),(by show BW (CJ 5 mo true)≤24;omega),b3⟩
theorem WG (t:Nat)(ht:t≤3):FO 1 8 (g4 t)∧BW (g4 t)≤24∧Ct (g4 t)=true:=by
 have st:zS "*"∈QG:=by nofun
 have sk:(zS "stack",2)∈Gk:=by nofun
 have pf:∀ n,FO 1 (n+1) p0:=fun n=>.lf ⟨by decide,by decide⟩
 have two:∀ n (z:Str),z∈QG→FO 1 (n+2) (.nd (.op z) [p0,p0]):=fun n z hz=>.nd ⟨hz,rfl⟩ fun f hf=>by
  have:f=p0:=by simpa using hf
  rw[this];exact pf n
 have:t=0∨t=1∨t=2∨t=3:=by omega
 rcases this with rfl | rfl | rfl | rfl
 ·exact⟨.lf ⟨⟨Rv,by decide,by decide⟩,rfl,by decide,by decide⟩,by show BW (.lf _)≤24;rw[BW];decide,by show Ct (.lf (.val _))=true;simp[Ct]⟩
 ·exact⟨pf 7,by show BW (.lf _)≤24;rw[BW];decide,by show Ct (.lf (.par 0))=true;simp[Ct]⟩
 ·exact⟨two 6 _ Iy,by show BW (.nd _ [.lf _,.lf _])≤24;simp[BW,BQ],by show Ct (.nd _ [.lf (.par 0),.lf (.par 0)])=true;simp[Ct,Ir]⟩
 ·refine⟨.nd sk fun f hf=>?_,by show BW (.nd _ [.nd _ [.lf _,.lf _],.lf _])≤24;simp[BW,BQ],by show Ct (.nd _ [.nd _ [.lf (.par 0),.lf (.par 0)],.lf (.par 0)])=true;simp[Ct,Ir]⟩
  have:f=.nd (.op (zS "*")) [p0,p0]∨f=p0:=by simpa using hf
  rcases this with rfl | rfl
  ·exact two 5 _ st
  ·exact pf 6
theorem Kf:EV true Ud:=by
 refine⟨by show 4≤6;decide,by show [zS "zero",zS "one",zS "two",zS "three"].Nodup;nofun,fun e he=>?_⟩
 have:∃ t,t≤3∧e=(Mr t,1,g4 t):=by
  have:e=(zS "zero",1,g4 0)∨e=(zS "one",1,g4 1)∨e=(zS "two",1,g4 2)∨e=(zS "three",1,g4 3):=by simpa [Ud]using he
  rcases this with h | h | h | h
  ·exact⟨0,by decide,h⟩
  ·exact⟨1,by decide,h⟩
  ·exact⟨2,by decide,h⟩
  ·exact⟨3,by decide,h⟩
 obtain⟨t,ht,rfl⟩:=this
 obtain⟨a,b,c⟩:=WG t ht
 have:Nm (Mr t)∧Rt (Mr t)=false:=by
  have:t=0∨t=1∨t=2∨t=3:=by omega
  rcases this with rfl | rfl | rfl | rfl
  all_goals exact⟨EQ (by nofun),by nofun⟩
 exact⟨this.1,this.2,(fun z=>by cases z),(by show 1≤3;decide),a,b,c⟩
theorem UP {o mo:Nat}{ns' os':List DR}(h1:1≤o)(h2:o≤24)(h3:1≤mo)(h4:mo≤24)(hn:Qq ns' (UO o mo))(ho:Qq os' Ud):WE (Ft ns' os') (CJ 5 o false) (CJ 5 mo true):=by
 have nn:=(Ke h1 h2 h3 h4).2.1
 have no:=Kf.2.1
 refine⟨Jv hn nn (e:=(zS "n",0,CJ 5 o false)) (by simp[UO]),Jv hn nn (e:=(zS "m",0,CJ 5 mo true)) (by simp[UO]),fun t ht=>?_⟩
 refine Qz ho no (e:=(Mr t,1,g4 t)) ?_
 have:t=0∨t=1∨t=2∨t=3:=by omega
 rcases this with rfl | rfl | rfl | rfl
 all_goals simp[Ud,Mr]
def EX (ts:List Nat):Fm:=.nd (.op (zS "-")) [Hb ts,.lf (.nam (zS "m"))]
theorem Xd {o mo:Nat}{B:FX}(h1:1≤o)(h2:o≤24)(h3:1≤mo)(h4:mo≤24)(hB:WE B (CJ 5 o false) (CJ 5 mo true)){ts:List Nat}(ht:∀ t∈ts,t≤3)(hl:ts.length≤5):
 Oq B (zS "main") [zS "main"] 20 24 100 (Hb ts) (L3 o ts)∧Oq B (zS "main") [zS "main"] 20 24 100 (EX ts) (L3 o ts+1+mo)∧Oq B (zS "main") [zS "main"] 20 24 100 (.nd (.wd (zS "sum")) [EX ts]) (L3 o ts+2+mo)∧Oq B (zS "main") [zS "main"] 20 24 100 (.nd (.own (zS "zero")) [EX ts]) 1:=by
 obtain⟨a1,a2,a3,a4⟩:=EW 5 o false h1 (by omega)
 obtain⟨b1,b2,b3,b4⟩:=EW 5 mo true h3 (by omega)
 have ch:∀ N,ts.length+8≤N→Oq B (zS "main") [zS "main"] (N+1) 18 6 (Hb ts) (L3 o ts):=fun N hN=>by
  have:=(Q4 hB (a1.mono (by decide)) a4 UN ht hN).mono (d':=18) (c':=6) (by omega) (by omega)
  rwa [a2]at this
 have nm:∀ N,8≤N→HK B (N+1) [] (.lf (.nam (zS "m")))∧B6 B (N+1) [] (.lf (.nam (zS "m")))=1∧BW (Bn B (zS "main") [zS "main"] (N+1) [] (.lf (.nam (zS "m"))))=mo∧OF 18 (Bn B (zS "main") [zS "main"] (N+1) [] (.lf (.nam (zS "m")))):=fun N hN=>by
  obtain⟨x1,x2,x3⟩:=Nw (sh:=zS "main") (zs:=[zS "main"]) hB.m (b1.mono (by decide)) b4 hN
  obtain⟨_,_,y1,y2⟩:=GL (B:=B) (sh:=zS "main") (zs:=[zS "main"]) (b1.mono (show 5≤8 by decide)) (W:=[(zS "name",zS "m")]) b4
  rw[Ms _ y2]at x3
  refine⟨x1,x2,?_,?_⟩
  ·rw[x3,y1,b2]
  ·rw[x3];exact y2.mono (by decide)
 have min:zS "-"∈QG:=by nofun
 have bo:∀ N,14≤N→Oq B (zS "main") [zS "main"] (N+2) 19 7 (EX ts) (L3 o ts+1+mo):=fun N hN=>by
  have c:=ch N (by omega)
  obtain⟨n1,n2,n3,n4⟩:=nm N (by omega)
  have:=Q5 (B:=B) (sh:=zS "main") (zs:=[zS "main"]) (N:=N+1) (d:=18) (c:=7) (k:=.op (zS "-")) (ps:=[Hb ts,.lf (.nam (zS "m"))]) ⟨min,rfl⟩ rfl (fun p hp=>?_) ?_ (fun p hp=>?_)
  ·have e:1+BQ ([Hb ts,.lf (.nam (zS "m"))].map (Bn B (zS "main") [zS "main"] (N+1) []))=L3 o ts+1+mo:=by
    rw[List.map_cons,List.map_cons,List.map_nil,BQ,BQ,BQ,c.sz,n3];omega
   rwa [e]at this
  ·have:p=Hb ts∨p=.lf (.nam (zS "m")):=by simpa using hp
   rcases this with rfl | rfl
   ·exact c.ok
   ·exact n1
  ·have:=c.cn
   simp only[List.map_cons,List.map_nil,List.sum_cons,List.sum_nil]
   omega
  ·have:p=Hb ts∨p=.lf (.nam (zS "m")):=by simpa using hp
   rcases this with rfl | rfl
   ·exact c.of
   ·exact n4
 refine⟨(ch 19 (by omega)).mono (by decide) (by decide),(bo 18 (by decide)).mono (by decide) (by decide),?_,?_⟩
 ·have c:=bo 17 (by decide)
  have:=Q5 (B:=B) (sh:=zS "main") (zs:=[zS "main"]) (N:=19) (d:=19) (c:=7) (k:=.wd (zS "sum")) (ps:=[EX ts]) (show(zS "sum",1)∈Gk by nofun) rfl (fun p hp=>?_) ?_ (fun p hp=>?_)
  ·have e:1+BQ ([EX ts].map (Bn B (zS "main") [zS "main"] 19 []))=L3 o ts+2+mo:=by
    rw[List.map_cons,List.map_nil,BQ,BQ,c.sz];omega
   rw[e]at this
   exact this.mono (by decide) (by decide)
  ·rw[List.mem_singleton.mp hp];exact c.ok
  ·have:B6 B 19 [] (EX ts)≤7:=c.cn
   simp only[List.map_cons,List.map_nil,List.sum_cons,List.sum_nil]
   omega
  ·rw[List.mem_singleton.mp hp];exact c.of
 ·have c:=bo 17 (by decide)
  obtain⟨k1,k2,k3⟩:=Sv 0 (B:=B) (W:=[(zS "own",zS "zero")]) (n:=16)
  have hl:B.lookup (zS "own",zS "zero")=some (1,g4 0):=hB.o 0 (by decide)
  have e:Bn B (zS "main") [zS "main"] 20 [] (.nd (.own (zS "zero")) [EX ts])=.lf (.val (.num 1 1)):=by
   rw[FP B _ _ (f:=.nd (.own (zS "zero")) [EX ts]) rfl hl (by simp) rfl,k3]
   show Cr _ (.lf (.val (.num 1 1)))=_
   rw[Cr.eq_2 _ _ (fun i z=>by cases z)]
  refine⟨⟨fun p hp=>?_,fun key m g e1 e3 _=>?_⟩,?_,?_,?_,?_⟩
  ·have:p=EX ts:=by simpa [A5]using hp
   rw[this];exact c.ok
  ·have e1:some (zS "own",zS "zero")=some key:=e1
   cases e1
   rw[hl]at e3
   cases e3
   exact k1
  ·rw[IC (f:=.nd (.own (zS "zero")) [EX ts]) (key:=(zS "own",zS "zero")) rfl hl (by simp),k2]
   have:B6 B 19 [] (EX ts)≤7:=c.cn
   show([EX ts].map (B6 B 19 [])).sum+_≤_
   simp only[List.map_cons,List.map_nil,List.sum_cons,List.sum_nil]
   omega
  ·rw[e,BW]
  ·rw[e];trivial
  ·rw[e];exact .lf rfl
theorem SQ {ts:List Nat}(ht:∀ t∈ts,t≤3)(hl:ts.length≤5):FO 0 7 (EX ts):=by
 refine .nd ⟨by nofun,rfl⟩ fun f hf=>?_
 have:f=Hb ts∨f=.lf (.nam (zS "m")):=by simpa using hf
 rcases this with rfl | rfl
 ·exact(Mt ht).mono (by omega)
 ·exact .lf ⟨EQ (by nofun),by nofun⟩
theorem Q6 {r1 r2:Int}(h0:0≤r1)(h1:r1<24)(h2:0≤r2)(h3:r2<4):∃ o:Nat,K4 [V.int 24,.int 23,.int 22,.int (1+r1)] r2=some (.int (o:Int))∧1≤o∧o≤24:=by
 have:r2=0∨r2=1∨r2=2∨r2=3:=by omega
 rcases this with rfl | rfl | rfl | rfl
 ·exact⟨24,rfl,by decide,by decide⟩
 ·exact⟨23,rfl,by decide,by decide⟩
 ·exact⟨22,rfl,by decide,by decide⟩
 ·refine⟨(1+r1).toNat,?_,by omega,by omega⟩
  rw[Int.toNat_of_nonneg (by omega)]
  rfl
theorem Q7 {r:Int}(h0:0≤r)(h1:r<6):∃ n:Nat,K4 [V.int 2,.int 3,.int 1,.int 2,.int 0,.int 3] r=some (.int (n:Int))∧n≤3:=by
 have:r=0∨r=1∨r=2∨r=3∨r=4∨r=5:=by omega
 rcases this with rfl | rfl | rfl | rfl | rfl | rfl
 ·exact⟨2,rfl,by decide⟩
 ·exact⟨3,rfl,by decide⟩
 ·exact⟨1,rfl,by decide⟩
 ·exact⟨2,rfl,by decide⟩
 ·exact⟨0,rfl,by decide⟩
 ·exact⟨3,rfl,by decide⟩
theorem Cq.tb {K:PySem.W.Frag}{S:Addr×List Int}{H H':Hp}{p P:Addr}{k:Nat}(h:Cq K S H p k){u:Array Value}(hP:H P=some (.tbl u))(s:KeepX P H H'):Cq K S H' p k:=by
 obtain⟨c,r,e,q,z⟩:=h
 refine⟨c,r,s _ _ (Db e hP (by intro z;cases z)) e,?_,z⟩
 rcases q with(h | ⟨o,h⟩) | h
 ·exact .inl (.inl (s _ _ (Db h hP (by intro z;cases z)) h))
 ·exact .inl (.inr ⟨o,s _ _ (Db h hP (by intro z;cases z)) h⟩)
 ·exact .inr h
def WH (m:Nat):Sp:=fun vs H Q _=>∃(i:Int) (n:Nat) (b:Bool),vs=[.int i,.bl b]∧i=(n:Int)∧1≤n∧n<2 ^ m∧∀(v:V) (H':Hp),Aw H' v (CJ m n b)→AF H H'→Q v H'
abbrev Os:List V:=[vS "value",vS "cell",vS "range",vS "fault"]
def WI (n:Nat):Sp:=fun vs H Q _=>∃(v:V) (T:Fm),vs=[v]∧Aw H v T∧OF n T∧∀ H',AF H H'→Q (.int (BW T:Nat)) H'
def WJ:Sp:=fun vs H Q _=>∃(a:Addr) (ts:List Nat),vs=[.ref a]∧H a=some (.lst (ts.map fun(t:Nat)=>V.int t))∧(∀ t∈ts,t≤3)∧ts.length≤5∧∀(v:V) (H':Hp),Aw H' v (Hb ts.reverse)→AF H H'→Q v H'
def WK:Sp:=fun vs H Q _=>∃(a:Addr) (ts:List Nat) (o:Nat),vs=[.ref a,.int o]∧H a=some (.lst (ts.map fun(t:Nat)=>V.int t))∧(∀ t∈ts,t≤3)∧ts.length≤5∧o≤24∧∀ H',AF H H'→Q (.int (L3 o ts.reverse:Nat)) H'
def WL:Sp:=fun vs H Q _=>∃(b:Addr) (v:V) (zs:List Str) (ns os:List DR) (f:Fm) (s:Nat) (i:Int),vs=[.ref b,v,.int i]∧i=(s:Nat)∧Fh H b zs ns os∧V9 ns os∧KW (Ft ns os) zs∧Aw H v f∧FO 0 8 f∧Oq (Ft ns os) (zS "main") zs 20 24 100 f s∧∀ H',AF H H'→Q (.bl true) H'
theorem UQ {l:Lf}{H:Hp}{a:Addr}(h:Q1 l=true)(hl:GH H a l):∃ w r,H a=some (.tup (.str w::r))∧Ee (.str w) Os=true:=by
 cases l with
 | val v=>obtain⟨q,ha,_⟩:=hl;exact⟨_,_,ha,by nofun⟩
 | cell s c=>obtain⟨q,ha,_⟩:=hl;exact⟨_,_,ha,by nofun⟩
 | rng s c d=>obtain⟨q,u,ha,_⟩:=hl;exact⟨_,_,ha,by nofun⟩
 | flt z=>exact⟨_,_,hl,by nofun⟩
 | cols s i x j y=>cases h
 | gone=>cases h
 | nam z=>cases h
 | par i=>cases h
theorem WM {k:Kd}{m:Nat}(ok:ES k m):Ee (.str (kw k)) Os=false:=by
 cases k with
 | op z=>show Ee (vS "op") Os=false;nofun
 | neg=>show Ee (vS "neg") Os=false;nofun
 | own z=>show Ee (vS "own") Os=false;nofun
 | sumif z=>show Ee (vS "sumif") Os=false;nofun
 | grid a b=>show Ee (vS "grid") Os=false;nofun
 | wd z=>
  have:∀ x∈Gk,Ee (.str x.1) Os=false:=by nofun
  exact this _ ok
theorem Ny:∀ ps:List Fm,((ps.map fun f=>((BW f:Nat):Int)).sum)=((BQ ps:Nat):Int)
 | []=>by rw[BQ];rfl
 | f::fs=>by rw[List.map_cons,List.sum_cons,Ny fs,BQ];omega
theorem ES.ge {k:Kd}{m:Nat}(h:ES k m)(ho:DK k=false):1≤m:=by
 cases k with
 | op z=>have:=h.2;omega
 | neg=>have:m=1:=h;omega
 | own z=>cases ho
 | sumif z=>have:=h.2;omega
 | grid i j=>have:=h.2.2.2.2;omega
 | wd z=>
  have h:(z,m)∈Gk:=h
  have:∀ x∈Gk,1≤x.2:=by nofun
  exact this _ h
theorem UR {k:Kd}{m:Nat}(ok:ES k m):kw k≠zS "fault":=by
 cases k with
 | op z=>show zS "op"≠_;nofun
 | neg=>show zS "neg"≠_;nofun
 | own z=>show zS "own"≠_;nofun
 | sumif z=>show zS "sumif"≠_;nofun
 | grid a b=>show zS "grid"≠_;nofun
 | wd z=>
  have:∀ x∈Gk,x.1≠zS "fault":=by nofun
  exact this _ ok
theorem US {H:Hp}{v:V}{T:Fm}{n:Nat}(hv:Aw H v T)(of:OF n T)(nf:Su T):∃(a:Addr) (w:Str) (y1:V) (r:List V),v=.ref a∧H a=some (.tup (.str w::y1::r))∧w≠zS "fault"∧(BC y1=true∨∃ q xs,y1=.ref q∧H q=some (.tup xs)):=by
 cases hv with
 | @lf a l hl=>
  cases of with
  | lf h=>
  cases l with
  | val v=>
   obtain⟨q,ha,hq⟩:=hl
   refine⟨a,_,_,_,rfl,ha,by nofun,.inr ?_⟩
   cases v with
   | none=>exact⟨q,_,rfl,hq⟩
   | num x y=>exact⟨q,_,rfl,hq⟩
   | txt z=>exact⟨q,_,rfl,hq⟩
   | tru b=>exact⟨q,_,rfl,hq⟩
   | flt w z r c=>obtain⟨q2,e,_⟩:=hq;exact⟨q,_,rfl,e⟩
  | cell s c=>obtain⟨q,ha,_⟩:=hl;exact⟨a,_,_,_,rfl,ha,by nofun,.inl (by cases s <;> rfl)⟩
  | rng s c d=>obtain⟨q,u,ha,_⟩:=hl;exact⟨a,_,_,_,rfl,ha,by nofun,.inl (by cases s <;> rfl)⟩
  | flt z=>exact nf.elim
  | cols s i x j y=>cases h
  | gone=>cases h
  | nam z=>cases h
  | par i=>cases h
 | @nd a t kd us ps ha ht hl hh=>
  cases of with
  | nd ok ho hp=>
  have fm:=Aw.parts hl hh
  obtain⟨r,er2,hit,hfil,hlen⟩:=LY (t:=t) (H:=H) (by rw[hl];exact ok) ho (fun u hu=>by
   obtain⟨j,hj,e⟩:=List.mem_iff_getElem.mp hu
   have e1:us[j]?=some u:=by rw[List.getElem?_eq_getElem hj,e]
   obtain⟨g,_,x⟩:=Au fm e1
   exact x.tup)
  have hge:=ok.ge ho
  cases r with
  | nil=>
   have:us=[]:=hfil.symm
   rw[this]at hl
   rw[← hl]at hge
   exact absurd hge (by simp)
  | cons y1 r=>
   refine⟨a,kw kd,y1,r,rfl,by rw[ha,er2],UR ok,?_⟩
   rcases hit y1 (by simp)with⟨b,ys,e,hb⟩ | ⟨z,e⟩ | ⟨j,e⟩
   ·exact .inr ⟨b,ys,e,hb⟩
   ·exact .inl (by rw[e];rfl)
   ·exact .inl (by rw[e];rfl)
theorem Q8 {o:Nat}(h:o≤24):∀{ts:List Nat},(∀ t∈ts,t≤3)→L3 o ts≤30*4 ^ ts.length
 | [],_=>by show o≤30*4 ^ 0;omega
 | t::ts,ht=>by
  have ih:=Q8 h (ts:=ts) fun t h=>ht t (List.mem_cons_of_mem _ h)
  have:0<4 ^ ts.length:=Nat.pow_pos (by decide)
  rw[List.length_cons,Nat.pow_succ]
  show f4 t (L3 o ts)≤_
  unfold f4
  split
  ·omega
  split
  ·omega
  split
  ·omega
  ·omega
end Fs
open PySem L2 Mx Fs
namespace Fs
def CI (i:Nat):Stmt:=PySem.Challenge.pw_freshsheet_k23_two_hundred_parts.main.body.getD i (.Pass ⟨0,0,0,0⟩)
abbrev Fu:Stmt:=CI 4
abbrev CA:Stmt:=CI 5
abbrev E3:Stmt:=CI 6
abbrev Cu:Stmt:=CI 12
abbrev E4:Stmt:=CI 13
abbrev Gu:Stmt:=CI 14
abbrev CP:Stmt:=CI 20
abbrev CQ:Stmt:=CI 21
abbrev Gv:Stmt:=CI 22
abbrev Cv:Stmt:=CI 23
abbrev Fv:Stmt:=CI 24
abbrev Fw:Stmt:=CI 36
abbrev EY:Stmt:=CI 37
abbrev E5:Stmt:=CI 38
abbrev Du:Stmt:=CI 39
abbrev CS:Stmt:=CI 41
abbrev E6:Stmt:=CI 42
abbrev CB:Stmt:=CI 43
abbrev CC:Stmt:=CI 44
abbrev E7:Stmt:=CI 45
abbrev Cw:Stmt:=CI 46
abbrev DS:Stmt:=CI 47
abbrev E8:Stmt:=CI 48
abbrev Fx:Stmt:=CI 49
abbrev Fy:Stmt:=CI 50
abbrev Gw:Stmt:=CI 51
abbrev EZ:Stmt:=CI 52
abbrev E9:Stmt:=CI 71
abbrev Iz:Stmt:=CI 65
abbrev Ea:Stmt:=CI 74
abbrev Fz:Stmt:=CI 67
abbrev Dv:Stmt:=CI 66
abbrev DT:Stmt:=CI 69
abbrev CT:Stmt:=CI 70
abbrev DU:Stmt:=CI 72
abbrev I0:Stmt:=CI 73
abbrev Cy:Stmt:=CI 75
abbrev FA:Stmt:=CI 76
abbrev FB:Stmt:=CI 77
abbrev F0:Stmt:=CI 78
abbrev CU:Stmt:=CI 79
abbrev Gx:Stmt:=CI 80
abbrev Cz:Stmt:=CI 55
abbrev CD:Stmt:=CI 56
abbrev CV:Stmt:=Dd (CI 57) 0
abbrev BR:Stmt:=Dd (CI 57) 1
abbrev Bl:Stmt:=Dd (CI 57) 2
abbrev B0:Stmt:=Dd (CI 57) 6
abbrev B1:Stmt:=Dd (CI 57) 5
abbrev B2:Stmt:=Dd (CI 57) 4
abbrev DA:Stmt:=Dd (CI 57) 3
abbrev DB:Stmt:=CI 40
abbrev CW:Stmt:=Dd (CI 57) 7
abbrev Gy:Stmt:=CI 58
abbrev F1:Stmt:=CI 82
abbrev FC:Stmt:=CI 83
abbrev FD:Stmt:=CI 84
abbrev DV:Stmt:=CI 85
abbrev Dw:Stmt:=CI 86
abbrev FE:Stmt:=CI 87
abbrev Eb:Stmt:=CI 88
abbrev Q9:Stmt:=CI 89
theorem WN {α:Type}{us:List α}(h:us.length=1):∃ a0,us=[a0]:=match us,h with | [a0],_=>⟨a0,rfl⟩
set_option genInjectivity false in
set_option genSizeOf false in
structure Ad where
 aa:Addr
 ab:FuncData
 ac:Addr
 ad:FuncData
 ae:Addr
 af:FuncData
 ag:Addr
 ah:FuncData
 ai:Addr
 aj:FuncData
 ak:Addr
 al:FuncData
 am:Addr
 an:FuncData
 ao:Addr
 ap:FuncData
 aq:Addr
 ar:FuncData
 au:Addr
 av:FuncData
 aw:Addr
 ax:FuncData
 ay:Addr
 az:FuncData
 a0:Addr
 a1:FuncData
 a2:Addr
 a3:FuncData
 a4:Addr
 a5:FuncData
 a6:Addr
 a7:FuncData
 a8:Addr
 a9:FuncData
 ba:Addr
 bb:FuncData
 bc:Addr
 bd:FuncData
 be:Addr
 bf:FuncData
 bg:Addr
 bh:FuncData
 bi:Addr
 bj:FuncData
 bk:Addr
 bl:FuncData
 bm:Addr
 bn:FuncData
 bo:Addr
 bp:FuncData
 bq:Addr
 br:FuncData
 bs:Addr
 bt:FuncData
 bu:Addr
 bv:FuncData
 bw:Addr
 bx:FuncData
 bz:Addr
 b0:FuncData
 b1:Addr
 b2:FuncData
 b3:Addr
 b4:FuncData
 b5:Addr
 b6:FuncData
 b7:Addr
 b8:FuncData
 b9:Addr
 ca:FuncData
 cb:Addr
 cc:FuncData
 cd:Addr
 ce:FuncData
 cf:Addr
 cg:FuncData
 ch:Addr
 ci:FuncData
 cj:Addr
 ck:FuncData
 cl:Addr
 cm:FuncData
 cn:Addr
 co:FuncData
 cp:Addr
 cq:FuncData
 cr:Addr
 cs:FuncData
 ct:Addr
 cu:FuncData
 cv:Addr
 cw:FuncData
 cx:Addr
 cy:FuncData
 cz:Addr
 c0:FuncData
 c1:Addr
 c2:FuncData
 c3:Addr
 c4:FuncData
 c5:Addr
 c6:FuncData
 c7:Addr
 c8:FuncData
 c9:Addr
 da:FuncData
 db:Addr
 dc:FuncData
 dd:Addr
 de:FuncData
 df:Addr
 dg:FuncData
 dh:Addr
 di:FuncData
 dj:Addr
 dk:FuncData
 dl:Addr
 dm:FuncData
 dn:Addr
 dp:FuncData
 dq:Addr
 dr:FuncData
 ds:Addr
 dt:FuncData
 du:Addr
 e1:Addr
 dw:Addr
structure Txt (w:World)(K:PySem.W.Frag)(mg:Str→Option Value)(t:Ad):Prop where
 dx:Df K mg "is_whole" Fu ["thing"] t.aa t.ab
 dy:Df K mg "greatest_divisor" CA ["one","other"] t.ac t.ad
 dz:Df K mg "is_number" E3 ["top","bottom"] t.ae t.af
 d0:Df K mg "is_sheet_name" Cu ["thing"] t.ag t.ah
 d1:Df K mg "is_within" E4 ["thing","last"] t.ai t.aj
 d2:Df K mg "is_cell" Gu ["thing"] t.ak t.al
 d3:Df K mg "has_few_figures" CP ["thing"] t.am t.an
 d4:Df K mg "is_short_number" CQ ["top","bottom"] t.ao t.ap
 d5:Df K mg "is_text" Gv ["thing"] t.aq t.ar
 d6:Df K mg "is_fault_word" Cv ["thing"] t.au t.av
 d7:Df K mg "is_value" Fv ["thing"] t.aw t.ax
 d8:Df K mg "parts_of" Fw ["formula"] t.ay t.az
 d9:Df K mg "with_parts" EY ["formula","parts"] t.a0 t.a1
 ea:Df K mg "all_parts" E5 ["formula"] t.a2 t.a3
 eb:Df K mg "count_parts" Du ["formula"] t.a4 t.a5
 ec:Df K mg "is_formula_name" CS ["thing"] t.a6 t.a7
 ed:Df K mg "is_one_of" E6 ["thing","texts"] t.a8 t.a9
 ee:Df K mg "is_written_value" CB ["thing"] t.ba t.bb
 ef:Df K mg "is_sheet_or_none" CC ["thing"] t.bc t.bd
 eg:Df K mg "is_corner" E7 ["thing"] t.be t.bf
 eh:Df K mg "is_column_end" Cw ["thing"] t.bg t.bh
 ei:Df K mg "is_reference" DS ["thing"] t.bi t.bj
 ej:Df K mg "is_called" E8 ["thing"] t.bk t.bl
 ek:Df K mg "is_param" Fx ["thing","params"] t.bm t.bn
 el:Df K mg "has_form" Fy ["thing","params"] t.bo t.bp
 em:Df K mg "is_tree" Gw ["thing","params","deep"] t.bq t.br
 en:Df K mg "is_formula" EZ ["thing","params"] t.bs t.bt
 eo:Df K mg "is_cell_pair" E9 ["thing","sheets"] t.bu t.bv
 ep:Df K mg "is_row" Iz ["thing","most"] t.bw t.bx
 eq:Df K mg "are_sheets" Ea ["thing"] t.bz t.b0
 er:Df K mg "is_up_to" Fz ["thing","most"] t.b1 t.b2
 es:Df K mg "is_tuple_of" Dv ["thing","many"] t.b3 t.b4
 et:Df K mg "tells_sheets" DT ["formula"] t.b5 t.b6
 eu:Df K mg "is_book_formula" CT ["thing","params"] t.b7 t.b8
 ev:Df K mg "is_name_pair" DU ["thing"] t.b9 t.ca
 ew:Df K mg "is_own" I0 ["thing"] t.cb t.cc
 ex:Df K mg "has_each_once" Cy ["pairs"] t.cd t.ce
 ey:Df K mg "are_cells" FA ["thing","sheets"] t.cf t.cg
 ez:Df K mg "are_names" FB ["thing"] t.ch t.ci
 e0:Df K mg "are_owns" F0 ["thing"] t.cj t.ck
 e1:Df K mg "sorted_by_first" CU ["pairs"] t.cl t.cm
 e2:Df K mg "book_of" Gx ["sheets","cells","names","owns","rounds"] t.cn t.co
 e3:Df K mg "things_called" Cz ["book"] t.cp t.cq
 e4:Df K mg "range_of_columns" CD ["sheet","first","last"] t.cr t.cs
 e5:Dq K "__init__" "Opener.__init__" CV ["self","book","sheet"] t.ct t.cu
 e6:Dq K "opened_reference" "Opener.opened_reference" BR ["self","formula"] t.cv t.cw
 e7:Dq K "opened_alone" "Opener.opened_alone" Bl ["self","formula"] t.cx t.cy
 e8:Dq K "row_filled" "Opener.row_filled" B0 ["self","row","parts","within"] t.cz t.c0
 e9:Dq K "row_called" "Opener.row_called" B1 ["self","key","within"] t.c1 t.c2
 fa:Dq K "row_put_in" "Opener.row_put_in" B2 ["self","formula","within"] t.c3 t.c4
 fb:Dq K "row_of" "Opener.row_of" DA ["self","formula","within"] t.c5 t.c6
 fc:Df K mg "told_by_parts" DB ["row","tell_one"] t.c7 t.c8
 fd:Dq K "whole_of" "Opener.whole_of" CW ["self","formula"] t.c9 t.da
 fe:Df K mg "open_up" Gy ["book","sheet","formula"] t.db t.dc
 ff:Df K mg "_law_pen" F1 ["_law_script"] t.dd t.de
 fg:Df K mg "_law_next" FC ["_law_pen_here","_law_many"] t.df t.dg
 fh:Df K mg "_law_tree" FD ["_law_many","_law_lost"] t.dh t.di
 fi:Df K mg "_law_counted" DV ["_law_tree_here"] t.dj t.dk
 fj:Df K mg "_law_called" Dw ["_law_ways"] t.dl t.dm
 fk:Df K mg "_law_size" FE ["_law_ways","_law_own"] t.dn t.dp
 fl:Df K mg "_law_right" Eb ["_law_book","_law_formula","_law_due"] t.dq t.dr
 fm:Df K mg "law" Q9 ["_law_script"] t.ds t.dt
 fn:mg "len"=none
 fo:mg "range"=none
 fp:mg "isinstance"=none
 fq:mg "int"=none
 fr:mg "bool"=none
 fs:mg "str"=none
 ft:mg "tuple"=none
 fu:mg "list"=none
 fv:mg "all"=none
 fw:mg "zip"=none
 fx:mg "min"=none
 fy:mg "sorted"=none
 fz:mg "set"=none
 f0:mg "abs"=none
 f1:mg "reversed"=none
 f2:mg "sum"=none
 f3:mg "Opener"=some (.ref t.du)
 f4:Tp mg "LETTERS" (Str.ofString "abcdefghijklmnopqrstuvwxyz")
 f5:Ex mg "LONGEST_NAME" 6
 f6:Ex mg "LAST_ROW" 16
 f7:Ex mg "LAST_COLUMN" 8
 f8:Tp mg "SIGNS" (Str.ofString "abcdefghijklmnopqrstuvwxyz0123456789 ")
 f9:QD K mg "FAULTS" (ER.map V.str)
 ga:Ex mg "MOST_SIGNS" 20
 gb:Ex mg "GREATEST_WHOLE" 999999999999999999999999999999
 gc:Ex mg "MOST_PARTS" 24
 gd:Ex mg "MOST_DEEP" 8
 ge:Ex mg "MOST_OWN_PARTS" 3
 gf:Ex mg "MOST_PARAMS" 3
 gg:Ex mg "GREATEST_WRITTEN" 999999999
 gh:QD K mg "WORDS" Sk
 gi:QD K mg "OP_SIGNS" T3
 gj:QD K mg "SUMIF_SIGNS" Ub
 gk:TW w K mg "LENGTHS" Ob
 gl:VC w K mg "PART_PLACES" WY
 gm:Ex mg "MOST_OPENED" 200
 gn:Ex mg "MOST_SHEETS" 4
 go:Ex mg "MOST_CELLS" 60
 gp:Ex mg "MOST_NAMES" 8
 gq:Ex mg "MOST_OWNS" 6
 gr:Ex mg "MOST_ROUNDS" 4
 gs:PySem.W.kitOne K (.type "NoneType") (.type "int")=some false
 gt:PySem.W.kitOne K (.type "NoneType") (.type "bool")=some false
 gu:PySem.W.kitOne K (.type "NoneType") (.type "str")=some false
 gv:PySem.W.kitOne K (.type "NoneType") (.type "tuple")=some false
 gw:PySem.W.kitOne K (.type "bool") (.type "int")=some true
 gx:PySem.W.kitOne K (.type "bool") (.type "bool")=some true
 gy:PySem.W.kitOne K (.type "bool") (.type "str")=some false
 gz:PySem.W.kitOne K (.type "bool") (.type "tuple")=some false
 g0:PySem.W.kitOne K (.type "int") (.type "int")=some true
 g1:PySem.W.kitOne K (.type "int") (.type "bool")=some false
 g2:PySem.W.kitOne K (.type "int") (.type "str")=some false
 g3:PySem.W.kitOne K (.type "int") (.type "tuple")=some false
 g4:PySem.W.kitOne K (.type "str") (.type "int")=some false
 g5:PySem.W.kitOne K (.type "str") (.type "bool")=some false
 g6:PySem.W.kitOne K (.type "str") (.type "str")=some true
 g7:PySem.W.kitOne K (.type "str") (.type "tuple")=some false
 g8:PySem.W.kitOne K (.type "list") (.type "int")=some false
 g9:PySem.W.kitOne K (.type "list") (.type "bool")=some false
 ha:PySem.W.kitOne K (.type "list") (.type "str")=some false
 hb:PySem.W.kitOne K (.type "list") (.type "tuple")=some false
 hc:PySem.W.kitOne K (.type "dict") (.type "int")=some false
 hd:PySem.W.kitOne K (.type "dict") (.type "bool")=some false
 he:PySem.W.kitOne K (.type "dict") (.type "str")=some false
 hf:PySem.W.kitOne K (.type "dict") (.type "tuple")=some false
 hg:PySem.W.kitOne K (.type "tuple") (.type "int")=some false
 hh:PySem.W.kitOne K (.type "tuple") (.type "bool")=some false
 hi:PySem.W.kitOne K (.type "tuple") (.type "str")=some false
 hj:PySem.W.kitOne K (.type "tuple") (.type "tuple")=some true
 hk:PySem.W.kitOne K (.type "str") (.type "tuple")=some false
 hl:PySem.W.kitOne K (.type "int") (.type "tuple")=some false
 hm:PySem.W.kitOne K (.type "int") (.type "bool")=some false
 hn:t.cm.code=.ref t.e1
 ho:Jz K t.du "opened_reference" t.cv
 hp:Jz K t.du "opened_alone" t.cx
 hq:Jz K t.du "row_filled" t.cz
 hr:Jz K t.du "row_called" t.c1
 hs:Jz K t.du "row_put_in" t.c3
 ht:Jz K t.du "row_of" t.c5
 hu:Jz K t.du "whole_of" t.c9
 hv:RC K t.du
 hw:Mk K t.du t.ct
 hx:Ds K t.du "sheet"
 hy:Ds K t.du "sheets"
 hz:Ds K t.du "called"
 h0:Ds K t.du "known_rows"
theorem UT {w:World}{K:PySem.W.Frag}{mg:Str→Option Value}{t:Ad}(T:Txt w K mg t)(th:Th):PySem.W.kitOne K (.type (Xu th)) (.type "bool")=some (Ez th):=by
 cases th with
 | non=>exact T.gt
 | bl b=>exact T.gx
 | int i=>exact T.g1
 | str z=>exact T.g5
 | lst=>exact T.g9
 | dic=>exact T.hd
 | tup ts=>exact T.hh
def WO (K:PySem.W.Frag)(t:Ad):Sp:=fun vs H Q _=>∃(l:Addr) (r:List Fm) (T:Fm) (ws:List V),vs=[.ref l,.ref t.a0]∧H l=some (.lst ws)∧Ay H ws r∧FY r [T]∧(∀ g∈r,FO 4 8 g)∧ws.length≤200∧∀ x H',Aw H' x T→AF H H'→Q x H'
def YI (K:PySem.W.Frag)(t:Ad):Addr→Sp→Prop:=fun f sp=>f=t.a0∧sp=VT
seal PE PT PW PA PS Ky PI PG UX PF PO PJ FR Ci UZ WS
section
variable {P:Program}{w:World}{K:PySem.W.Frag}{mg:Str→Option Value}{base:Heap}{t:Ad}
theorem Mu:AW ["thing"] ["thing"] (AI Fu):=A4
theorem Dj (T:Txt w K mg t):Ao P w K mg base Bc 1 t.aa t.ab ["thing"] (HZ isInt):=by
 have D:=T.dx
 refine D.fn.okX Mu ?_ (fun cdv A outer s H vs Q E hr h Z hZ=>?_)
 ·rintro _ _ _ _ ⟨v,th,rfl,_⟩
  rfl
 ·obtain⟨v,th,rfl,h,k⟩:=h
  refine hZ ⟨_,((AG (AK (An (AN Aj (by rfl) T.fp Aa (AA (AJ 0) (AA (BN T.fq LT) AB))) (As (Oz (AN Aj (by rfl) T.fp Aa (AA (AJ 0) (AA (BN T.fr ED) AB))))))))),?_⟩
  try dsimp only[cx_K,cx_mg]
  cases id h with
  | non=>
   exact⟨_,rfl,_,_,_,_,false,rfl,h.ty,rfl,(fun _=>.inr trivial),T.gs,false,rfl,AO (k _ (AF.refl _))⟩
  | bl b=>
   refine⟨_,rfl,_,_,_,_,true,rfl,h.ty,rfl,(fun _=>.inr trivial),T.gw,true,rfl,AL ?_⟩
   exact⟨_,rfl,_,_,_,_,true,rfl,h.ty,rfl,(fun _=>.inr trivial),T.gx,true,rfl,k _ (AF.refl _)⟩
  | int i=>
   refine⟨_,rfl,_,_,_,_,true,rfl,h.ty,rfl,(fun _=>.inr trivial),T.g0,true,rfl,AL ?_⟩
   exact⟨_,rfl,_,_,_,_,false,rfl,h.ty,rfl,(fun _=>.inr trivial),T.g1,false,rfl,k _ (AF.refl _)⟩
  | str z hz=>
   exact⟨_,rfl,_,_,_,_,false,rfl,h.ty,rfl,(fun _=>.inr trivial),T.g4,false,rfl,AO (k _ (AF.refl _))⟩
  | @lst a xs e=>
   exact⟨_,rfl,_,_,_,_,false,rfl,h.ty,rfl,(fun _=>.inr trivial),T.g8,false,rfl,AO (k _ (AF.refl _))⟩
  | @dic a kvs e=>
   exact⟨_,rfl,_,_,_,_,false,rfl,h.ty,rfl,(fun _=>.inr trivial),T.hc,false,rfl,AO (k _ (AF.refl _))⟩
  | @tup a us ts e hn hh=>
   exact⟨_,rfl,_,_,_,_,false,rfl,h.ty,rfl,(fun _=>.inr trivial),T.hg,false,rfl,AO (k _ (AF.refl _))⟩
theorem A8:AW ["one","other","greater","lesser","rest"] ["one","other"] (AI CA):=A4
theorem FZ (T:Txt w K mg t):Ao P w K mg base Bc 1 t.ac t.ad ["one","other"] XF:=by
 have D:=T.dy
 refine D.fn.okX A8 ?_ (fun cdv A outer s H vs Q E hr h Z hZ=>?_)
 ·rintro _ _ _ _ ⟨a,b,rfl,_⟩
  rfl
 ·obtain⟨a,b,rfl,k⟩:=h
  refine hZ ⟨_,((AE (Ag (i:=2) A8.nd rfl (Or.inl rfl) (AN IK (by rfl) T.f0 IX (AA (AJ 0) AB)))
   (AE (Ag (i:=3) A8.nd rfl (Or.inl rfl) (AN IK (by rfl) T.f0 IX (AA (AJ 1) AB)))
   (AE (Kz PassesOwn.never (AV II (AJ 3) AD (AQ _)) (AE (Ag (i:=4) A8.nd rfl (Or.inl rfl) (Ar Dr (AJ 2) (AJ 3)))
   (AE (Ag (i:=2) A8.nd rfl (Or.inl rfl) (AJ 3))
   (AG (Ag (i:=3) A8.nd rfl (Or.inl rfl) (AJ 4))))))
   (AG (AK (AJ 2))))))),?_⟩
  try dsimp only[cx_K,cx_mg]
  refine⟨_,rfl,a,rfl,_,rfl,b,rfl,?_⟩
  refine O2 (fun σ H'=>H'=H∧∃(m n:Nat) (r:Option V),σ=[some (.int a),some (.int b),some (.int m),some (.int n),r]∧Nat.gcd m n=Nat.gcd a.natAbs b.natAbs)
   (fun σ _=>VQ σ) ⟨rfl,a.natAbs,b.natAbs,none,by rw[← P8 a,← P8 b];rfl,rfl⟩ ?_ (fun σ H Q Q' hq ⟨v,e,z,c,e2,q⟩=>⟨v,e,z,c,e2,hq _ _ q⟩)
  rintro σ H' ⟨rfl,m,n,r,rfl,hg⟩
  refine⟨_,rfl,rfl,_,rfl,?_⟩
  refine J6 (fun hc=>?_) (fun hc=>?_)
  ·have hn:n≠0:=by intro z;subst z;simp at hc
   refine⟨_,rfl,_,rfl,_,_,rfl,rfl,(by show(0:Int)<(n:Int);omega),_,rfl,_,rfl,?_⟩
   refine⟨⟨rfl,n,m%n,some (.int ((m:Int)%(n:Int))),?_,by rw[P7];exact hg⟩,?_⟩
   ·rw[Int.natCast_emod];rfl
   ·show((m:Int)%(n:Int)).toNat<((n:Int)).toNat
    have h1:=Int.emod_lt_of_pos (m:Int) (show(0:Int)<n by omega)
    have h2:=Int.emod_nonneg (m:Int) (show(n:Int)≠0 by omega)
    omega
  ·have hn:n=0:=by
    rcases Nat.eq_zero_or_pos n with z | z
    ·exact z
    ·exfalso;apply hc;simp;omega
   subst hn
   rw[Nat.gcd_zero_right]at hg
   rw[← hg]at k
   exact⟨_,rfl,k⟩
theorem Lq:AW ["top","bottom"] ["top","bottom"] (AI E3):=A4
theorem Kg (T:Txt w K mg t):Ao P w K mg base Bc 2 t.ae t.af ["top","bottom"] XJ:=by
 have D:=T.dz
 refine D.fn.okX Lq ?_ (fun cdv A outer s H vs Q E hr h Z hZ=>?_)
 ·rintro _ _ _ _ ⟨t,b,rfl,_⟩
  rfl
 ·obtain⟨t,b,rfl,k⟩:=h
  refine hZ ⟨_,((AG (AK (An (Al Uw (AJ 1) AD (AQ _)) (As (Al Aq (AZ T.dy (FZ T) (Bd hr) (AA (AJ 0) (AA (AJ 1) AB))) AD (AQ _))))))),?_⟩
  try dsimp only[cx_K,cx_mg]
  refine⟨_,rfl,_,_,rfl,rfl,_,rfl,?_⟩
  by_cases hb:1≤b
  ·rw[decide_eq_true hb]
   refine AL ⟨_,rfl,_,rfl,t,b,rfl,rfl,?_⟩
   have k:Q (.bl (decide (1≤b)&&decide (V.int ((Nat.gcd t.natAbs b.natAbs:Nat):Int)=V.int 1))) H:=k
   rw[decide_eq_true hb,Bool.true_and]at k
   exact k
  ·rw[decide_eq_false hb]
   refine AO ?_
   have k:Q (.bl (decide (1≤b)&&decide (V.int ((Nat.gcd t.natAbs b.natAbs:Nat):Int)=V.int 1))) H:=k
   rw[decide_eq_false hb,Bool.false_and]at k
   exact k
theorem Hc:AW ["thing"] ["thing"] (AI Cu):=A4
theorem Bx (T:Txt w K mg t):Ao P w K mg base Bc 1 t.ag t.ah ["thing"] (HZ DL):=by
 have D:=T.d0
 refine D.fn.okX Hc ?_ (fun cdv A outer s H vs Q E hr h Z hZ=>?_)
 ·rintro _ _ _ _ ⟨v,th,rfl,_⟩
  rfl
 ·obtain⟨v,th,rfl,h,k⟩:=h
  refine hZ ⟨_,((AE (Ak (Be (A2 (Az (AN Aj (by rfl) T.fp Aa (AA (AJ 0) (AA (BN T.fs EE) AB))))) (Be (AV O4 (AN EM (by rfl) T.fn PySem.boot_len (AA (AJ 0) AB)) AD (AQ _)) (Bf (AV K0 (AN EM (by rfl) T.fn PySem.boot_len (AA (AJ 0) AB)) (A1 T.f5) (AQ _))))).pt (AG (AK BJ)) AY)
   (AG (AK (AN (Cj rfl) (by rfl) T.fv Cl (CM (B7 (fv:=[]) (js:=[]) (cl:=[]) rfl (by with_unfolding_all rfl) ⟨rfl,by nofun,by nofun,rfl,by nofun,by nofun,(List.forall_mem_nil _),(List.forall_mem_nil _),.nil⟩ (PR (AJ 0)) (fun _ _ _ _ _=>Cp) (fun _ _ _ _ _=>(Al QA (AJ 0) (Nd T.f4) rfl))) AB)))))),?_⟩
  try dsimp only[cx_K,cx_mg]
  cases id h with
  | non=>
   exact⟨_,rfl,_,_,_,_,false,rfl,h.ty,rfl,(fun _=>.inr trivial),T.gu,false,rfl,AL (AL (k _ (AF.refl _)))⟩
  | bl b=>
   exact⟨_,rfl,_,_,_,_,false,rfl,h.ty,rfl,(fun _=>.inr trivial),T.gy,false,rfl,AL (AL (k _ (AF.refl _)))⟩
  | int i=>
   exact⟨_,rfl,_,_,_,_,false,rfl,h.ty,rfl,(fun _=>.inr trivial),T.g2,false,rfl,AL (AL (k _ (AF.refl _)))⟩
  | str z hz=>
   have hzz:z.length≤sizeLine:=QB hz
   refine⟨_,rfl,_,_,_,_,true,rfl,h.ty,rfl,(fun _=>.inr trivial),T.g6,true,rfl,AO ?_⟩
   refine⟨_,rfl,z,rfl,hzz,_,_,rfl,rfl,_,rfl,?_⟩
   by_cases c0:(z.length:Int)<1
   ·rw[decide_eq_true c0]
    refine AL (AL (IY ?_ (k _ (AF.refl _))))
    unfold DL
    simp only[decide_eq_true c0,Bool.not_true,Bool.not_false,Bool.true_and,Bool.false_and]
   rw[decide_eq_false c0]
   refine AO ?_
   refine⟨_,rfl,z,rfl,hzz,_,_,rfl,rfl,_,rfl,?_⟩
   by_cases c1:(6:Int)<(z.length:Int)
   ·rw[decide_eq_true c1]
    refine AL (IY ?_ (k _ (AF.refl _)))
    unfold DL
    simp only[decide_eq_false c0,decide_eq_true c1,Bool.not_true,Bool.not_false,Bool.true_and,Bool.false_and]
   rw[decide_eq_false c1]
   refine AO ?_
   refine⟨_,rfl,z,rfl,fun D hD=>?_⟩
   obtain⟨W,w0,turn⟩:=IZ (z:=z) (Str.ofString "abcdefghijklmnopqrstuvwxyz") hz hD
   refine⟨W,w0,fun i m' H' w'=>?_⟩
   rcases turn i m' H' w' with⟨st,rfl⟩ | h
   case inr=>exact .inr ⟨h.1,fun x H2 y=>h.2 _ _ x H2 y⟩
   refine .inl ⟨st,?_⟩
   refine⟨D,_,rfl,At.of AC,IY ?_ (k _ (AF.new hD))⟩
   unfold DL
   simp only[decide_eq_false c0,decide_eq_false c1,Bool.not_false,Bool.true_and,ET]
  | @lst a xs e=>
   exact⟨_,rfl,_,_,_,_,false,rfl,h.ty,rfl,(fun _=>.inr trivial),T.ha,false,rfl,AL (AL (k _ (AF.refl _)))⟩
  | @dic a kvs e=>
   exact⟨_,rfl,_,_,_,_,false,rfl,h.ty,rfl,(fun _=>.inr trivial),T.he,false,rfl,AL (AL (k _ (AF.refl _)))⟩
  | @tup a us ts e hn hh=>
   exact⟨_,rfl,_,_,_,_,false,rfl,h.ty,rfl,(fun _=>.inr trivial),T.hi,false,rfl,AL (AL (k _ (AF.refl _)))⟩
theorem Lr:AW ["thing","last"] ["thing","last"] (AI E4):=A4
theorem Bi (T:Txt w K mg t):Ao P w K mg base Bc 2 t.ai t.aj ["thing","last"] XI:=by
 have D:=T.d1
 refine D.fn.okX Lr ?_ (fun cdv A outer s H vs Q E hr h Z hZ=>?_)
 ·rintro _ _ _ _ ⟨v,th,l,rfl,_⟩
  rfl
 ·obtain⟨v,th,l,rfl,h,k⟩:=h
  refine hZ ⟨_,((AG (AK (An (AZ T.dx (Dj T) (Bd hr) (AA (AJ 0) AB)) (An (Al DC AD (AJ 0) (AQ _)) (As (Al DC (AJ 0) (AJ 1) (AQ _)))))))),?_⟩
  try dsimp only[cx_K,cx_mg]
  cases id h with
  | non=>
   exact⟨_,rfl,_,_,rfl,h,fun H1 s1=>⟨false,rfl,AO (k _ s1)⟩⟩
  | bl b=>
   exact⟨_,rfl,_,_,rfl,h,fun H1 s1=>⟨false,rfl,AO (k _ s1)⟩⟩
  | int i=>
   refine⟨_,rfl,_,_,rfl,h,fun H1 s1=>⟨true,rfl,AL ?_⟩⟩
   refine⟨_,rfl,_,_,rfl,rfl,_,rfl,?_⟩
   have k':Q (.bl (decide (1≤i)&&decide (i≤l))) H1:=k H1 s1
   by_cases c:1≤i
   ·rw[decide_eq_true c]at k' ⊢
    rw[Bool.true_and]at k'
    exact AL ⟨_,rfl,_,rfl,_,_,rfl,rfl,k'⟩
   ·rw[decide_eq_false c]at k' ⊢
    rw[Bool.false_and]at k'
    exact AO k'
  | str z hz=>
   exact⟨_,rfl,_,_,rfl,h,fun H1 s1=>⟨false,rfl,AO (k _ s1)⟩⟩
  | @lst a xs e=>
   exact⟨_,rfl,_,_,rfl,h,fun H1 s1=>⟨false,rfl,AO (k _ s1)⟩⟩
  | @dic a kvs e=>
   exact⟨_,rfl,_,_,rfl,h,fun H1 s1=>⟨false,rfl,AO (k _ s1)⟩⟩
  | @tup a us ts e hn hh=>
   exact⟨_,rfl,_,_,rfl,h,fun H1 s1=>⟨false,rfl,AO (k _ s1)⟩⟩
theorem Ot:AW ["thing"] ["thing"] (AI Gu):=A4
theorem Mv (T:Txt w K mg t):Ao P w K mg base Bc 3 t.ak t.al ["thing"] (HZ Js):=by
 have D:=T.d2
 refine D.fn.okX Ot ?_ (fun cdv A outer s H vs Q E hr h Z hZ=>?_)
 ·rintro _ _ _ _ ⟨v,th,rfl,_⟩
  rfl
 ·obtain⟨v,th,rfl,h,k⟩:=h
  refine hZ ⟨_,((AE (Ak (Be (A2 (Az (AN Aj (by rfl) T.fp Aa (AA (AJ 0) (AA (BN T.ft A0) AB))))) (Bf (AV II (AN Ab (by rfl) T.fn PySem.boot_len (AA (AJ 0) AB)) AD (AQ _)))).pt (AG (AK BJ)) AY)
   (AG (AK (An (AZ T.d0 (Bx T) (Bd hr) (AT (AU AM (AJ 0) AD (fun _ _=>rfl)) AB)) (An (AZ T.d1 (Bi T) (Bd hr) (AT (AU AM (AJ 0) AD (fun _ _=>rfl)) (AA (A1 T.f6) AB))) (As (AZ T.d1 (Bi T) (Bd hr) (AT (AU AM (AJ 0) AD (fun _ _=>rfl)) (AA (A1 T.f7) AB)))))))))),?_⟩
  try dsimp only[cx_K,cx_mg]
  cases id h with
  | non=>
   exact⟨_,rfl,_,_,_,_,false,rfl,h.ty,rfl,(fun _=>.inr trivial),T.gv,false,rfl,AL (AL (k _ (AF.refl _)))⟩
  | bl b=>
   exact⟨_,rfl,_,_,_,_,false,rfl,h.ty,rfl,(fun _=>.inr trivial),T.gz,false,rfl,AL (AL (k _ (AF.refl _)))⟩
  | int i=>
   exact⟨_,rfl,_,_,_,_,false,rfl,h.ty,rfl,(fun _=>.inr trivial),T.g3,false,rfl,AL (AL (k _ (AF.refl _)))⟩
  | str z hz=>
   exact⟨_,rfl,_,_,_,_,false,rfl,h.ty,rfl,(fun _=>.inr trivial),T.g7,false,rfl,AL (AL (k _ (AF.refl _)))⟩
  | @lst a xs e=>
   exact⟨_,rfl,_,_,_,_,false,rfl,h.ty,rfl,(fun _=>.inr trivial),T.hb,false,rfl,AL (AL (k _ (AF.refl _)))⟩
  | @dic a kvs e=>
   exact⟨_,rfl,_,_,_,_,false,rfl,h.ty,rfl,(fun _=>.inr trivial),T.hf,false,rfl,AL (AL (k _ (AF.refl _)))⟩
  | @tup a us ts e hn hh=>
   have p:=BB.toP hn hh
   refine⟨_,rfl,_,_,_,_,true,rfl,h.ty,rfl,(fun _=>.inr trivial),T.hj,true,rfl,AO ?_⟩
   by_cases hl:us.length=3
   ·refine⟨_,rfl,a,_,rfl,.inr (Ae.of e),rfl,false,Ng (by omega),AO ?_⟩
    obtain⟨u0,u1,u2,rfl⟩:∃ u0 u1 u2,us=[u0,u1,u2]:=by
     match us,hl with
     | [u0,u1,u2],_=>exact⟨u0,u1,u2,rfl⟩
    cases p with | cons p0 p=>cases p with | cons p1 p=>cases p with | cons p2 p=>cases p with | nil=>
    rename_i t0 t1 t2
    have k:∀ H',AF H H'→Q (.bl (DL t0&&BF 16 t1&&BF 8 t2)) H':=k
    refine⟨_,rfl,a,_,_,_,rfl,rfl,Ae.of e,rfl,u0,t0,rfl,p0,fun H1 s1=>⟨_,rfl,?_⟩⟩
    cases e0:DL t0 with
    | false=>rw[e0]at k;exact AO (k _ s1)
    | true=>
     refine AL ⟨_,rfl,a,_,_,_,rfl,rfl,Ae.of (s1 _ _ e),rfl,u1,t1,16,rfl,p1.same s1,fun H2 s2=>⟨_,rfl,?_⟩⟩
     cases e1:BF 16 t1 with
     | false=>rw[e0,e1]at k;exact AO (k _ (s1.trans s2))
     | true=>
      rw[e0,e1]at k
      exact AL ⟨_,rfl,a,_,_,_,rfl,rfl,Ae.of (s2 _ _ (s1 _ _ e)),rfl,u2,t2,8,rfl,(p2.same s1).same s2,fun H3 s3=>k _ ((s1.trans s2).trans s3)⟩
   ·refine⟨_,rfl,a,_,rfl,.inr (Ae.of e),rfl,true,Nh (by omega),AL (IY ?_ (k _ (AF.refl _)))⟩
    rw[Oa (by rw[← hn];exact hl)]
theorem GM:AW ["thing"] ["thing"] (AI CP):=A4
theorem DW (T:Txt w K mg t):Ao P w K mg base Bc 2 t.am t.an ["thing"] (HZ Id):=by
 have D:=T.d3
 refine D.fn.okX GM ?_ (fun cdv A outer s H vs Q E hr h Z hZ=>?_)
 ·rintro _ _ _ _ ⟨v,th,rfl,_⟩
  rfl
 ·obtain⟨v,th,rfl,h,k⟩:=h
  refine hZ ⟨_,((AG (AK (An (AZ T.dx (Dj T) (Bd hr) (AA (AJ 0) AB)) (As (Al DC (AN IK (by rfl) T.f0 IX (AA (AJ 0) AB)) (A1 T.gb) (AQ _))))))),?_⟩
  try dsimp only[cx_K,cx_mg]
  cases id h with
  | non=>
   exact⟨_,rfl,_,_,rfl,h,fun H1 s1=>⟨false,rfl,AO (k _ s1)⟩⟩
  | bl b=>
   exact⟨_,rfl,_,_,rfl,h,fun H1 s1=>⟨false,rfl,AO (k _ s1)⟩⟩
  | int i=>
   refine⟨_,rfl,_,_,rfl,h,fun H1 s1=>⟨true,rfl,AL ?_⟩⟩
   exact⟨_,rfl,i,rfl,_,_,rfl,rfl,k _ s1⟩
  | str z hz=>
   exact⟨_,rfl,_,_,rfl,h,fun H1 s1=>⟨false,rfl,AO (k _ s1)⟩⟩
  | @lst a xs e=>
   exact⟨_,rfl,_,_,rfl,h,fun H1 s1=>⟨false,rfl,AO (k _ s1)⟩⟩
  | @dic a kvs e=>
   exact⟨_,rfl,_,_,rfl,h,fun H1 s1=>⟨false,rfl,AO (k _ s1)⟩⟩
  | @tup a us ts e hn hh=>
   exact⟨_,rfl,_,_,rfl,h,fun H1 s1=>⟨false,rfl,AO (k _ s1)⟩⟩
theorem GN:AW ["top","bottom"] ["top","bottom"] (AI CQ):=A4
theorem F2 (T:Txt w K mg t):Ao P w K mg base Bc 3 t.ao t.ap ["top","bottom"] (XH KO):=by
 have D:=T.d4
 refine D.fn.okX GN ?_ (fun cdv A outer s H vs Q E hr h Z hZ=>?_)
 ·rintro _ _ _ _ ⟨v,u,th,tu,rfl,_⟩
  rfl
 ·obtain⟨v,u,th,tu,rfl,h,g,k⟩:=h
  refine hZ ⟨_,((AG (AK (An (AZ T.d3 (DW T) (Bd hr) (AA (AJ 0) AB)) (An (AZ T.d3 (DW T) (Bd hr) (AA (AJ 1) AB)) (As (AZ T.dz (Kg T) (Bd hr) (AA (AJ 0) (AA (AJ 1) AB))))))))),?_⟩
  try dsimp only[cx_K,cx_mg]
  refine⟨_,rfl,v,th,rfl,h,fun H1 s1=>⟨_,rfl,?_⟩⟩
  unfold KO at k
  cases e1:Id th with
  | false=>rw[e1]at k;exact AO (k _ s1)
  | true=>
   refine AL ⟨_,rfl,u,tu,rfl,g.same s1,fun H2 s2=>⟨_,rfl,?_⟩⟩
   cases e2:Id tu with
   | false=>rw[e1,e2]at k;exact AO (k _ (s1.trans s2))
   | true=>
    rw[e1,e2]at k
    refine AL ?_
    cases th with
    | int x=>
     cases tu with
     | int y=>
      cases h
      cases g
      exact⟨_,rfl,_,rfl,x,y,rfl,k _ (s1.trans s2)⟩
     | _=>exact absurd (show false=true from e2) Bool.false_ne_true
    | _=>exact absurd (show false=true from e1) Bool.false_ne_true
theorem Ou:AW ["thing"] ["thing"] (AI Gv):=A4
theorem Mw (T:Txt w K mg t):Ao P w K mg base Bc 1 t.aq t.ar ["thing"] (HZ LZ):=by
 have D:=T.d5
 refine D.fn.okX Ou ?_ (fun cdv A outer s H vs Q E hr h Z hZ=>?_)
 ·rintro _ _ _ _ ⟨v,th,rfl,_⟩
  rfl
 ·obtain⟨v,th,rfl,h,k⟩:=h
  refine hZ ⟨_,((AE (Ak (Be (A2 (Az (AN Aj (by rfl) T.fp Aa (AA (AJ 0) (AA (BN T.fs EE) AB))))) (Bf (AV K0 (AN EM (by rfl) T.fn PySem.boot_len (AA (AJ 0) AB)) (A1 T.ga) (AQ _)))).pt (AG (AK BJ)) AY)
   (AG (AK (AN (Cj rfl) (by rfl) T.fv Cl (CM (B7 (fv:=[]) (js:=[]) (cl:=[]) rfl (by with_unfolding_all rfl) ⟨rfl,by nofun,by nofun,rfl,by nofun,by nofun,(List.forall_mem_nil _),(List.forall_mem_nil _),.nil⟩ (PR (AJ 0)) (fun _ _ _ _ _=>Cp) (fun _ _ _ _ _=>(Al QA (AJ 0) (Nd T.f8) rfl))) AB)))))),?_⟩
  try dsimp only[cx_K,cx_mg]
  cases id h with
  | non=>
   exact⟨_,rfl,_,_,_,_,false,rfl,h.ty,rfl,(fun _=>.inr trivial),T.gu,false,rfl,AL (AL (k _ (AF.refl _)))⟩
  | bl b=>
   exact⟨_,rfl,_,_,_,_,false,rfl,h.ty,rfl,(fun _=>.inr trivial),T.gy,false,rfl,AL (AL (k _ (AF.refl _)))⟩
  | int i=>
   exact⟨_,rfl,_,_,_,_,false,rfl,h.ty,rfl,(fun _=>.inr trivial),T.g2,false,rfl,AL (AL (k _ (AF.refl _)))⟩
  | str z hz=>
   have hzz:z.length≤sizeLine:=QB hz
   refine⟨_,rfl,_,_,_,_,true,rfl,h.ty,rfl,(fun _=>.inr trivial),T.g6,true,rfl,AO ?_⟩
   refine⟨_,rfl,z,rfl,hzz,_,_,rfl,rfl,_,rfl,?_⟩
   by_cases c0:(20:Int)<(z.length:Int)
   ·rw[decide_eq_true c0]
    refine AL (IY ?_ (k _ (AF.refl _)))
    unfold LZ
    simp only[decide_eq_true c0,Bool.not_true,Bool.not_false,Bool.true_and,Bool.false_and]
   rw[decide_eq_false c0]
   refine AO ?_
   refine⟨_,rfl,z,rfl,fun D hD=>?_⟩
   obtain⟨W,w0,turn⟩:=IZ (z:=z) (Str.ofString "abcdefghijklmnopqrstuvwxyz0123456789 ") hz hD
   refine⟨W,w0,fun i m' H' w'=>?_⟩
   rcases turn i m' H' w' with⟨st,rfl⟩ | h
   case inr=>exact .inr ⟨h.1,fun x H2 y=>h.2 _ _ x H2 y⟩
   refine .inl ⟨st,?_⟩
   refine⟨D,_,rfl,At.of AC,IY ?_ (k _ (AF.new hD))⟩
   unfold LZ
   simp only[decide_eq_false c0,Bool.not_false,Bool.true_and,ET]
  | @lst a xs e=>
   exact⟨_,rfl,_,_,_,_,false,rfl,h.ty,rfl,(fun _=>.inr trivial),T.ha,false,rfl,AL (AL (k _ (AF.refl _)))⟩
  | @dic a kvs e=>
   exact⟨_,rfl,_,_,_,_,false,rfl,h.ty,rfl,(fun _=>.inr trivial),T.he,false,rfl,AL (AL (k _ (AF.refl _)))⟩
  | @tup a us ts e hn hh=>
   exact⟨_,rfl,_,_,_,_,false,rfl,h.ty,rfl,(fun _=>.inr trivial),T.hi,false,rfl,AL (AL (k _ (AF.refl _)))⟩
theorem Hd:AW ["thing"] ["thing"] (AI Cv):=A4
theorem Gz (T:Txt w K mg t):Ao P w K mg base Bc 1 t.au t.av ["thing"] (HZ La):=by
 have D:=T.d6
 refine D.fn.okX Hd ?_ (fun cdv A outer s H vs Q E hr h Z hZ=>?_)
 ·rintro _ _ _ _ ⟨v,th,rfl,_⟩
  rfl
 ·obtain⟨v,th,rfl,h,k⟩:=h
  refine hZ ⟨_,((AG (AK (An (AN Aj (by rfl) T.fp Aa (AA (AJ 0) (AA (BN T.fs EE) AB))) (As (Al FM (AJ 0) (Hv T.f9) rfl)))))),?_⟩
  try dsimp only[cx_K,cx_mg]
  cases id h with
  | non=>
   exact⟨_,rfl,_,_,_,_,false,rfl,h.ty,rfl,(fun _=>.inr trivial),T.gu,false,rfl,AO (k _ (AF.refl _))⟩
  | bl b=>
   exact⟨_,rfl,_,_,_,_,false,rfl,h.ty,rfl,(fun _=>.inr trivial),T.gy,false,rfl,AO (k _ (AF.refl _))⟩
  | int i=>
   exact⟨_,rfl,_,_,_,_,false,rfl,h.ty,rfl,(fun _=>.inr trivial),T.g2,false,rfl,AO (k _ (AF.refl _))⟩
  | str z hz=>
   refine⟨_,rfl,_,_,_,_,true,rfl,h.ty,rfl,(fun _=>.inr trivial),T.g6,true,rfl,AL ?_⟩
   exact⟨_,rfl,fun a ha=>⟨a,_,rfl,.inr (ha _),rfl,LV,k _ (AF.refl _)⟩⟩
  | @lst a xs e=>
   exact⟨_,rfl,_,_,_,_,false,rfl,h.ty,rfl,(fun _=>.inr trivial),T.ha,false,rfl,AO (k _ (AF.refl _))⟩
  | @dic a kvs e=>
   exact⟨_,rfl,_,_,_,_,false,rfl,h.ty,rfl,(fun _=>.inr trivial),T.he,false,rfl,AO (k _ (AF.refl _))⟩
  | @tup a us ts e hn hh=>
   exact⟨_,rfl,_,_,_,_,false,rfl,h.ty,rfl,(fun _=>.inr trivial),T.hi,false,rfl,AO (k _ (AF.refl _))⟩
theorem JA:AW ["thing","kind"] ["thing"] (AI Fv):=A4
theorem Ls (T:Txt w K mg t):Ao P w K mg base Bc 4 t.aw t.ax ["thing"] (HZ Gn):=by
 have D:=T.d7
 refine D.fn.okX JA ?_ (fun cdv A outer s H vs Q E hr h Z hZ=>?_)
 ·rintro _ _ _ _ ⟨v,th,rfl,_⟩
  rfl
 ·obtain⟨v,th,rfl,h,k⟩:=h
  refine hZ ⟨_,((AE (Ak (Be (A2 (Az (AN Aj (by rfl) T.fp Aa (AA (AJ 0) (AA (BN T.ft A0) AB))))) (Be (AV Aq (AN Ab (by rfl) T.fn PySem.boot_len (AA (AJ 0) AB)) AD (AQ _)) (Bf (A2 (Az (AN Aj (by rfl) T.fp Aa (AT (AU AM (AJ 0) AD (fun _ _=>rfl)) (AA (BN T.fs EE) AB)))))))).pt (AG (AK BJ)) AY)
   (AE (Ag (i:=1) JA.nd rfl (Or.inl rfl) (AU AM (AJ 0) AD (fun _ _=>rfl)))
   (AE (Ak (AV Aq (AJ 1) AS (AQ _)) (AG (AK (Al Aq (AN Ab (by rfl) T.fn PySem.boot_len (AA (AJ 0) AB)) AD (AQ _)))) AY)
   (AE (Ak (AV Aq (AJ 1) AS (AQ _)) (AG (AK (An (Al Aq (AN Ab (by rfl) T.fn PySem.boot_len (AA (AJ 0) AB)) AD (AQ _)) (As (AZ T.d4 (F2 T) (Bd hr) (AT (AU AM (AJ 0) AD (fun _ _=>rfl)) (AT (AU AM (AJ 0) AD (fun _ _=>rfl)) AB))))))) AY)
   (AE (Ak (AV Aq (AJ 1) AS (AQ _)) (AG (AK (An (Al Aq (AN Ab (by rfl) T.fn PySem.boot_len (AA (AJ 0) AB)) AD (AQ _)) (As (AZ T.d5 (Mw T) (Bd hr) (AT (AU AM (AJ 0) AD (fun _ _=>rfl)) AB)))))) AY)
   (AE (Ak (AV Aq (AJ 1) AS (AQ _)) (AG (AK (An (Al Aq (AN Ab (by rfl) T.fn PySem.boot_len (AA (AJ 0) AB)) AD (AQ _)) (As (AN Aj (by rfl) T.fp Aa (AT (AU AM (AJ 0) AD (fun _ _=>rfl)) (AA (BN T.fr ED) AB))))))) AY)
   (AE (Ak (AV Aq (AJ 1) AS (AQ _)) (AG (AK (An (Al Aq (AN Ab (by rfl) T.fn PySem.boot_len (AA (AJ 0) AB)) AD (AQ _)) (An (AZ T.d6 (Gz T) (Bd hr) (AT (AU AM (AJ 0) AD (fun _ _=>rfl)) AB)) (As (AZ T.d2 (Mv T) (Bd hr) (AT (AU AM (AJ 0) AD (fun _ _=>rfl)) AB))))))) AY)
   (AG (AK BJ)))))))))),?_⟩
  try dsimp only[cx_K,cx_mg]
  cases id h with
  | non=>
   exact⟨_,rfl,_,_,_,_,false,rfl,h.ty,rfl,(fun _=>.inr trivial),T.gv,false,rfl,AL (AL (k _ (AF.refl _)))⟩
  | bl b=>
   exact⟨_,rfl,_,_,_,_,false,rfl,h.ty,rfl,(fun _=>.inr trivial),T.gz,false,rfl,AL (AL (k _ (AF.refl _)))⟩
  | int i=>
   exact⟨_,rfl,_,_,_,_,false,rfl,h.ty,rfl,(fun _=>.inr trivial),T.g3,false,rfl,AL (AL (k _ (AF.refl _)))⟩
  | str z hz=>
   exact⟨_,rfl,_,_,_,_,false,rfl,h.ty,rfl,(fun _=>.inr trivial),T.g7,false,rfl,AL (AL (k _ (AF.refl _)))⟩
  | @lst a xs e=>
   exact⟨_,rfl,_,_,_,_,false,rfl,h.ty,rfl,(fun _=>.inr trivial),T.hb,false,rfl,AL (AL (k _ (AF.refl _)))⟩
  | @dic a kvs e=>
   exact⟨_,rfl,_,_,_,_,false,rfl,h.ty,rfl,(fun _=>.inr trivial),T.hf,false,rfl,AL (AL (k _ (AF.refl _)))⟩
  | @tup a us ts e hn hh=>
   have p:=BB.toP hn hh
   refine⟨_,rfl,_,_,_,_,true,rfl,h.ty,rfl,(fun _=>.inr trivial),T.hj,true,rfl,AO ?_⟩
   cases p with
   | nil=>exact⟨_,rfl,a,_,rfl,.inr (Ae.of e),rfl,true,Md rfl,AL (AL (k _ (AF.refl _)))⟩
   | cons p0 p=>
    rename_i u0 t0 us ts
    have hlen:us.length=ts.length:=Paired.length p
    refine⟨_,rfl,a,_,rfl,.inr (Ae.of e),rfl,false,Go (by simp only[List.length_cons];omega),AO ?_⟩
    cases id p0 with
    | non=>
     exact⟨_,rfl,a,_,_,_,rfl,rfl,Ae.of e,BZ (j:=0) rfl,_,_,_,_,false,rfl,p0.ty,rfl,(fun _=>.inr trivial),T.gu,false,rfl,AL (k _ (AF.refl _))⟩
    | bl b=>
     exact⟨_,rfl,a,_,_,_,rfl,rfl,Ae.of e,BZ (j:=0) rfl,_,_,_,_,false,rfl,p0.ty,rfl,(fun _=>.inr trivial),T.gy,false,rfl,AL (k _ (AF.refl _))⟩
    | int i=>
     exact⟨_,rfl,a,_,_,_,rfl,rfl,Ae.of e,BZ (j:=0) rfl,_,_,_,_,false,rfl,p0.ty,rfl,(fun _=>.inr trivial),T.g2,false,rfl,AL (k _ (AF.refl _))⟩
    | str z hz=>
     refine⟨_,rfl,a,_,_,_,rfl,rfl,Ae.of e,BZ (j:=0) rfl,_,_,_,_,true,rfl,p0.ty,rfl,(fun _=>.inr trivial),T.g6,true,rfl,AO ?_⟩
     refine⟨_,rfl,a,_,_,_,rfl,rfl,Ae.of e,BZ (j:=0) rfl,?_⟩
     have k:∀ H',AF H H'→Q (.bl (Di z ts)) H':=k
     unfold Di at k
     by_cases h0:z=(Str.ofString "none")
     ·rw[if_pos h0]at k
      refine⟨_,rfl,rfl,true,FU h0,AL ?_⟩
      refine⟨_,rfl,a,_,rfl,.inr (Ae.of e),rfl,IY ?_ (k _ (AF.refl _))⟩
      cases p with
      | nil=>exact Md rfl
      | cons p1 p=>exact Go (by simp only[List.length_cons];omega)
     rw[if_neg h0]at k
     refine⟨_,rfl,rfl,false,Ef h0,AO ?_⟩
     by_cases h1:z=(Str.ofString "number")
     ·rw[if_pos h1]at k
      refine⟨_,rfl,rfl,true,FU h1,AL ?_⟩
      cases p with
      | nil=>
       exact⟨_,rfl,a,_,rfl,.inr (Ae.of e),rfl,false,Go (by simp only[List.length_cons,List.length_nil];omega),AO (k _ (AF.refl _))⟩
      | @cons u1 t1 us1' ts1' p1 p=>
       cases p with
       | nil=>
        exact⟨_,rfl,a,_,rfl,.inr (Ae.of e),rfl,false,Go (by simp only[List.length_cons,List.length_nil];omega),AO (k _ (AF.refl _))⟩
       | @cons u2 t2 us2' ts2' p2 p=>
        cases p with
        | nil=>
         refine⟨_,rfl,a,_,rfl,.inr (Ae.of e),rfl,true,Md rfl,AL ?_⟩
         exact⟨_,rfl,a,_,_,_,rfl,rfl,Ae.of e,rfl,_,rfl,a,_,_,_,rfl,rfl,Ae.of e,rfl,_,_,_,_,rfl,p1,p2,k⟩
        | cons p3 p=>
         exact⟨_,rfl,a,_,rfl,.inr (Ae.of e),rfl,false,Go (by simp only[List.length_cons,List.length_nil];omega),AO (k _ (AF.refl _))⟩
     rw[if_neg h1]at k
     refine⟨_,rfl,rfl,false,Ef h1,AO ?_⟩
     by_cases h2:z=(Str.ofString "text")
     ·rw[if_pos h2]at k
      refine⟨_,rfl,rfl,true,FU h2,AL ?_⟩
      cases p with
      | nil=>
       exact⟨_,rfl,a,_,rfl,.inr (Ae.of e),rfl,false,Go (by simp only[List.length_cons,List.length_nil];omega),AO (k _ (AF.refl _))⟩
      | @cons u1 t1 us1' ts1' p1 p=>
       cases p with
       | nil=>
        refine⟨_,rfl,a,_,rfl,.inr (Ae.of e),rfl,true,Md rfl,AL ?_⟩
        exact⟨_,rfl,a,_,_,_,rfl,rfl,Ae.of e,rfl,_,_,rfl,p1,k⟩
       | cons p2 p=>
        exact⟨_,rfl,a,_,rfl,.inr (Ae.of e),rfl,false,Go (by simp only[List.length_cons,List.length_nil];omega),AO (k _ (AF.refl _))⟩
     rw[if_neg h2]at k
     refine⟨_,rfl,rfl,false,Ef h2,AO ?_⟩
     by_cases h3:z=(Str.ofString "truth")
     ·rw[if_pos h3]at k
      refine⟨_,rfl,rfl,true,FU h3,AL ?_⟩
      cases p with
      | nil=>
       exact⟨_,rfl,a,_,rfl,.inr (Ae.of e),rfl,false,Go (by simp only[List.length_cons,List.length_nil];omega),AO (k _ (AF.refl _))⟩
      | @cons u1 t1 us1' ts1' p1 p=>
       cases p with
       | nil=>
        refine⟨_,rfl,a,_,rfl,.inr (Ae.of e),rfl,true,Md rfl,AL ?_⟩
        cases id p1 with
        | non=>exact⟨_,rfl,a,_,_,_,rfl,rfl,Ae.of e,rfl,_,_,_,_,false,rfl,p1.ty,rfl,(fun _=>.inr trivial),T.gt,k _ (AF.refl _)⟩
        | bl b=>exact⟨_,rfl,a,_,_,_,rfl,rfl,Ae.of e,rfl,_,_,_,_,true,rfl,p1.ty,rfl,(fun _=>.inr trivial),T.gx,k _ (AF.refl _)⟩
        | int i=>exact⟨_,rfl,a,_,_,_,rfl,rfl,Ae.of e,rfl,_,_,_,_,false,rfl,p1.ty,rfl,(fun _=>.inr trivial),T.g1,k _ (AF.refl _)⟩
        | str z1 hz1=>exact⟨_,rfl,a,_,_,_,rfl,rfl,Ae.of e,rfl,_,_,_,_,false,rfl,p1.ty,rfl,(fun _=>.inr trivial),T.g5,k _ (AF.refl _)⟩
        | @lst a1 xs1 e1=>exact⟨_,rfl,a,_,_,_,rfl,rfl,Ae.of e,rfl,_,_,_,_,false,rfl,p1.ty,rfl,(fun _=>.inr trivial),T.g9,k _ (AF.refl _)⟩
        | @dic a1 kvs1 e1=>exact⟨_,rfl,a,_,_,_,rfl,rfl,Ae.of e,rfl,_,_,_,_,false,rfl,p1.ty,rfl,(fun _=>.inr trivial),T.hd,k _ (AF.refl _)⟩
        | @tup a1 us1 ts1 e1 hn1 hh1=>exact⟨_,rfl,a,_,_,_,rfl,rfl,Ae.of e,rfl,_,_,_,_,false,rfl,p1.ty,rfl,(fun _=>.inr trivial),T.hh,k _ (AF.refl _)⟩
       | cons p2 p=>
        exact⟨_,rfl,a,_,rfl,.inr (Ae.of e),rfl,false,Go (by simp only[List.length_cons,List.length_nil];omega),AO (k _ (AF.refl _))⟩
     rw[if_neg h3]at k
     refine⟨_,rfl,rfl,false,Ef h3,AO ?_⟩
     by_cases h4:z=(Str.ofString "fault")
     ·rw[if_pos h4]at k
      refine⟨_,rfl,rfl,true,FU h4,AL ?_⟩
      cases p with
      | nil=>
       exact⟨_,rfl,a,_,rfl,.inr (Ae.of e),rfl,false,Go (by simp only[List.length_cons,List.length_nil];omega),AO (k _ (AF.refl _))⟩
      | @cons u1 t1 us1' ts1' p1 p=>
       cases p with
       | nil=>
        exact⟨_,rfl,a,_,rfl,.inr (Ae.of e),rfl,false,Go (by simp only[List.length_cons,List.length_nil];omega),AO (k _ (AF.refl _))⟩
       | @cons u2 t2 us2' ts2' p2 p=>
        cases p with
        | nil=>
         refine⟨_,rfl,a,_,rfl,.inr (Ae.of e),rfl,true,Md rfl,AL ?_⟩
         refine⟨_,rfl,a,_,_,_,rfl,rfl,Ae.of e,rfl,_,_,rfl,p1,fun H1 s1=>⟨_,rfl,?_⟩⟩
         have k:∀ H',AF H H'→Q (.bl (La t1&&Js t2)) H':=k
         cases ew:La t1 with
         | false=>rw[ew]at k;exact AO (k _ s1)
         | true=>
          rw[ew]at k
          exact AL ⟨_,rfl,a,_,_,_,rfl,rfl,Ae.of (s1 _ _ e),rfl,_,_,rfl,p2.same s1,fun H2 s2=>k _ (s1.trans s2)⟩
        | cons p3 p=>
         exact⟨_,rfl,a,_,rfl,.inr (Ae.of e),rfl,false,Go (by simp only[List.length_cons,List.length_nil];omega),AO (k _ (AF.refl _))⟩
     rw[if_neg h4]at k
     refine⟨_,rfl,rfl,false,Ef h4,AO ?_⟩
     exact k _ (AF.refl _)
    | @lst a0 xs e0=>
     exact⟨_,rfl,a,_,_,_,rfl,rfl,Ae.of e,BZ (j:=0) rfl,_,_,_,_,false,rfl,p0.ty,rfl,(fun _=>.inr trivial),T.ha,false,rfl,AL (k _ (AF.refl _))⟩
    | @dic a0 kvs e0=>
     exact⟨_,rfl,a,_,_,_,rfl,rfl,Ae.of e,BZ (j:=0) rfl,_,_,_,_,false,rfl,p0.ty,rfl,(fun _=>.inr trivial),T.he,false,rfl,AL (k _ (AF.refl _))⟩
    | @tup a0 us0 ts0 e0 hn0 hh0=>
     exact⟨_,rfl,a,_,_,_,rfl,rfl,Ae.of e,BZ (j:=0) rfl,_,_,_,_,false,rfl,p0.ty,rfl,(fun _=>.inr trivial),T.hi,false,rfl,AL (k _ (AF.refl _))⟩
theorem Mz:AW ["formula"] ["formula"] (AI Fw):=A4
theorem HN (T:Txt w K mg t):Ao P w K mg base Bc 1 t.ay t.az ["formula"] Vu:=by
 have D:=T.d8
 refine D.fn.okX Mz (fun vs H Q E h=>?_) (fun cdv A outer s H vs Q E hr h Z hZ=>?_)
 ·rcases h with⟨v,f,pr,n,rfl,_⟩ | ⟨v,th,pr,rfl,_⟩ <;> rfl
 ·have hu:=hr.units0
  rcases h with⟨v,f,pr,n,rfl,hv,fo,k⟩ | ⟨v,th,pr,rfl,h,hf,k⟩
  ·refine hZ ⟨_,((AE (Ak (AV Aq (AU AM (AJ 0) AD (fun _ _=>rfl)) AS (AQ _)) (AG (AK (Bu EN (by rfl) T.fu EF (AT (AU AM (AJ 0) AD (fun _ _=>rfl)) AB)))) AY)
   (AG (AK (B7 (fv:=["formula"]) (js:=[0]) (cl:=[("formula",s.heap.objs.size+1)]) rfl (by with_unfolding_all rfl) ⟨rfl,by nofun,by nofun,rfl,by nofun,by nofun,(List.forall_mem_cons.mpr ⟨⟨rfl,rfl,rfl⟩,(List.forall_mem_nil _)⟩),(List.forall_mem_cons.mpr ⟨rfl,(List.forall_mem_nil _)⟩),(.cons rfl .nil)⟩ (IG (GG (KD T.gl) (AU AM (AJ 0) AD (fun _ _=>rfl)) (Ah AB) ⟨rfl,rfl,rfl,rfl⟩)) (fun _ _ _ _ _=>Cp) (fun _ _ _ _ _=>(AU GD (AJ 1) (AJ 0) (fun _ _=>rfl)))))))),?_⟩
   try dsimp only[cx_K,cx_mg]
   cases hv with
   | @lf a l hl=>
    obtain⟨w,r,ha,h1,h2,_⟩:=hl.pp
    refine⟨_,rfl,a,_,_,_,rfl,rfl,Ae.of ha,Ac,rfl,false,h1,AO ?_⟩
    refine fun pa kvs hk hp=>⟨pa,kvs,rfl,hk,_,rfl,a,_,_,_,rfl,rfl,Ae.of ha,Ac,Nat.zero_le _,fun e he=>⟨Sum.inr w,rfl,?_⟩⟩
    rw[Hz hp h2]
    have s1:=AF.new (o:=.tup []) he
    have sq:∀ ws D,upd H e (.tup []) D=none→Ae K (upd (upd H e (.tup [])) D (.lst ws)) e []:=fun ws D hD=>Ae.of (AF.new hD _ _ AC)
    refine⟨e,rfl,⟨_,Ae.of AC⟩,fun D hD=>?_⟩
    refine⟨fun i m H4=>i=0∧H4=upd (upd H e (.tup [])) D (.lst []),⟨0,rfl,rfl⟩,?_⟩
    rintro i m H4 ⟨rfl,rfl⟩
    refine .inl ⟨⟨[],sq _ _ hD,Nat.le_refl _⟩,?_⟩
    exact k D [] _ (AF.back0 s1 hD) AC .nil (s1.trans (AF.new hD))
   | @nd a t kd us ps ha ht hl hh=>
    cases fo with
    | nd ok hps=>
    obtain⟨r0,er⟩:=Gm t kd us
    have ha0:H a=some (.tup (.str (kw kd)::r0)):=by rw[ha,er]
    have fm:=Aw.parts hl hh
    cases ho:DK kd with
    | true=>
     obtain⟨z,rfl⟩:∃ z,kd=.own z:=by cases kd <;> first | exact⟨_,rfl⟩ | cases ho
     replace ha:H a=some (.tup [vS "own",.str z,.ref t]):=ha
     refine⟨_,rfl,a,_,_,_,rfl,rfl,Ae.of ha,Ac,rfl,true,(by nofun),AL ?_⟩
     refine⟨_,rfl,a,_,_,_,rfl,rfl,Ae.of ha,Bp,t,us,rfl,.inr (Ae.of (ht rfl)),fun d hd=>?_⟩
     exact k d us _ hd AC (Ay.kp fm (Kp.same (AF.new hd))) (AF.new hd)
    | false=>
     obtain⟨pl,hpl,lpl,hat⟩:=Tr (t:=t) (us:=us) (by rw[hl];exact ok) ho
     have l3:=ok.le
     refine⟨_,rfl,a,_,_,_,rfl,rfl,Ae.of ha0,Ac,rfl,false,congrArg V.bl ((Mc ok).trans ho),AO ?_⟩
     refine fun pa kvs hk hp=>⟨pa,kvs,rfl,hk,_,rfl,a,_,_,_,rfl,rfl,Ae.of ha0,Ac,Nat.zero_le _,fun e he=>⟨Sum.inr (kw kd),rfl,?_⟩⟩
     obtain⟨b,hb,hsq⟩:=KJ hp hpl
     rw[hb]
     have s1:=AF.new (o:=.tup []) he
     have nsl:∀{D:Addr},upd H e (.tup []) D=none→H D=none:=fun {D} h=>AF.back0 s1 h
     generalize upd H e (.tup [])=H2 at *
     refine⟨b,rfl,⟨_,hsq _⟩,fun D hD=>?_⟩
     have sD:∀ ws,AF H2 (upd H2 D (.lst ws)):=fun ws=>AF.new hD
     refine⟨fun i m H4=>m=us.length-i∧i≤us.length∧H4=upd H2 D (.lst (us.take i)),⟨us.length,rfl,Nat.zero_le _,rfl⟩,?_⟩
     rintro i m H4 ⟨rfl,hi,rfl⟩
     by_cases hlt:i<us.length
     ·obtain⟨p,u,hp1,hu1',hat1⟩:=hat i hlt
      have hx1:(pl.map fun(p:Nat)=>V.int p)[i]?=some (.int p):=by rw[List.getElem?_map,hp1];rfl
      refine .inr ⟨⟨_,_,hsq _,hx1⟩,fun x H' y=>?_⟩
      obtain⟨e,y⟩:=y
      subst e
      have hx:=y _ (hsq _)
      rw[hx1]at hx
      cases hx
      refine⟨_,rfl,_,rfl,a,_,_,_,rfl,rfl,Ae.of (sD _ _ _ (s1 _ _ ha)),hat1,_,AC,EG (by rw[List.length_take];omega),us.length-(i+1),(by omega),rfl,hlt,?_⟩
      rw[F8,List.take_add_one,hu1'];rfl
     have ei:i=us.length:=by omega
     subst ei
     refine .inl ⟨⟨_,hsq _,(by rw[List.length_map,lpl];exact Nat.le_refl _)⟩,?_⟩
     rw[List.take_length]
     have s3:=s1.trans (sD us)
     exact k D us _ (nsl hD) AC (Ay.kp fm (Kp.same s3)) s3
  ·refine hZ ⟨_,((AE (Ak (AV Aq (AU AM (AJ 0) AD (fun _ _=>rfl)) AS (AQ _)) (AG (AK (Bu EN (by rfl) T.fu EF (AT (AU AM (AJ 0) AD (fun _ _=>rfl)) AB)))) AY)
   (AG (AK (B7 (fv:=["formula"]) (js:=[0]) (cl:=[("formula",s.heap.objs.size+1)]) rfl (by with_unfolding_all rfl) ⟨rfl,by nofun,by nofun,rfl,by nofun,by nofun,(List.forall_mem_cons.mpr ⟨⟨rfl,rfl,rfl⟩,(List.forall_mem_nil _)⟩),(List.forall_mem_cons.mpr ⟨rfl,(List.forall_mem_nil _)⟩),(.cons rfl .nil)⟩ (IG (GG (KD T.gl) (AU AM (AJ 0) AD (fun _ _=>rfl)) (Ah AB) ⟨rfl,rfl,rfl,rfl⟩)) (fun _ _ _ _ _=>Cp) (fun _ _ _ _ _=>(AU GD (AJ 1) (AJ 0) (fun _ _=>rfl)))))))),?_⟩
   try dsimp only[cx_K,cx_mg]
   obtain⟨k0,ts,rfl⟩:=Mi hf
   obtain⟨a,us0,rfl,e,p⟩:=CH h
   have p00:=p
   cases p with | cons p0 p=>
   rename_i us
   cases p0
   by_cases hk:k0=zS "own"
   ·subst hk
    obtain⟨t1,ws,rfl,h3⟩:=Lc hf
    cases p with | cons p1 p=>cases p with | cons p2 p=>cases p with | nil=>
    obtain⟨b,vs2,rfl,e2,p3⟩:=CH p2
    refine⟨_,rfl,a,_,_,_,rfl,rfl,Ae.of e,Ac,rfl,true,(by nofun),AL ?_⟩
    refine⟨_,rfl,a,_,_,_,rfl,rfl,Ae.of e,Bp,b,vs2,rfl,.inr (Ae.of e2),fun d hd=>?_⟩
    exact k d vs2 _ hd AC (by rw[SC];exact UC p3 (AF.new hd)) (AF.new hd)
   ·rw[UB hk]at k
    have hin:=Vi hf
    refine⟨_,rfl,a,_,_,_,rfl,rfl,Ae.of e,Ac,rfl,false,Ef hk,AO ?_⟩
    refine fun pa kvs hk' hp=>⟨pa,kvs,rfl,hk',_,rfl,a,_,_,_,rfl,rfl,Ae.of e,Ac,Nat.zero_le _,fun e9 he=>⟨Sum.inr k0,rfl,?_⟩⟩
    have s1:=AF.new (o:=.tup []) he
    have l3:=QL k0
    have hlen:us.length=ts.length:=Paired.length p
    have p1:=UC p00 s1
    have hb:∃ b,(B4 kvs (Sum.inr k0)).getD (.ref e9)=.ref b∧∀ H',AF (upd H e9 (.tup [])) H'→Ae K H' b ((KP k0).map fun p=>V.int (p:Nat)):=by
     rcases Vj k0 with⟨h1,h2⟩ | h1
     ·rw[Hz hp h1,h2]
      exact⟨e9,rfl,fun H' s=>Ae.of (s _ _ AC)⟩
     ·obtain⟨b,hb,hsq⟩:=KJ hp h1
      rw[hb]
      exact⟨b,rfl,fun H' _=>hsq _⟩
    obtain⟨b,hb1,hsq⟩:=hb
    rw[hb1]
    have e1:=s1 _ _ e
    have nsl:∀{D:Addr},upd H e9 (.tup []) D=none→H D=none:=fun {D} h=>AF.back0 s1 h
    generalize upd H e9 (.tup [])=H2 at *
    generalize hws:((KP k0).map fun p=>(V.str k0::us).getD p .non)=ws
    have lws:ws.length=(KP k0).length:=by rw[← hws,List.length_map]
    refine⟨b,rfl,⟨_,hsq _ (AF.refl _)⟩,fun D hD=>?_⟩
    have sD:∀ ws,AF H2 (upd H2 D (.lst ws)):=fun ws=>AF.new hD
    refine⟨fun i m H4=>m=ws.length-i∧i≤ws.length∧H4=upd H2 D (.lst (ws.take i)),⟨ws.length,rfl,Nat.zero_le _,rfl⟩,?_⟩
    rintro i m H4 ⟨rfl,hi,rfl⟩
    by_cases hlt:i<ws.length
    ·have hp1:(KP k0)[i]?=some ((KP k0)[i]'(by omega)):=List.getElem?_eq_getElem (by omega)
     generalize (KP k0)[i]'(by omega)=pp at hp1
     have hpp:=hin pp (List.mem_of_getElem? hp1)
     have hx1:((KP k0).map fun p=>V.int (p:Nat))[i]?=some (.int pp):=by rw[List.getElem?_map,hp1];rfl
     have hw1:ws[i]?=some ((V.str k0::us).getD pp .non):=by rw[← hws,List.getElem?_map,hp1];rfl
     have hat:(V.str k0::us)[pp]?=some ((V.str k0::us).getD pp .non):=by rw[List.getD_eq_getElem?_getD,List.getElem?_eq_getElem (by rw[List.length_cons];omega)];rfl
     refine .inr ⟨⟨_,_,hsq _ (sD _),hx1⟩,fun x H' y=>?_⟩
     obtain⟨e,y⟩:=y
     subst e
     have hx:=y _ (hsq _ (sD _))
     rw[hx1]at hx
     cases hx
     refine⟨_,rfl,_,rfl,a,_,_,_,rfl,rfl,Ae.of (sD _ _ _ e1),BZ hat,_,AC,EG (by rw[List.length_take];omega),ws.length-(i+1),(by omega),rfl,hlt,?_⟩
     rw[F8,List.take_add_one,hw1];rfl
    have ei:i=ws.length:=by omega
    subst ei
    refine .inl ⟨⟨_,hsq _ (sD _),(by rw[List.length_map,lws];exact Nat.le_refl _)⟩,?_⟩
    rw[List.take_length]
    have s3:=s1.trans (sD ws)
    refine k D ws _ (nsl hD) AC ?_ s3
    rw[← hws]
    exact Nr V.non (UC p1 (sD _)) fun p hp=>by have:=hin p hp;rw[List.length_cons];omega
theorem DH (T:Txt w K mg t):Ao P w K mg base Bc 1 t.ay t.az ["formula"] Se:=by
 exact(HN T).imp fun _ _ _ _ h=>.inl h
theorem Kh (T:Txt w K mg t):Ao P w K mg base Bc 1 t.ay t.az ["formula"] Vk:=by
 exact(HN T).imp fun _ _ _ _ h=>.inr h
theorem DI:AW ["formula","parts","things","place","part"] ["formula","parts"] (AI EY):=A4
theorem JS (T:Txt w K mg t):Ao P w K mg base Bc 2 t.a0 t.a1 ["formula","parts"] VT:=by
 have D:=T.d9
 refine D.fn.okX DI ?_ (fun cdv A outer s H vs Q E hr h Z hZ=>?_)
 ·rintro _ _ _ _ ⟨v,f,l,ws,pr,n,rfl,_⟩
  rfl
 ·obtain⟨v,f,l,ws,pr,n,rfl,hv,fo,hlw,hwl,k⟩:=h
  refine hZ ⟨_,((AE (Ak (AV Aq (AU AM (AJ 0) AD (fun _ _=>rfl)) AS (AQ _)) (AG (AK (Ah (AH AS (AT (AU AM (AJ 0) AD (fun _ _=>rfl)) (BD (Bu B3 (by rfl) T.ft A0 (AA (AJ 1) AB)) AB)))))) AY)
   (AE (Ag (i:=2) DI.nd rfl (Or.inl rfl) (Bu EN (by rfl) T.fu EF (AA (AJ 0) AB)))
   (AE (EL PassesOwn.never rfl (TZ rfl T.fw Tv (BD (GG (KD T.gl) (AU AM (AJ 0) AD (fun _ _=>rfl)) (Ah AB) ⟨rfl,rfl,rfl,rfl⟩) (AA (AJ 1) AB))) (S5 rfl (Ek (Bg (i:=3) DI.nd rfl (Or.inl rfl)) (Ek (Bg (i:=4) DI.nd rfl (Or.inl rfl)) NA)))
   (AG (Jy (AJ 4) (L4 (AJ 2) (AJ 3) IP))))
   (AG (AK (Bu B3 (by rfl) T.ft A0 (AA (AJ 2) AB)))))))),?_⟩
  try dsimp only[cx_K,cx_mg]
  cases hv with
  | @lf a lf hl=>
   obtain⟨w,r,ha,h1,h2,h3,h4⟩:=hl.pp
   obtain rfl:ws=[]:=List.length_eq_zero_iff.mp hwl
   refine⟨_,rfl,a,_,_,_,rfl,rfl,Ae.of ha,Ac,rfl,false,h1,AO ?_⟩
   refine⟨_,rfl,a,_,rfl,.inr (Ae.of ha),fun d hd=>?_⟩
   have s1:=AF.new (o:=.lst (.str w::r)) hd
   have hd1:upd H d (.lst (.str w::r)) d=some (.lst (.str w::r)):=AC
   generalize upd H d (.lst (.str w::r))=H1 at *
   refine fun pa kvs hk hp=>⟨pa,kvs,rfl,hk,_,rfl,a,_,_,_,rfl,rfl,Ae.of (s1 _ _ ha),Ac,Nat.zero_le _,fun e he=>⟨Sum.inr w,rfl,?_⟩⟩
   rw[Hz hp h2]
   have s2:=AF.new (o:=.tup []) he
   have he2:upd H1 e (.tup []) e=some (.tup []):=AC
   generalize upd H1 e (.tup [])=H2 at *
   refine⟨_,rfl,e,l,rfl,⟨_,Ae.of he2⟩,⟨_,At.of (s2 _ _ (s1 _ _ hlw))⟩,?_⟩
   refine NU (xs:=[]) (ys:=[]) (fun i σ H3=>∃ x3 x4,σ=[some (.ref a),some (.ref l),some (.ref d),x3,x4]∧H3=H2) rfl ⟨none,none,rfl,rfl⟩ ?_ ?_ ?_
   ·rintro i σ H3 _ ⟨_,_,rfl,rfl⟩
    exact⟨Ae.of he2,At.of (s2 _ _ (s1 _ _ hlw))⟩
   ·rintro i x y σ H3 b hx
    simp at hx
   ·rintro σ H3 ⟨x3,x4,rfl,rfl⟩
    refine⟨_,rfl,d,_,rfl,.inl ⟨At.of (s2 _ _ hd1),fun q hq=>?_⟩⟩
    have s3:=AF.new (o:=.tup (.str w::r)) hq
    exact k q _ ⟨a,_,rfl,s3 _ _ (s2 _ _ (s1 _ _ ha)),AC,h3⟩ ((s1.trans s2).trans s3)
  | @nd a t kd us ps ha ht hl hh=>
   cases fo with
   | nd ok hps=>
   obtain⟨r0,er⟩:=Gm t kd us
   have ha0:H a=some (.tup (.str (kw kd)::r0)):=by rw[ha,er]
   have fm:=Aw.parts hl hh
   replace hwl:ws.length=ps.length:=hwl
   cases ho:DK kd with
   | true=>
    obtain⟨z,rfl⟩:∃ z,kd=.own z:=by cases kd <;> first | exact⟨_,rfl⟩ | cases ho
    replace ha:H a=some (.tup [vS "own",.str z,.ref t]):=ha
    refine⟨_,rfl,a,_,_,_,rfl,rfl,Ae.of ha,Ac,rfl,true,(by nofun),AL ?_⟩
    refine⟨_,rfl,a,_,_,_,rfl,rfl,Ae.of ha,BP,_,rfl,l,ws,rfl,.inl ⟨At.of hlw,fun t' ht'=>⟨BV,fun q hq=>?_⟩⟩⟩
    exact k q _ ⟨t',AC,fun _=>AF.new hq _ _ AC⟩ ((AF.new ht').trans (AF.new hq))
   | false=>
    obtain⟨pl,hpl,lpl,hset⟩:=Rx (t:=t) ok ho
    have l3:=ok.le
    refine⟨_,rfl,a,_,_,_,rfl,rfl,Ae.of ha0,Ac,rfl,false,congrArg V.bl ((Mc ok).trans ho),AO ?_⟩
    refine⟨_,rfl,a,_,rfl,.inr (Ae.of ha),fun d hd=>?_⟩
    have s1:=AF.new (o:=.lst (Fq t kd us)) hd
    have hd1:upd H d (.lst (Fq t kd us)) d=some (.lst (Fq t kd us)):=AC
    generalize upd H d (.lst (Fq t kd us))=H1 at *
    refine fun pa kvs hk hp=>⟨pa,kvs,rfl,hk,_,rfl,a,_,_,_,rfl,rfl,Ae.of (s1 _ _ ha0),Ac,Nat.zero_le _,fun e he=>⟨Sum.inr (kw kd),rfl,?_⟩⟩
    obtain⟨b,hb,hsq⟩:=KJ hp hpl
    rw[hb]
    have s2:=AF.new (o:=.tup []) he
    have hd2:=s2 _ _ hd1
    generalize upd H1 e (.tup [])=H2 at *
    have hl2:=s2 _ _ (s1 _ _ hlw)
    have ndl:d≠l:=fun z=>by rw[z]at hd;rw[hd]at hlw;cases hlw
    refine⟨_,rfl,b,l,rfl,⟨_,hsq _⟩,⟨_,At.of hl2⟩,?_⟩
    refine NU (xs:=pl.map fun(p:Nat)=>V.int p) (ys:=ws) (fun i σ H3=>∃ x3 x4,σ=[some (.ref a),some (.ref l),some (.ref d),x3,x4]∧H3 d=some (.lst (Fq t kd (ws.take i++us.drop i)))∧H3 l=some (.lst ws)∧∀ c o,c≠d→H2 c=some o→H3 c=some o) (by rw[List.length_map,lpl,hwl]) ⟨none,none,rfl,hd2,hl2,fun _ _ _ e=>e⟩ ?_ ?_ ?_
    ·rintro i σ H3 _ ⟨_,_,rfl,_,q,_⟩
     exact⟨hsq _,At.of q⟩
    ·rintro i x y σ H3 c hx hy ⟨x3,x4,rfl,q1,q2,q3⟩ hc
     have hi:i<ws.length:=(List.getElem?_eq_some_iff.mp hy).1
     obtain⟨p,hp1,hp2,hp3⟩:=hset (ws.take i++us.drop i) i y (by rw[List.length_append,List.length_take,List.length_drop];omega) (by omega)
     have hxp:x=.int p:=by rw[List.getElem?_map,hp1]at hx;simpa using hx.symm
     subst hxp
     have sc:=AF.new (o:=.tup [.int p,y]) hc
     refine⟨c,_,rfl,Ae.of AC,rfl,_,_,rfl,_,_,rfl,rfl,?_⟩
     refine⟨_,rfl,_,rfl,_,rfl,d,_,_,p,rfl,rfl,sc _ _ q1,?_,?_⟩
     ·unfold SV
      rw[if_pos (by omega),if_pos (by omega)];simp
     ·refine⟨_,_,rfl,?_,?_,fun c' o hc' e=>?_⟩
      ·rw[AC,hp3,Ry (by omega) hy]
      ·rw[AR (Ne.symm ndl)];exact sc _ _ q2
      ·rw[AR hc'];exact sc _ _ (q3 _ _ hc' e)
    ·rintro σ H3 ⟨x3,x4,rfl,q1,q2,q3⟩
     have e3:ws.take (pl.map fun(p:Nat)=>V.int p).length++us.drop (pl.map fun(p:Nat)=>V.int p).length=ws:=by
      rw[List.length_map,lpl,List.take_of_length_le (by omega),List.drop_of_length_le (by omega),List.append_nil]
     rw[e3]at q1
     refine⟨_,rfl,d,_,rfl,.inl ⟨At.of q1,fun q hq=>?_⟩⟩
     have s3:=AF.new (o:=.tup (Fq t kd ws)) hq
     refine k q _ ⟨t,AC,fun z=>by rw[ho]at z;cases z⟩ fun c o e=>?_
     have ncd:c≠d:=fun z=>by rw[z,hd]at e;cases e
     exact s3 _ _ (q3 _ _ ncd (s2 _ _ (s1 _ _ e)))
theorem Xe (T:Txt w K mg t){A:Around}(hr:BY 2 A):∀ f sp,YI K t f sp→∃ k fd ps,Ao P w K mg base Bc k f fd ps sp∧BY k A∧PySem.W.keepIn K (.ref f)=true∧Ed K fd ps []:=by
 rintro f sp ⟨rfl,rfl⟩
 exact⟨2,_,_,JS T,hr,T.d9.fn.kp,T.d9.b⟩
theorem Dk:AW ["formula","waiting","row","part"] ["formula"] (AI E5):=A4
theorem GO (T:Txt w K mg t):Ao P w K mg base Bc 2 t.a2 t.a3 ["formula"] VV:=by
 have D:=T.ea
 refine D.fn.okX Dk ?_ (fun cdv A outer s H vs Q E hr h Z hZ=>?_)
 ·rintro _ _ _ _ ⟨v,f,pr,n,rfl,_⟩
  rfl
 ·obtain⟨v,f,pr,n,rfl,hv,fo,h8,k⟩:=h
  refine hZ ⟨_,((AE (Ag (i:=1) Dk.nd rfl (Or.inl rfl) (Bo (AA (AJ 0) AB)))
   (AE (Ag (i:=2) Dk.nd rfl (Or.inl rfl) (Bo AB))
   (AE (Kz PassesOwn.never (AV K0 (AN Ab (by rfl) T.fn PySem.boot_len (AA (AJ 1) AB)) AD (AQ _)) (AE (Ag (i:=3) Dk.nd rfl (Or.inl rfl) (TB PySem.F.plainAttrs_list PySem.F.slot_list_pop PySem.F.type_list_pop TC (AJ 1)))
   (AE (Dc (HF PySem.F.plainAttrs_list PySem.F.slot_list_append PySem.F.type_list_append Ca (AJ 2) (AA (AJ 3) AB)))
   (AG (Dc (HF PySem.F.plainAttrs_list PySem.F.slot_list_extend PySem.F.type_list_extend Gd (AJ 1) (BD (AZ T.d8 (DH T) (hr.mono (by omega)) (AA (AJ 3) AB)) AB)))))))
   (AG (AK (MO rfl (by rfl) T.fu EF (by rfl) T.f1 (AJ 2)))))))),?_⟩
  try dsimp only[cx_K,cx_mg]
  have bd:=Tw fo h8
  refine⟨_,rfl,Ey,fun l hl=>?_⟩
  have s0:=AF.new (o:=.lst [v]) hl
  have hl1:upd H l (.lst [v]) l=some (.lst [v]):=AC
  have hv1:=Aw.kp hv (Kp.same s0)
  generalize upd H l (.lst [v])=H1 at *
  refine⟨Nat.zero_le _,fun r hr'=>?_⟩
  have s1:=AF.new (o:=.lst []) hr'
  have nlr:l≠r:=fun z=>by rw[← z,hl1]at hr';cases hr'
  have hr0:H r=none:=by
   cases c:H r with
   | none=>rfl
   | some o=>rw[s0 _ _ c]at hr';cases hr'
  refine⟨fun m σ H5=>∃(vs rs:List V) (fs gs:List Fm) (x:Option V),σ=[some v,some (.ref l),some (.ref r),x]∧H5 l=some (.lst vs)∧H5 r=some (.lst rs)∧Ay H5 vs fs∧Ay H5 rs gs∧(∀ g∈fs,FO pr n g)∧BQ fs=m∧GX fs++gs.reverse=Ks f∧AF H H5,
   ⟨BW f,_,_,[f],[],none,rfl,s1 _ _ hl1,AC,.cons (Aw.kp hv1 (Kp.same s1)) .nil,.nil,(fun g hg=>by rw[List.mem_singleton.mp hg];exact fo),(by rw[BQ,BQ];omega),(by rw[GX,GX];simp),fun b o e=>s1 _ _ (s0 _ _ e)⟩,?_⟩
  rintro m σ H5 ⟨vs,rs,fs,gs,x,rfl,hl5,hr5,fm5,gm5,good,hm,him,s5⟩
  refine⟨_,rfl,l,_,rfl,.inl (At.of hl5),_,_,rfl,rfl,_,rfl,?_⟩
  rcases List.eq_nil_or_concat vs with rfl | ⟨vs',y,hvs⟩
  ·have e0:fs=[]:=List.length_eq_zero_iff.mp (Paired.length fm5).symm
   subst e0
   refine AO ⟨_,rfl,r,rs,rfl,At.of hr5,fun lq hlq=>?_⟩
   have e1:gs.reverse=Ks f:=by rw[← him,GX,List.nil_append]
   have s6:=AF.new (o:=.lst rs.reverse) hlq
   have hq0:H lq=none:=by
    cases c:H lq with
    | none=>rfl
    | some o=>rw[s5 _ _ c]at hlq;cases hlq
   exact k lq rs.reverse _ hq0 AC (by rw[← e1];exact XG (Ay.kp gm5 (Kp.same s6))) fun b o e=>s6 _ _ (s5 _ _ e)
  have hvs:vs=vs'++[y]:=by rw[hvs,List.concat_eq_append]
  subst hvs
  obtain⟨fs',g,rfl,fm',hg⟩:=Tu fm5
  have fg:=good g (by simp)
  have hsz:BQ fs'+(1+BQ (A5 g))=m:=by
   rw[← hm,Hx,BQ,BQ,Hy g];omega
  have hne:decide ((0:Int)<((vs'++[y]).length:Int))=true:=decide_eq_true (by rw[List.length_append,List.length_singleton];omega)
  rw[hne]
  refine AL ⟨fun σ' H'=>∃ m',m'<m∧∃(vs rs:List V) (fs gs:List Fm) (x:Option V),σ'=[some v,some (.ref l),some (.ref r),x]∧H' l=some (.lst vs)∧H' r=some (.lst rs)∧Ay H' vs fs∧Ay H' rs gs∧(∀ g∈fs,FO pr n g)∧BQ fs=m'∧GX fs++gs.reverse=Ks f∧AF H H',fun _ _ z=>z,?_⟩
  refine⟨_,rfl,.inl ⟨rfl,_,At.of hl5⟩,l,_,y,rfl,rfl,hl5,(by simp),?_⟩
  rw[List.dropLast_concat]
  have t7:Kp H5 (upd H5 l (.lst vs')):=Kp.lst hl5 KeepX.upd
  have hl7:upd H5 l (.lst vs') l=some (.lst vs'):=AC
  have hr7:upd H5 l (.lst vs') r=some (.lst rs):=by rw[AR nlr.symm];exact hr5
  have fm7:=Ay.kp fm' t7
  have gm7:=Ay.kp gm5 t7
  have hg7:=Aw.kp hg t7
  have s7:AF H (upd H5 l (.lst vs')):=fun b o e=>by rw[AR (AX e hl)];exact s5 _ _ e
  generalize upd H5 l (.lst vs')=H7 at *
  have n0:(GX (fs'++[g])).length+gs.length=BW f:=by rw[← IA f,← him,List.length_append,List.length_reverse]
  rw[KM]at n0
  have n00:rs.length=gs.length:=Paired.length gm5
  refine⟨_,rfl,.inl ⟨rfl,_,At.of hr7⟩,_,rfl,r,rs,y,rfl,rfl,hr7,Tq (by omega),?_⟩
  have t8:Kp H7 (upd H7 r (.lst (rs++[y]))):=Kp.lst hr7 KeepX.upd
  have hl8:upd H7 r (.lst (rs++[y])) l=some (.lst vs'):=by rw[AR nlr];exact hl7
  have hr8:upd H7 r (.lst (rs++[y])) r=some (.lst (rs++[y])):=AC
  have fm8:=Ay.kp fm7 t8
  have hg8:=Aw.kp hg7 t8
  have gm8:Ay _ (rs++[y]) (gs++[g]):=HY (Ay.kp gm7 t8) (.cons hg8 .nil)
  have s8:AF H (upd H7 r (.lst (rs++[y]))):=fun b o e=>by rw[AR (AX e hr0)];exact s7 _ _ e
  generalize upd H7 r (.lst (rs++[y]))=H8 at *
  refine⟨_,rfl,.inl ⟨rfl,_,At.of hl8⟩,_,rfl,y,g,pr,n,rfl,hg8,fg,fun lp ws HA hlp0 hlp fmp sA=>?_⟩
  have n1:vs'.length=fs'.length:=Paired.length fm7
  have n2:ws.length=(A5 g).length:=Paired.length fmp
  have n3:=KK fs'
  have n4:=KK (A5 g)
  have n5:BQ (fs'++[g])=BQ fs'+(1+BQ (A5 g)):=by rw[Hx,BQ,BQ,Hy g];omega
  have hlA:=sA _ _ hl8
  have hrA:=sA _ _ hr8
  refine⟨l,lp,vs',ws,rfl,rfl,hlA,hlp,Tq (by omega),?_⟩
  have tB:Kp HA (upd HA l (.lst (vs'++ws))):=Kp.lst hlA KeepX.upd
  refine⟨BQ fs'+BQ (A5 g),(by omega),vs'++ws,rs++[y],fs'++A5 g,gs++[g],_,rfl,AC,(by rw[AR nlr.symm];exact hrA),HY (Ay.kp fm8 ((Kp.same sA).trans tB)) (Ay.kp fmp tB),Ay.kp gm8 ((Kp.same sA).trans tB),fun x hx=>?_,Hx _ _,?_,fun b o e=>?_⟩
  ·rcases List.mem_append.mp hx with q | q
   ·exact good x (List.mem_append.mpr (.inl q))
   ·exact fg.prt x q
  ·rw[← him,KL,KL,GX,GX,Rz g];simp
  ·rw[AR (AX e hl)];exact sA _ _ (s8 _ _ e)
theorem JT:AW ["formula"] ["formula"] (AI Du):=A4
theorem JB (T:Txt w K mg t):Ao P w K mg base Bc 3 t.a4 t.a5 ["formula"] VU:=by
 have D:=T.eb
 refine D.fn.okX JT ?_ (fun cdv A outer s H vs Q E hr h Z hZ=>?_)
 ·rintro _ _ _ _ ⟨v,f,pr,n,rfl,_⟩
  rfl
 ·obtain⟨v,f,pr,n,rfl,hv,fo,h8,k⟩:=h
  refine hZ ⟨_,((AG (AK (AN Ab (by rfl) T.fn PySem.boot_len (BD (AZ T.ea (GO T) (Bd hr) (AA (AJ 0) AB)) AB))))),?_⟩
  try dsimp only[cx_K,cx_mg]
  refine⟨_,rfl,v,f,pr,n,rfl,hv,fo,h8,fun l ws H' hl0 hl fm s=>?_⟩
  have e:ws.length=BW f:=by rw[Paired.length fm,IA]
  refine⟨l,ws,rfl,.inl (At.of hl),?_⟩
  rw[e]
  exact k _ s
theorem GP:AW ["thing"] ["thing"] (AI CS):=A4
theorem CF (T:Txt w K mg t):Ao P w K mg base Bc 2 t.a6 t.a7 ["thing"] (HZ Lb):=by
 have D:=T.ec
 refine D.fn.okX GP ?_ (fun cdv A outer s H vs Q E hr h Z hZ=>?_)
 ·rintro _ _ _ _ ⟨v,th,rfl,_⟩
  rfl
 ·obtain⟨v,th,rfl,h,k⟩:=h
  refine hZ ⟨_,((AG (AK (An (AZ T.d0 (Bx T) (Bd hr) (AA (AJ 0) AB)) (As (Al GC (AJ 0) (Hv T.gh) rfl)))))),?_⟩
  try dsimp only[cx_K,cx_mg]
  cases id h with
  | non=>
   exact⟨_,rfl,_,_,rfl,h,fun H1 s1=>⟨false,rfl,AO (k _ s1)⟩⟩
  | bl b=>
   exact⟨_,rfl,_,_,rfl,h,fun H1 s1=>⟨false,rfl,AO (k _ s1)⟩⟩
  | int i=>
   exact⟨_,rfl,_,_,rfl,h,fun H1 s1=>⟨false,rfl,AO (k _ s1)⟩⟩
  | str z hz=>
   refine⟨_,rfl,_,_,rfl,h,fun H1 s1=>⟨_,rfl,?_⟩⟩
   have k':∀ H',AF H H'→Q (.bl (DL (.str z)&&!Ee (.str z) Sk)) H':=k
   cases e1:DL (.str z)with
   | false=>rw[e1]at k';exact AO (k' _ s1)
   | true=>rw[e1]at k';exact AL ⟨_,rfl,fun b hb=>⟨b,_,rfl,.inr (hb _),rfl,QS,k' _ s1⟩⟩
  | @lst a xs e=>
   exact⟨_,rfl,_,_,rfl,h,fun H1 s1=>⟨false,rfl,AO (k _ s1)⟩⟩
  | @dic a kvs e=>
   exact⟨_,rfl,_,_,rfl,h,fun H1 s1=>⟨false,rfl,AO (k _ s1)⟩⟩
  | @tup a us ts e hn hh=>
   exact⟨_,rfl,_,_,rfl,h,fun H1 s1=>⟨false,rfl,AO (k _ s1)⟩⟩
theorem Lu:AW ["thing","texts"] ["thing","texts"] (AI E6):=A4
theorem GQ (T:Txt w K mg t):Ao P w K mg base Bc 1 t.a8 t.a9 ["thing","texts"] (Vd K):=by
 have D:=T.ed
 refine D.fn.okX Lu ?_ (fun cdv A outer s H vs Q E hr h Z hZ=>?_)
 ·rintro _ _ _ _ ⟨v,th,b,ys,rfl,_⟩
  rfl
 ·obtain⟨v,th,b,ys,rfl,h,hb,hf,k⟩:=h
  refine hZ ⟨_,((AG (AK (An (AN Aj (by rfl) T.fp Aa (AA (AJ 0) (AA (BN T.fs EE) AB))) (As (Al FM (AJ 0) (AJ 1) rfl)))))),?_⟩
  try dsimp only[cx_K,cx_mg]
  cases id h with
  | non=>
   exact⟨_,rfl,_,_,_,_,false,rfl,h.ty,rfl,(fun _=>.inr trivial),T.gu,false,rfl,AO (k _ (AF.refl _))⟩
  | bl bb=>
   exact⟨_,rfl,_,_,_,_,false,rfl,h.ty,rfl,(fun _=>.inr trivial),T.gy,false,rfl,AO (k _ (AF.refl _))⟩
  | int i=>
   exact⟨_,rfl,_,_,_,_,false,rfl,h.ty,rfl,(fun _=>.inr trivial),T.g2,false,rfl,AO (k _ (AF.refl _))⟩
  | str z hz=>
   refine⟨_,rfl,_,_,_,_,true,rfl,h.ty,rfl,(fun _=>.inr trivial),T.g6,true,rfl,AL ?_⟩
   exact⟨_,rfl,_,rfl,b,ys,rfl,.inr (hb _),rfl,hf,k _ (AF.refl _)⟩
  | @lst a xs e=>
   exact⟨_,rfl,_,_,_,_,false,rfl,h.ty,rfl,(fun _=>.inr trivial),T.ha,false,rfl,AO (k _ (AF.refl _))⟩
  | @dic a kvs e=>
   exact⟨_,rfl,_,_,_,_,false,rfl,h.ty,rfl,(fun _=>.inr trivial),T.he,false,rfl,AO (k _ (AF.refl _))⟩
  | @tup a us ts e hn hh=>
   exact⟨_,rfl,_,_,_,_,false,rfl,h.ty,rfl,(fun _=>.inr trivial),T.hi,false,rfl,AO (k _ (AF.refl _))⟩
theorem F3:AW ["thing"] ["thing"] (AI CB):=A4
theorem Fa (T:Txt w K mg t):Ao P w K mg base Bc 5 t.ba t.bb ["thing"] (HZ Uc):=by
 have D:=T.ee
 refine D.fn.okX F3 ?_ (fun cdv A outer s H vs Q E hr h Z hZ=>?_)
 ·rintro _ _ _ _ ⟨v,th,rfl,_⟩
  rfl
 ·obtain⟨v,th,rfl,h,k⟩:=h
  refine hZ ⟨_,((AE (Ak (A2 (Az (AZ T.d7 (Ls T) (Bd hr) (AA (AJ 0) AB)))) (AG (AK BJ)) AY)
   (AE (Ak (AV Aq (AU AM (AJ 0) AD (fun _ _=>rfl)) AS (AQ _)) (AG (AK (An (Al Aq (AU AM (AJ 0) AD (fun _ _=>rfl)) AD (AQ _)) (An (Al DC AD (AU AM (AJ 0) AD (fun _ _=>rfl)) (AQ _)) (As (Al DC (AU AM (AJ 0) AD (fun _ _=>rfl)) (A1 T.gg) (AQ _))))))) AY)
   (AG (AK (SR (Al Aq (AU AM (AJ 0) AD (fun _ _=>rfl)) AS (AQ _)) (As (Al Aq (AU AM (AJ 0) AD (fun _ _=>rfl)) AS (AQ _))))))))),?_⟩
  try dsimp only[cx_K,cx_mg]
  cases id h with
  | non=>
   exact⟨_,rfl,_,_,rfl,h,fun H1 s1=>⟨false,rfl,AL (k _ s1)⟩⟩
  | bl b=>
   exact⟨_,rfl,_,_,rfl,h,fun H1 s1=>⟨false,rfl,AL (k _ s1)⟩⟩
  | int i=>
   exact⟨_,rfl,_,_,rfl,h,fun H1 s1=>⟨false,rfl,AL (k _ s1)⟩⟩
  | str z hz=>
   exact⟨_,rfl,_,_,rfl,h,fun H1 s1=>⟨false,rfl,AL (k _ s1)⟩⟩
  | @lst a xs e=>
   exact⟨_,rfl,_,_,rfl,h,fun H1 s1=>⟨false,rfl,AL (k _ s1)⟩⟩
  | @dic a kvs e=>
   exact⟨_,rfl,_,_,rfl,h,fun H1 s1=>⟨false,rfl,AL (k _ s1)⟩⟩
  | @tup a us ts e hn hh=>
   have p:=BB.toP hn hh
   refine⟨_,rfl,_,_,rfl,h,fun H1 s1=>⟨_,rfl,?_⟩⟩
   cases e1:Gn (.tup ts)with
   | false=>exact AL (IY (by rw[Ve e1]) (k _ s1))
   | true=>
    refine AO ?_
    have e':=s1 _ _ e
    obtain⟨k0,ts',rfl⟩:=Og e1
    rw[Vf e1]at k
    cases p with | cons p0 p=>
    cases p0
    by_cases hk:k0=zS "number"
    ·subst hk
     obtain⟨x,y,rfl⟩:=R4 e1
     cases p with | cons p1 p=>cases p with | cons p2 p=>cases p with | nil=>
     cases p1;cases p2
     rw[R5]at k
     refine⟨_,rfl,a,_,_,_,rfl,rfl,Ae.of e',Ac,rfl,true,(by nofun),AL ?_⟩
     exact⟨_,rfl,a,_,_,_,rfl,rfl,Ae.of e',Bp,rfl,Pd (fun k=>⟨_,rfl,a,_,_,_,rfl,rfl,Ae.of e',BP,_,_,rfl,rfl,Pd (fun k=>⟨_,rfl,a,_,_,_,rfl,rfl,Ae.of e',BP,_,_,rfl,rfl,k⟩) k⟩) (k _ s1)⟩
    ·rw[T9 hk]at k
     refine⟨_,rfl,a,_,_,_,rfl,rfl,Ae.of e',Ac,rfl,false,Ef hk,AO ?_⟩
     by_cases ht:k0=zS "text"
     ·exact⟨_,rfl,a,_,_,_,rfl,rfl,Ae.of e',Ac,rfl,true,FU ht,AL (IY (by rw[decide_eq_true ht];rfl) (k _ s1))⟩
     ·exact⟨_,rfl,a,_,_,_,rfl,rfl,Ae.of e',Ac,rfl,false,Ef ht,AO ⟨_,rfl,a,_,_,_,rfl,rfl,Ae.of e',Ac,rfl,IY (by rw[decide_eq_false ht,Bool.false_or];exact XM) (k _ s1)⟩⟩
theorem F4:AW ["thing"] ["thing"] (AI CC):=A4
theorem Fb (T:Txt w K mg t):Ao P w K mg base Bc 2 t.bc t.bd ["thing"] (HZ Fr):=by
 have D:=T.ef
 refine D.fn.okX F4 ?_ (fun cdv A outer s H vs Q E hr h Z hZ=>?_)
 ·rintro _ _ _ _ ⟨v,th,rfl,_⟩
  rfl
 ·obtain⟨v,th,rfl,h,k⟩:=h
  refine hZ ⟨_,((AG (AK (SR (Al GZ (AJ 0) Co (AQ _)) (As (AZ T.d0 (Bx T) (Bd hr) (AA (AJ 0) AB))))))),?_⟩
  try dsimp only[cx_K,cx_mg]
  cases id h with
  | non=>
   exact⟨_,rfl,rfl,true,rfl,AL (k _ (AF.refl _))⟩
  | bl b=>
   exact⟨_,rfl,rfl,false,rfl,AO ⟨_,rfl,_,_,rfl,h,k⟩⟩
  | int i=>
   exact⟨_,rfl,rfl,false,rfl,AO ⟨_,rfl,_,_,rfl,h,k⟩⟩
  | str z hz=>
   exact⟨_,rfl,rfl,false,rfl,AO ⟨_,rfl,_,_,rfl,h,k⟩⟩
  | @lst a xs e=>
   exact⟨_,rfl,rfl,false,rfl,AO ⟨_,rfl,_,_,rfl,h,k⟩⟩
  | @dic a kvs e=>
   exact⟨_,rfl,rfl,false,rfl,AO ⟨_,rfl,_,_,rfl,h,k⟩⟩
  | @tup a us ts e hn hh=>
   exact⟨_,rfl,rfl,false,rfl,AO ⟨_,rfl,_,_,rfl,h,k⟩⟩
theorem HP:AW ["thing","stands"] ["thing"] (AI E7):=A4
theorem GR (T:Txt w K mg t):Ao P w K mg base Bc 3 t.be t.bf ["thing"] (HZ CO):=by
 have D:=T.eg
 refine D.fn.okX HP ?_ (fun cdv A outer s H vs Q E hr h Z hZ=>?_)
 ·rintro _ _ _ _ ⟨v,th,rfl,_⟩
  rfl
 ·obtain⟨v,th,rfl,h,k⟩:=h
  refine hZ ⟨_,((AE (Ak (Be (A2 (Az (AN Aj (by rfl) T.fp Aa (AA (AJ 0) (AA (BN T.ft A0) AB))))) (Bf (AV II (AN Ab (by rfl) T.fn PySem.boot_len (AA (AJ 0) AB)) AD (AQ _)))).pt (AG (AK BJ)) AY)
   (AE (Ag (i:=1) HP.nd rfl (Or.inl rfl) (An (AN Aj (by rfl) T.fp Aa (AT (AU AM (AJ 0) AD (fun _ _=>rfl)) (AA (BN T.fr ED) AB))) (As (AN Aj (by rfl) T.fp Aa (AT (AU AM (AJ 0) AD (fun _ _=>rfl)) (AA (BN T.fr ED) AB))))))
   (AG (AK (An (AJ 1) (An (AZ T.d1 (Bi T) (Bd hr) (AT (AU AM (AJ 0) AD (fun _ _=>rfl)) (AA (A1 T.f6) AB))) (As (AZ T.d1 (Bi T) (Bd hr) (AT (AU AM (AJ 0) AD (fun _ _=>rfl)) (AA (A1 T.f7) AB))))))))))),?_⟩
  try dsimp only[cx_K,cx_mg]
  cases id h with
  | non=>
   exact⟨_,rfl,_,_,_,_,false,rfl,h.ty,rfl,(fun _=>.inr trivial),T.gv,false,rfl,AL (AL (k _ (AF.refl _)))⟩
  | bl b=>
   exact⟨_,rfl,_,_,_,_,false,rfl,h.ty,rfl,(fun _=>.inr trivial),T.gz,false,rfl,AL (AL (k _ (AF.refl _)))⟩
  | int i=>
   exact⟨_,rfl,_,_,_,_,false,rfl,h.ty,rfl,(fun _=>.inr trivial),T.g3,false,rfl,AL (AL (k _ (AF.refl _)))⟩
  | str z hz=>
   exact⟨_,rfl,_,_,_,_,false,rfl,h.ty,rfl,(fun _=>.inr trivial),T.g7,false,rfl,AL (AL (k _ (AF.refl _)))⟩
  | @lst a xs e=>
   exact⟨_,rfl,_,_,_,_,false,rfl,h.ty,rfl,(fun _=>.inr trivial),T.hb,false,rfl,AL (AL (k _ (AF.refl _)))⟩
  | @dic a kvs e=>
   exact⟨_,rfl,_,_,_,_,false,rfl,h.ty,rfl,(fun _=>.inr trivial),T.hf,false,rfl,AL (AL (k _ (AF.refl _)))⟩
  | @tup a us ts e hn hh=>
   have p:=BB.toP hn hh
   refine⟨_,rfl,_,_,_,_,true,rfl,h.ty,rfl,(fun _=>.inr trivial),T.hj,true,rfl,AO ?_⟩
   by_cases hl:us.length=4
   ·refine⟨_,rfl,a,_,rfl,.inr (Ae.of e),rfl,false,Ng (by omega),AO ?_⟩
    obtain⟨u0,u1,u2,u3,rfl⟩:∃ u0 u1 u2 u3,us=[u0,u1,u2,u3]:=UA hl
    cases p with | cons p0 p=>cases p with | cons p1 p=>cases p with | cons p2 p=>cases p with | cons p3 p=>cases p with | nil=>
    rename_i t0 t1 t2 t3
    have k:∀ H',AF H H'→Q (.bl (Ez t2&&Ez t3&&BF 16 t0&&BF 8 t1)) H':=k
    refine⟨_,rfl,a,_,_,_,rfl,rfl,Ae.of e,Bp,_,_,_,_,(Ez t2),rfl,p2.ty,rfl,(fun _=>.inr trivial),UT T t2,Pd (fun q=>⟨_,rfl,a,_,_,_,rfl,rfl,Ae.of e,Ib,_,_,_,_,(Ez t3),rfl,p3.ty,rfl,(fun _=>.inr trivial),UT T t3,q⟩) ?_⟩
    refine⟨_,rfl,_,rfl,?_⟩
    cases e2:(Ez t2&&Ez t3)with
    | false=>rw[e2]at k;exact AO (k _ (AF.refl _))
    | true=>
     rw[e2]at k
     refine AL ⟨_,rfl,a,_,_,_,rfl,rfl,Ae.of e,Ac,u0,t0,16,rfl,p0,fun H2 s2=>⟨_,rfl,?_⟩⟩
     cases e3:BF 16 t0 with
     | false=>rw[e3]at k;exact AO (k _ s2)
     | true=>
      rw[e3]at k
      exact AL ⟨_,rfl,a,_,_,_,rfl,rfl,Ae.of (s2 _ _ e),BP,u1,t1,8,rfl,p1.same s2,fun H3 s3=>k _ (s2.trans s3)⟩
   ·refine⟨_,rfl,a,_,rfl,.inr (Ae.of e),rfl,true,Nh (by omega),AL (IY ?_ (k _ (AF.refl _)))⟩
    rw[Oh (by rw[← hn];exact hl)]
theorem He:AW ["thing"] ["thing"] (AI Cw):=A4
theorem EJ (T:Txt w K mg t):Ao P w K mg base Bc 3 t.bg t.bh ["thing"] (HZ EI):=by
 have D:=T.eh
 refine D.fn.okX He ?_ (fun cdv A outer s H vs Q E hr h Z hZ=>?_)
 ·rintro _ _ _ _ ⟨v,th,rfl,_⟩
  rfl
 ·obtain⟨v,th,rfl,h,k⟩:=h
  refine hZ ⟨_,((AE (Ak (Be (A2 (Az (AN Aj (by rfl) T.fp Aa (AA (AJ 0) (AA (BN T.ft A0) AB))))) (Bf (AV II (AN Ab (by rfl) T.fn PySem.boot_len (AA (AJ 0) AB)) AD (AQ _)))).pt (AG (AK BJ)) AY)
   (AG (AK (An (AZ T.d1 (Bi T) (Bd hr) (AT (AU AM (AJ 0) AD (fun _ _=>rfl)) (AA (A1 T.f7) AB))) (As (AN Aj (by rfl) T.fp Aa (AT (AU AM (AJ 0) AD (fun _ _=>rfl)) (AA (BN T.fr ED) AB))))))))),?_⟩
  try dsimp only[cx_K,cx_mg]
  cases id h with
  | non=>
   exact⟨_,rfl,_,_,_,_,false,rfl,h.ty,rfl,(fun _=>.inr trivial),T.gv,false,rfl,AL (AL (k _ (AF.refl _)))⟩
  | bl b=>
   exact⟨_,rfl,_,_,_,_,false,rfl,h.ty,rfl,(fun _=>.inr trivial),T.gz,false,rfl,AL (AL (k _ (AF.refl _)))⟩
  | int i=>
   exact⟨_,rfl,_,_,_,_,false,rfl,h.ty,rfl,(fun _=>.inr trivial),T.g3,false,rfl,AL (AL (k _ (AF.refl _)))⟩
  | str z hz=>
   exact⟨_,rfl,_,_,_,_,false,rfl,h.ty,rfl,(fun _=>.inr trivial),T.g7,false,rfl,AL (AL (k _ (AF.refl _)))⟩
  | @lst a xs e=>
   exact⟨_,rfl,_,_,_,_,false,rfl,h.ty,rfl,(fun _=>.inr trivial),T.hb,false,rfl,AL (AL (k _ (AF.refl _)))⟩
  | @dic a kvs e=>
   exact⟨_,rfl,_,_,_,_,false,rfl,h.ty,rfl,(fun _=>.inr trivial),T.hf,false,rfl,AL (AL (k _ (AF.refl _)))⟩
  | @tup a us ts e hn hh=>
   have p:=BB.toP hn hh
   refine⟨_,rfl,_,_,_,_,true,rfl,h.ty,rfl,(fun _=>.inr trivial),T.hj,true,rfl,AO ?_⟩
   by_cases hl:us.length=2
   ·refine⟨_,rfl,a,_,rfl,.inr (Ae.of e),rfl,false,Ng (by omega),AO ?_⟩
    obtain⟨u0,u1,rfl⟩:∃ u0 u1,us=[u0,u1]:=HW hl
    cases p with | cons p0 p=>cases p with | cons p1 p=>cases p with | nil=>
    rename_i t0 t1
    have k:∀ H',AF H H'→Q (.bl (BF 8 t0&&Ez t1)) H':=k
    refine⟨_,rfl,a,_,_,_,rfl,rfl,Ae.of e,Ac,u0,t0,8,rfl,p0,fun H2 s2=>⟨_,rfl,?_⟩⟩
    cases e3:BF 8 t0 with
    | false=>rw[e3]at k;exact AO (k _ s2)
    | true=>
     rw[e3]at k
     exact AL ⟨_,rfl,a,_,_,_,rfl,rfl,Ae.of (s2 _ _ e),BP,_,_,_,_,(Ez t1),rfl,(p1.same s2).ty,rfl,(fun _=>.inr trivial),UT T t1,k _ s2⟩
   ·refine⟨_,rfl,a,_,rfl,.inr (Ae.of e),rfl,true,Nh (by omega),AL (IY ?_ (k _ (AF.refl _)))⟩
    rw[Oi (by rw[← hn];exact hl)]
theorem JC:AW ["thing"] ["thing"] (AI DS):=A4
theorem Hf (T:Txt w K mg t):Ao P w K mg base Bc 4 t.bi t.bj ["thing"] XR:=by
 have D:=T.ei
 refine D.fn.okX JC ?_ (fun cdv A outer s H vs Q E hr h Z hZ=>?_)
 ·rintro _ _ _ _ ⟨v,k0,ts,rfl,_⟩
  rfl
 ·obtain⟨v,k0,ts,rfl,h,hk,k⟩:=h
  refine hZ ⟨_,((AE (Ak (A2 (Az (AZ T.ef (Fb T) (Bd hr) (AT (AU AM (AJ 0) AD (fun _ _=>rfl)) AB)))) (AG (AK BJ)) AY)
   (AE (Ak (AV Aq (AU AM (AJ 0) AD (fun _ _=>rfl)) AS (AQ _)) (AG (AK (An (AZ T.eh (EJ T) (Bd hr) (AT (AU AM (AJ 0) AD (fun _ _=>rfl)) AB)) (An (AZ T.eh (EJ T) (Bd hr) (AT (AU AM (AJ 0) AD (fun _ _=>rfl)) AB)) (As (Al DC (AU AM (AU AM (AJ 0) AD (fun _ _=>rfl)) AD (fun _ _=>rfl)) (AU AM (AU AM (AJ 0) AD (fun _ _=>rfl)) AD (fun _ _=>rfl)) (AQ _))))))) AY)
   (AE (Ak (A2 (Az (AZ T.eg (GR T) (Bd hr) (AT (AU AM (AJ 0) AD (fun _ _=>rfl)) AB)))) (AG (AK BJ)) AY)
   (AE (Ak (AV Aq (AU AM (AJ 0) AD (fun _ _=>rfl)) AS (AQ _)) (AG (AK BJ)) AY)
   (AG (AK (An (AZ T.eg (GR T) (Bd hr) (AT (AU AM (AJ 0) AD (fun _ _=>rfl)) AB)) (An (Al DC (AU AM (AU AM (AJ 0) AD (fun _ _=>rfl)) AD (fun _ _=>rfl)) (AU AM (AU AM (AJ 0) AD (fun _ _=>rfl)) AD (fun _ _=>rfl)) (AQ _)) (As (Al DC (AU AM (AU AM (AJ 0) AD (fun _ _=>rfl)) AD (fun _ _=>rfl)) (AU AM (AU AM (AJ 0) AD (fun _ _=>rfl)) AD (fun _ _=>rfl)) (AQ _)))))))))))),?_⟩
  try dsimp only[cx_K,cx_mg]
  obtain⟨a,us,rfl,e,p⟩:=CH h
  cases p with | cons p0 p=>
  cases p0
  rcases hk with⟨rfl,hl⟩ | ⟨rfl,hl⟩ | ⟨rfl,hl⟩
  ·obtain⟨t1,t2,rfl⟩:=HW hl
   cases p with | cons p1 p=>cases p with | cons p2 p=>cases p with | nil=>
   rw[QY]at k
   refine⟨_,rfl,a,_,_,_,rfl,rfl,Ae.of e,BP,_,t1,rfl,p1,fun H1 s1=>⟨_,rfl,?_⟩⟩
   cases e1:Fr t1 with
   | false=>rw[e1]at k;exact AL (k _ s1)
   | true=>
    rw[e1]at k
    refine AO ?_
    have e':=s1 _ _ e
    refine⟨_,rfl,a,_,_,_,rfl,rfl,Ae.of e',Ac,rfl,false,(by nofun),AO ?_⟩
    refine⟨_,rfl,a,_,_,_,rfl,rfl,Ae.of e',Bp,_,t2,rfl,p2.same s1,fun H2 s2=>⟨_,rfl,?_⟩⟩
    cases e2:CO t2 with
    | false=>rw[e2]at k;exact AL (k _ (s1.trans s2))
    | true=>
     rw[e2]at k
     exact AO ⟨_,rfl,a,_,_,_,rfl,rfl,Ae.of (s2 _ _ e'),Ac,rfl,true,(by nofun),AL (k _ (s1.trans s2))⟩
  ·obtain⟨t1,t2,t3,rfl⟩:=LX hl
   cases p with | cons p1 p=>cases p with | cons p2 p=>cases p with | cons p3 p=>cases p with | nil=>
   rw[Oj]at k
   refine⟨_,rfl,a,_,_,_,rfl,rfl,Ae.of e,BP,_,t1,rfl,p1,fun H1 s1=>⟨_,rfl,?_⟩⟩
   cases e1:Fr t1 with
   | false=>rw[e1]at k;exact AL (k _ s1)
   | true=>
    rw[e1,Bool.true_and]at k
    refine AO ?_
    have e':=s1 _ _ e
    refine⟨_,rfl,a,_,_,_,rfl,rfl,Ae.of e',Ac,rfl,false,(by nofun),AO ?_⟩
    refine⟨_,rfl,a,_,_,_,rfl,rfl,Ae.of e',Bp,_,t2,rfl,p2.same s1,fun H2 s2=>⟨_,rfl,?_⟩⟩
    have s12:=s1.trans s2
    have e'':=s2 _ _ e'
    cases e2:CO t2 with
    | false=>rw[R6 e2]at k;exact AL (k _ s12)
    | true=>
     refine AO ⟨_,rfl,a,_,_,_,rfl,rfl,Ae.of e'',Ac,rfl,false,(by nofun),AO ?_⟩
     refine⟨_,rfl,a,_,_,_,rfl,rfl,Ae.of e'',Ib,_,t3,rfl,p3.same s12,fun H3 s3=>⟨_,rfl,?_⟩⟩
     have s13:=s12.trans s3
     have e3':=s3 _ _ e''
     cases e3:CO t3 with
     | false=>rw[R7 e3]at k;exact AO (k _ s13)
     | true=>
      obtain⟨i,j,b,c,rfl⟩:=Il e2
      obtain⟨i',j',b',c',rfl⟩:=Il e3
      rw[R8 e2 e3]at k
      obtain⟨q,vs1,rfl,hq,pq⟩:=CH (p2.same s13)
      obtain⟨q',vs2,rfl,hq',pq'⟩:=CH (p3.same s13)
      cases pq with | cons q0 pq=>cases pq with | cons q1 pq=>
      cases pq' with | cons q0' pq'=>cases pq' with | cons q1' pq'=>
      cases q0;cases q1;cases q0';cases q1'
      exact AL ⟨_,rfl,a,_,_,_,rfl,rfl,Ae.of e3',Bp,q,_,_,_,rfl,rfl,Ae.of hq,Ac,_,rfl,a,_,_,_,rfl,rfl,Ae.of e3',Ib,q',_,_,_,rfl,rfl,Ae.of hq',Ac,_,_,rfl,rfl,Pd (fun k=>⟨_,rfl,a,_,_,_,rfl,rfl,Ae.of e3',Bp,q,_,_,_,rfl,rfl,Ae.of hq,BP,_,rfl,a,_,_,_,rfl,rfl,Ae.of e3',Ib,q',_,_,_,rfl,rfl,Ae.of hq',BP,_,_,rfl,rfl,k⟩) (k _ s13)⟩
  ·obtain⟨t1,t2,t3,rfl⟩:=LX hl
   cases p with | cons p1 p=>cases p with | cons p2 p=>cases p with | cons p3 p=>cases p with | nil=>
   rw[Li]at k
   refine⟨_,rfl,a,_,_,_,rfl,rfl,Ae.of e,BP,_,t1,rfl,p1,fun H1 s1=>⟨_,rfl,?_⟩⟩
   cases e1:Fr t1 with
   | false=>rw[e1]at k;exact AL (k _ s1)
   | true=>
    rw[e1,Bool.true_and]at k
    refine AO ?_
    have e':=s1 _ _ e
    refine⟨_,rfl,a,_,_,_,rfl,rfl,Ae.of e',Ac,rfl,true,(by nofun),AL ?_⟩
    refine⟨_,rfl,a,_,_,_,rfl,rfl,Ae.of e',Bp,_,t2,rfl,p2.same s1,fun H2 s2=>⟨_,rfl,?_⟩⟩
    have s12:=s1.trans s2
    have e'':=s2 _ _ e'
    cases e2:EI t2 with
    | false=>rw[QV e2]at k;exact AO (k _ s12)
    | true=>
     refine AL ⟨_,rfl,a,_,_,_,rfl,rfl,Ae.of e'',Ib,_,t3,rfl,p3.same s12,fun H3 s3=>⟨_,rfl,?_⟩⟩
     have s13:=s12.trans s3
     have e3':=s3 _ _ e''
     cases e3:EI t3 with
     | false=>rw[QW e3]at k;exact AO (k _ s13)
     | true=>
      obtain⟨i,b,rfl⟩:=Ik e2
      obtain⟨i',b',rfl⟩:=Ik e3
      rw[QX e2 e3]at k
      obtain⟨q,vs1,rfl,hq,pq⟩:=CH (p2.same s13)
      obtain⟨q',vs2,rfl,hq',pq'⟩:=CH (p3.same s13)
      cases pq with | cons q0 pq=>
      cases pq' with | cons q0' pq'=>
      cases q0;cases q0'
      exact AL ⟨_,rfl,a,_,_,_,rfl,rfl,Ae.of e3',Bp,q,_,_,_,rfl,rfl,Ae.of hq,Ac,_,rfl,a,_,_,_,rfl,rfl,Ae.of e3',Ib,q',_,_,_,rfl,rfl,Ae.of hq',Ac,_,_,rfl,rfl,k _ s13⟩
theorem Lv:AW ["thing"] ["thing"] (AI E8):=A4
theorem Ki (T:Txt w K mg t):Ao P w K mg base Bc 3 t.bk t.bl ["thing"] Vg:=by
 have D:=T.ej
 refine D.fn.okX Lv ?_ (fun cdv A outer s H vs Q E hr h Z hZ=>?_)
 ·rintro _ _ _ _ ⟨v,k0,ts,rfl,_⟩
  rfl
 ·obtain⟨v,k0,ts,rfl,h,hk,k⟩:=h
  refine hZ ⟨_,((AE (Ak (A2 (Az (AZ T.ec (CF T) (Bd hr) (AT (AU AM (AJ 0) AD (fun _ _=>rfl)) AB)))) (AG (AK BJ)) AY)
   (AE (Ak (AV Aq (AU AM (AJ 0) AD (fun _ _=>rfl)) AS (AQ _)) (AG (AK BJ)) AY)
   (AG (AK (An (AN Aj (by rfl) T.fp Aa (AT (AU AM (AJ 0) AD (fun _ _=>rfl)) (AA (BN T.ft A0) AB))) (As (Al DC (AN Ab (by rfl) T.fn PySem.boot_len (AT (AU AM (AJ 0) AD (fun _ _=>rfl)) AB)) (A1 T.ge) (AQ _))))))))),?_⟩
  try dsimp only[cx_K,cx_mg]
  obtain⟨a,us,rfl,e,p⟩:=CH h
  cases p with | cons p0 p=>
  cases p0
  rcases hk with⟨rfl,hl⟩ | ⟨rfl,hl⟩
  ·obtain⟨t1,rfl⟩:=LW hl
   cases p with | cons p1 p=>cases p with | nil=>
   rw[QZ]at k
   refine⟨_,rfl,a,_,_,_,rfl,rfl,Ae.of e,BP,_,t1,rfl,p1,fun H1 s1=>⟨_,rfl,?_⟩⟩
   cases e1:Lb t1 with
   | false=>rw[e1]at k;exact AL (k _ s1)
   | true=>
    rw[e1]at k
    have e':=s1 _ _ e
    exact AO ⟨_,rfl,a,_,_,_,rfl,rfl,Ae.of e',Ac,rfl,true,(by nofun),AL (k _ s1)⟩
  ·obtain⟨t1,t2,rfl⟩:=HW hl
   cases p with | cons p1 p=>cases p with | cons p2 p=>cases p with | nil=>
   rw[R9]at k
   refine⟨_,rfl,a,_,_,_,rfl,rfl,Ae.of e,BP,_,t1,rfl,p1,fun H1 s1=>⟨_,rfl,?_⟩⟩
   cases e1:Lb t1 with
   | false=>rw[e1]at k;exact AL (k _ s1)
   | true=>
    rw[e1,Bool.true_and]at k
    refine AO ?_
    have e':=s1 _ _ e
    refine⟨_,rfl,a,_,_,_,rfl,rfl,Ae.of e',Ac,rfl,false,(by nofun),AO ?_⟩
    have h2:=p2.same s1
    cases id h2 with
    | non=>exact⟨_,rfl,a,_,_,_,rfl,rfl,Ae.of e',Bp,_,_,_,_,false,rfl,h2.ty,rfl,(fun _=>.inr trivial),T.gv,false,rfl,AO (k _ s1)⟩
    | bl b=>exact⟨_,rfl,a,_,_,_,rfl,rfl,Ae.of e',Bp,_,_,_,_,false,rfl,h2.ty,rfl,(fun _=>.inr trivial),T.gz,false,rfl,AO (k _ s1)⟩
    | int i=>exact⟨_,rfl,a,_,_,_,rfl,rfl,Ae.of e',Bp,_,_,_,_,false,rfl,h2.ty,rfl,(fun _=>.inr trivial),T.g3,false,rfl,AO (k _ s1)⟩
    | str z hz=>exact⟨_,rfl,a,_,_,_,rfl,rfl,Ae.of e',Bp,_,_,_,_,false,rfl,h2.ty,rfl,(fun _=>.inr trivial),T.g7,false,rfl,AO (k _ s1)⟩
    | @lst b2 xs2 e2=>exact⟨_,rfl,a,_,_,_,rfl,rfl,Ae.of e',Bp,_,_,_,_,false,rfl,h2.ty,rfl,(fun _=>.inr trivial),T.hb,false,rfl,AO (k _ s1)⟩
    | @dic b2 kvs2 e2=>exact⟨_,rfl,a,_,_,_,rfl,rfl,Ae.of e',Bp,_,_,_,_,false,rfl,h2.ty,rfl,(fun _=>.inr trivial),T.hf,false,rfl,AO (k _ s1)⟩
    | @tup b2 us2 ts2 e2 hn2 hh2=>exact⟨_,rfl,a,_,_,_,rfl,rfl,Ae.of e',Bp,_,_,_,_,true,rfl,h2.ty,rfl,(fun _=>.inr trivial),T.hj,true,rfl,AL ⟨_,rfl,a,_,_,_,rfl,rfl,Ae.of e',Bp,b2,_,rfl,.inr (Ae.of e2),_,_,rfl,rfl,IY (by rw[hn2];exact congrArg V.bl XT) (k _ s1)⟩⟩
theorem M0:AW ["thing","params"] ["thing","params"] (AI Fx):=A4
theorem Lw (T:Txt w K mg t):Ao P w K mg base Bc 2 t.bm t.bn ["thing","params"] Vh:=by
 have D:=T.ek
 refine D.fn.okX M0 ?_ (fun cdv A outer s H vs Q E hr h Z hZ=>?_)
 ·rintro _ _ _ _ ⟨v,th,pr,rfl,_⟩
  rfl
 ·obtain⟨v,th,pr,rfl,h,k⟩:=h
  refine hZ ⟨_,((AG (AK (An (AZ T.dx (Dj T) (Bd hr) (AA (AJ 0) AB)) (An (Al DC AD (AJ 0) (AQ _)) (As (Al O4 (AJ 0) (AN (N7 rfl) (by rfl) T.fx P9 (AA (AJ 1) (AA (A1 T.gf) AB))) (AQ _)))))))),?_⟩
  try dsimp only[cx_K,cx_mg]
  cases id h with
  | non=>
   exact⟨_,rfl,_,_,rfl,h,fun H1 s1=>⟨false,rfl,AO (k _ s1)⟩⟩
  | bl b=>
   exact⟨_,rfl,_,_,rfl,h,fun H1 s1=>⟨false,rfl,AO (k _ s1)⟩⟩
  | int i=>
   refine⟨_,rfl,_,_,rfl,h,fun H1 s1=>⟨true,rfl,AL ?_⟩⟩
   have k':Q (.bl (decide (0≤i)&&decide (i<min pr 3))) H1:=k H1 s1
   exact⟨_,rfl,_,_,rfl,rfl,Pd (fun k=>⟨_,rfl,_,rfl,_,_,rfl,_,_,rfl,rfl,IY (by rw[XU]) k⟩) k'⟩
  | str z hz=>
   exact⟨_,rfl,_,_,rfl,h,fun H1 s1=>⟨false,rfl,AO (k _ s1)⟩⟩
  | @lst a xs e=>
   exact⟨_,rfl,_,_,rfl,h,fun H1 s1=>⟨false,rfl,AO (k _ s1)⟩⟩
  | @dic a kvs e=>
   exact⟨_,rfl,_,_,rfl,h,fun H1 s1=>⟨false,rfl,AO (k _ s1)⟩⟩
  | @tup a us ts e hn hh=>
   exact⟨_,rfl,_,_,rfl,h,fun H1 s1=>⟨false,rfl,AO (k _ s1)⟩⟩
theorem JD:AW ["thing","params","kind"] ["thing","params"] (AI Fy):=A4
theorem HQ (T:Txt w K mg t):Ao P w K mg base Bc 6 t.bo t.bp ["thing","params"] XS:=by
 have D:=T.el
 refine D.fn.okX JD ?_ (fun cdv A outer s H vs Q E hr h Z hZ=>?_)
 ·rintro _ _ _ _ ⟨v,th,pr,rfl,_⟩
  rfl
 ·obtain⟨v,th,pr,rfl,h,k⟩:=h
  refine hZ ⟨_,((AE (Ak (Be (A2 (Az (AN Aj (by rfl) T.fp Aa (AA (AJ 0) (AA (BN T.ft A0) AB))))) (Be (AV Aq (AN Ab (by rfl) T.fn PySem.boot_len (AA (AJ 0) AB)) AD (AQ _)) (Bf (A2 (Az (AN Aj (by rfl) T.fp Aa (AT (AU AM (AJ 0) AD (fun _ _=>rfl)) (AA (BN T.fs EE) AB)))))))).pt (AG (AK BJ)) AY)
   (AE (Ag (i:=2) JD.nd rfl (Or.inl rfl) (AU AM (AJ 0) AD (fun _ _=>rfl)))
   (AE (Ak (AV II (AN Ab (by rfl) T.fn PySem.boot_len (AA (AJ 0) AB)) (GG (RY T.gk) (AJ 2) AD ⟨rfl,rfl,rfl,rfl⟩) (AQ _)) (AG (AK BJ)) AY)
   (AE (Ak (AV Aq (AJ 2) AS (AQ _)) (AG (AK (AZ T.ee (Fa T) (Bd hr) (AT (AU AM (AJ 0) AD (fun _ _=>rfl)) AB)))) AY)
   (AE (Ak (Be (AV Aq (AJ 2) AS (AQ _)) (Be (AV Aq (AJ 2) AS (AQ _)) (Bf (AV Aq (AJ 2) AS (AQ _))))).pt (AG (AK (AZ T.ei (Hf T) (Bd hr) (AA (AJ 0) AB)))) AY)
   (AE (Ak (Be (AV Aq (AJ 2) AS (AQ _)) (Bf (AV Aq (AJ 2) AS (AQ _)))).pt (AG (AK (AZ T.ej (Ki T) (Bd hr) (AA (AJ 0) AB)))) AY)
   (AE (Ak (AV Aq (AJ 2) AS (AQ _)) (AG (AK (AZ T.ek (Lw T) (Bd hr) (AT (AU AM (AJ 0) AD (fun _ _=>rfl)) (AA (AJ 1) AB))))) AY)
   (AE (Ak (AV Aq (AJ 2) AS (AQ _)) (AG (AK (AZ T.ed (GQ T) (Bd hr) (AT (AU AM (AJ 0) AD (fun _ _=>rfl)) (AA (Hv T.gi) AB))))) AY)
   (AE (Ak (AV Aq (AJ 2) AS (AQ _)) (AG (AK (AZ T.ed (GQ T) (Bd hr) (AT (AU AM (AJ 0) AD (fun _ _=>rfl)) (AA (Hv T.gj) AB))))) AY)
   (AE (Ak (AV Aq (AJ 2) AS (AQ _)) (AG (AK (An (AZ T.d1 (Bi T) (Bd hr) (AT (AU AM (AJ 0) AD (fun _ _=>rfl)) (AA (A1 T.f6) AB))) (As (AZ T.d1 (Bi T) (Bd hr) (AT (AU AM (AJ 0) AD (fun _ _=>rfl)) (AA (A1 T.f7) AB))))))) AY)
   (AG (AK BJ))))))))))))),?_⟩
  try dsimp only[cx_K,cx_mg]
  cases id h with
  | non=>
   exact⟨_,rfl,_,_,_,_,false,rfl,h.ty,rfl,(fun _=>.inr trivial),T.gv,false,rfl,AL (AL (k _ (AF.refl _)))⟩
  | bl b=>
   exact⟨_,rfl,_,_,_,_,false,rfl,h.ty,rfl,(fun _=>.inr trivial),T.gz,false,rfl,AL (AL (k _ (AF.refl _)))⟩
  | int i=>
   exact⟨_,rfl,_,_,_,_,false,rfl,h.ty,rfl,(fun _=>.inr trivial),T.g3,false,rfl,AL (AL (k _ (AF.refl _)))⟩
  | str z hz=>
   exact⟨_,rfl,_,_,_,_,false,rfl,h.ty,rfl,(fun _=>.inr trivial),T.g7,false,rfl,AL (AL (k _ (AF.refl _)))⟩
  | @lst a xs e=>
   exact⟨_,rfl,_,_,_,_,false,rfl,h.ty,rfl,(fun _=>.inr trivial),T.hb,false,rfl,AL (AL (k _ (AF.refl _)))⟩
  | @dic a kvs e=>
   exact⟨_,rfl,_,_,_,_,false,rfl,h.ty,rfl,(fun _=>.inr trivial),T.hf,false,rfl,AL (AL (k _ (AF.refl _)))⟩
  | @tup a us ts e hn hh=>
   have p:=BB.toP hn hh
   refine⟨_,rfl,_,_,_,_,true,rfl,h.ty,rfl,(fun _=>.inr trivial),T.hj,true,rfl,AO ?_⟩
   cases p with
   | nil=>exact⟨_,rfl,a,_,rfl,.inr (Ae.of e),rfl,true,Md rfl,AL (AL (k _ (AF.refl _)))⟩
   | cons p0 p=>
    rename_i u0 t0 us ts
    have hlen:us.length=ts.length:=Paired.length p
    refine⟨_,rfl,a,_,rfl,.inr (Ae.of e),rfl,false,Go (by simp only[List.length_cons];omega),AO ?_⟩
    cases id p0 with
    | non=>
     exact⟨_,rfl,a,_,_,_,rfl,rfl,Ae.of e,Ac,_,_,_,_,false,rfl,p0.ty,rfl,(fun _=>.inr trivial),T.gu,false,rfl,AL (k _ (AF.refl _))⟩
    | bl b=>
     exact⟨_,rfl,a,_,_,_,rfl,rfl,Ae.of e,Ac,_,_,_,_,false,rfl,p0.ty,rfl,(fun _=>.inr trivial),T.gy,false,rfl,AL (k _ (AF.refl _))⟩
    | int i=>
     exact⟨_,rfl,a,_,_,_,rfl,rfl,Ae.of e,Ac,_,_,_,_,false,rfl,p0.ty,rfl,(fun _=>.inr trivial),T.g2,false,rfl,AL (k _ (AF.refl _))⟩
    | str z hz=>
     refine⟨_,rfl,a,_,_,_,rfl,rfl,Ae.of e,Ac,_,_,_,_,true,rfl,p0.ty,rfl,(fun _=>.inr trivial),T.g6,true,rfl,AO ?_⟩
     refine⟨_,rfl,a,_,_,_,rfl,rfl,Ae.of e,Ac,?_⟩
     refine⟨_,rfl,a,_,rfl,.inr (Ae.of e),fun pa hk=>⟨pa,_,rfl,hk,_,rfl,Sum.inr z,rfl,?_⟩⟩
     rw[QK]
     have k:∀ H',AF H H'→Q (.bl (decide (((ts.length+1:Nat):Int)=DM z)&&BO pr z ts)) H':=k
     by_cases hL:((ts.length+1:Nat):Int)=DM z
     rotate_left
     ·rw[decide_eq_false hL]at k
      exact⟨rfl,true,Nh (by simp only[List.length_cons];rw[hlen];exact hL),AL (k _ (AF.refl _))⟩
     refine⟨rfl,false,Ng (by simp only[List.length_cons];rw[hlen];exact hL),AO ?_⟩
     rw[decide_eq_true hL,Bool.true_and]at k
     by_cases h_value:z=zS "value"
     ·subst h_value
      rw[Ld]at k
      have hl:ts.length=1:=by have e0:DM (zS "value")=2:=(by nofun);rw[e0]at hL;omega
      refine⟨_,rfl,rfl,true,FU rfl,AL ?_⟩
      obtain⟨t1,rfl⟩:=LW hl
      cases p with | cons p1 p=>
      exact⟨_,rfl,a,_,_,_,rfl,rfl,Ae.of e,BP,_,t1,rfl,p1,k⟩
     refine⟨_,rfl,rfl,false,Ef h_value,AO ?_⟩
     by_cases h_cell:z=zS "cell"
     ·subst h_cell
      rw[Nl]at k
      have hl:ts.length=2:=by have e0:DM (zS "cell")=3:=(by nofun);rw[e0]at hL;omega
      refine⟨_,rfl,rfl,true,FU rfl,AL (AL ?_)⟩
      exact⟨_,rfl,_,_,ts,rfl,h,.inl ⟨rfl,hl⟩,k⟩
     refine⟨_,rfl,rfl,false,Ef h_cell,AO ?_⟩
     by_cases h_range:z=zS "range"
     ·subst h_range
      rw[Le]at k
      have hl:ts.length=3:=by have e0:DM (zS "range")=4:=(by nofun);rw[e0]at hL;omega
      refine⟨_,rfl,rfl,true,FU rfl,AL (AL ?_)⟩
      exact⟨_,rfl,_,_,ts,rfl,h,.inr (.inl ⟨rfl,hl⟩),k⟩
     refine⟨_,rfl,rfl,false,Ef h_range,AO ?_⟩
     by_cases h_columns:z=zS "columns"
     ·subst h_columns
      rw[Ii]at k
      have hl:ts.length=3:=by have e0:DM (zS "columns")=4:=(by nofun);rw[e0]at hL;omega
      refine⟨_,rfl,rfl,true,FU rfl,AL ?_⟩
      exact⟨_,rfl,_,_,ts,rfl,h,.inr (.inr ⟨rfl,hl⟩),k⟩
     refine⟨_,rfl,rfl,false,Ef h_columns,AO ?_⟩
     by_cases h_name:z=zS "name"
     ·subst h_name
      rw[Nn]at k
      have hl:ts.length=1:=by have e0:DM (zS "name")=2:=(by nofun);rw[e0]at hL;omega
      refine⟨_,rfl,rfl,true,FU rfl,AL (AL ?_)⟩
      exact⟨_,rfl,_,_,ts,rfl,h,.inl ⟨rfl,hl⟩,k⟩
     refine⟨_,rfl,rfl,false,Ef h_name,AO ?_⟩
     by_cases h_own:z=zS "own"
     ·subst h_own
      rw[QN]at k
      have hl:ts.length=2:=by have e0:DM (zS "own")=3:=(by nofun);rw[e0]at hL;omega
      refine⟨_,rfl,rfl,true,FU rfl,AL ?_⟩
      exact⟨_,rfl,_,_,ts,rfl,h,.inr ⟨rfl,hl⟩,k⟩
     refine⟨_,rfl,rfl,false,Ef h_own,AO ?_⟩
     by_cases h_param:z=zS "param"
     ·subst h_param
      rw[Lg]at k
      have hl:ts.length=1:=by have e0:DM (zS "param")=2:=(by nofun);rw[e0]at hL;omega
      refine⟨_,rfl,rfl,true,FU rfl,AL ?_⟩
      obtain⟨t1,rfl⟩:=LW hl
      cases p with | cons p1 p=>
      exact⟨_,rfl,a,_,_,_,rfl,rfl,Ae.of e,BP,_,rfl,_,t1,pr,rfl,p1,k⟩
     refine⟨_,rfl,rfl,false,Ef h_param,AO ?_⟩
     by_cases h_op:z=zS "op"
     ·subst h_op
      rw[Sm]at k
      have hl:ts.length=3:=by have e0:DM (zS "op")=4:=(by nofun);rw[e0]at hL;omega
      refine⟨_,rfl,rfl,true,FU rfl,AL ?_⟩
      obtain⟨t1,t2,t3,rfl⟩:=LX hl
      cases p with | cons p1 p=>cases p with | cons p2 p=>cases p with | cons p3 p=>
      exact⟨_,rfl,a,_,_,_,rfl,rfl,Ae.of e,BP,fun b hb=>⟨_,t1,b,_,rfl,p1,hb,QT,k⟩⟩
     refine⟨_,rfl,rfl,false,Ef h_op,AO ?_⟩
     by_cases h_sumif:z=zS "sumif"
     ·subst h_sumif
      rw[Lh]at k
      have hl:ts.length=4:=by have e0:DM (zS "sumif")=5:=(by nofun);rw[e0]at hL;omega
      refine⟨_,rfl,rfl,true,FU rfl,AL ?_⟩
      obtain⟨t1,t2,t3,t4,rfl⟩:=UA hl
      cases p with | cons p1 p=>cases p with | cons p2 p=>cases p with | cons p3 p=>cases p with | cons p4 p=>
      exact⟨_,rfl,a,_,_,_,rfl,rfl,Ae.of e,Bp,fun b hb=>⟨_,t2,b,_,rfl,p2,hb,QU,k⟩⟩
     refine⟨_,rfl,rfl,false,Ef h_sumif,AO ?_⟩
     by_cases h_grid:z=zS "grid"
     ·subst h_grid
      rw[No]at k
      have hl:ts.length=4:=by have e0:DM (zS "grid")=5:=(by nofun);rw[e0]at hL;omega
      refine⟨_,rfl,rfl,true,FU rfl,AL ?_⟩
      obtain⟨t1,t2,t3,t4,rfl⟩:=UA hl
      cases p with | cons p1 p=>cases p with | cons p2 p=>cases p with | cons p3 p=>cases p with | cons p4 p=>
      have k:∀ H',AF H H'→Q (.bl (BF 16 t1&&BF 8 t2)) H':=k
      refine⟨_,rfl,a,_,_,_,rfl,rfl,Ae.of e,BP,_,t1,16,rfl,p1,fun H1 s1=>⟨_,rfl,?_⟩⟩
      cases e1:BF 16 t1 with
      | false=>rw[e1]at k;exact AO (k _ s1)
      | true=>
       rw[e1]at k
       exact AL ⟨_,rfl,a,_,_,_,rfl,rfl,Ae.of (s1 _ _ e),Bp,_,t2,8,rfl,p2.same s1,fun H2 s2=>k _ (s1.trans s2)⟩
     refine⟨_,rfl,rfl,false,Ef h_grid,AO ?_⟩
     rw[show BO pr z ts=true by unfold BO;rw[if_neg h_value,if_neg h_cell,if_neg h_range,if_neg h_columns,if_neg h_name,if_neg h_own,if_neg h_param,if_neg h_op,if_neg h_sumif,if_neg h_grid]]at k
     exact k _ (AF.refl _)
    | @lst a0 xs e0=>
     exact⟨_,rfl,a,_,_,_,rfl,rfl,Ae.of e,Ac,_,_,_,_,false,rfl,p0.ty,rfl,(fun _=>.inr trivial),T.ha,false,rfl,AL (k _ (AF.refl _))⟩
    | @dic a0 kvs e0=>
     exact⟨_,rfl,a,_,_,_,rfl,rfl,Ae.of e,Ac,_,_,_,_,false,rfl,p0.ty,rfl,(fun _=>.inr trivial),T.he,false,rfl,AL (k _ (AF.refl _))⟩
    | @tup a0 us0 ts0 e0 hn0 hh0=>
     exact⟨_,rfl,a,_,_,_,rfl,rfl,Ae.of e,Ac,_,_,_,_,false,rfl,p0.ty,rfl,(fun _=>.inr trivial),T.hi,false,rfl,AL (k _ (AF.refl _))⟩
theorem Jw:AW ["thing","params","deep"] ["thing","params","deep"] (AI Gw):=A4
theorem M3 (T:Txt w K mg t):∀ n:Nat,Ao P w K mg base Bc (3*n+8) t.bq t.br ["thing","params","deep"] (XV n):=by
 have D:=T.em
 intro n
 induction n with
 | zero=>
  refine D.fn.okX Jw ?_ (fun cdv A outer s H vs Q E hr h Z hZ=>?_)
  ·rintro _ _ _ _ ⟨v,th,pr,d,rfl,_⟩
   rfl
  ·obtain⟨v,th,pr,d,rfl,hd,h,k⟩:=h
   refine hZ ⟨_,((AE (Ak (Be (AV Aq (AJ 2) AD (AQ _)) (Bf (A2 (Az (AZ T.el (HQ T) (hr.mono (by omega)) (AA (AJ 0) (AA (AJ 1) AB))))))).pt (AG (AK BJ)) AY)
   (AG Dy))),?_⟩
   try dsimp only[cx_K,cx_mg]
   subst hd
   exact⟨_,rfl,rfl,true,rfl,AL (AL (k _ (AF.refl _)))⟩
 | succ n ih=>
  refine D.fn.okX Jw ?_ (fun cdv A outer s H vs Q E hr h Z hZ=>?_)
  ·rintro _ _ _ _ ⟨v,th,pr,d,rfl,_⟩
   rfl
  ·obtain⟨v,th,pr,d,rfl,hd,h,k⟩:=h
   refine hZ ⟨_,((AE (Ak (Be (AV Aq (AJ 2) AD (AQ _)) (Bf (A2 (Az (AZ T.el (HQ T) (hr.mono (by omega)) (AA (AJ 0) (AA (AJ 1) AB))))))).pt (AG (AK BJ)) AY)
   (AG (AK (AN (Cj rfl) (by rfl) T.fv Cl (CM (B7 (fv:=["params","deep"]) (js:=[1,2]) (cl:=[("params",s.heap.objs.size+1),("deep",s.heap.objs.size+2)]) rfl (by with_unfolding_all rfl) ⟨rfl,by nofun,by nofun,rfl,by nofun,by nofun,(List.forall_mem_cons.mpr ⟨⟨rfl,rfl,rfl⟩,(List.forall_mem_cons.mpr ⟨⟨rfl,rfl,rfl⟩,(List.forall_mem_nil _)⟩)⟩),(List.forall_mem_cons.mpr ⟨rfl,(List.forall_mem_cons.mpr ⟨rfl,(List.forall_mem_nil _)⟩)⟩),(.cons rfl (.cons rfl .nil))⟩ (Bt (AZ T.d8 (Kh T) (hr.mono (by omega)) (AA (AJ 0) AB))) (fun _ _ _ _ _=>Cp) (fun _ _ _ _ _=>(AZ T.em ih (hr.mono (by omega)) (AA (AJ 0) (AA (AJ 1) (CL (Ar IH (AJ 2) AD) AB)))))) AB)))))),?_⟩
   try dsimp only[cx_K,cx_mg]
   refine⟨_,rfl,rfl,false,?_,AO ?_⟩
   ·rw[decide_eq_false fun z=>by injection z with z;omega]
   refine⟨_,rfl,_,rfl,v,th,pr,rfl,h,fun H1 s1=>⟨_,rfl,?_⟩⟩
   cases e1:DO pr th with
   | false=>rw[Qc e1]at k;exact AL (k _ s1)
   | true=>
    rw[Qb e1]at k
    refine AO ?_
    refine⟨_,rfl,v,th,pr,rfl,h.same s1,e1,fun lp us H2 nlp hlp pm s2=>?_⟩
    have p3:=T5 e1
    have hus:us.length=(DZ th).length:=Paired.length pm
    refine⟨lp,rfl,⟨_,At.of hlp⟩,fun D hD=>?_⟩
    refine⟨fun i m H4=>m=us.length-i∧i≤us.length∧H4 D=some (.lst (((DZ th).take i).map fun g=>V.bl (DP n pr g)))∧AF H2 H4,⟨us.length,rfl,Nat.zero_le _,AC,AF.new hD⟩,?_⟩
    rintro i m H4 ⟨rfl,hi,hD4,s4⟩
    by_cases hlt:i<us.length
    ·refine .inr ⟨⟨us,us[i],At.of (s4 _ _ hlp),List.getElem?_eq_getElem hlt⟩,fun x H' y=>?_⟩
     obtain⟨e,y⟩:=y
     subst e
     have hx:=y us (At.of (s4 _ _ hlp))
     obtain⟨g,hg,xg⟩:=Au pm hx
     refine⟨_,rfl,_,rfl,_,rfl,_,_,rfl,rfl,x,g,pr,_,rfl,(by omega),xg.same s4,fun H5 s5=>?_⟩
     refine⟨_,s5 _ _ hD4,EG (by rw[List.length_map,List.length_take];omega),us.length-(i+1),(by omega),rfl,hlt,?_,fun b o e=>?_⟩
     ·rw[AC,List.take_add_one,hg,List.map_append];rfl
     ·rw[AR (AX e hD)];exact s5 _ _ (s4 _ _ e)
    have ei:i=us.length:=by omega
    subst ei
    refine .inl ⟨⟨us,At.of (s4 _ _ hlp),Nat.le_refl _⟩,?_⟩
    rw[hus,List.take_length,show((DZ th).map fun g=>V.bl (DP n pr g))=((DZ th).map (DP n pr)).map V.bl by rw[List.map_map];rfl]at hD4
    refine⟨D,_,rfl,At.of hD4,?_⟩
    rw[List.all_map]
    exact k _ ((s1.trans s2).trans s4)
theorem Kj:AW ["thing","params"] ["thing","params"] (AI EZ):=A4
theorem JU (T:Txt w K mg t):Ao P w K mg base Bc 33 t.bs t.bt ["thing","params"] Vv:=by
 have D:=T.en
 refine D.fn.okX Kj ?_ (fun cdv A outer s H vs Q E hr h Z hZ=>?_)
 ·rintro _ _ _ _ ⟨v,f,pr,rfl,_⟩
  rfl
 ·obtain⟨v,f,pr,rfl,hv,fo,h3,sz,k⟩:=h
  refine hZ ⟨_,((AG (AK (An (AZ T.em (M3 T 8) (hr.mono (by omega)) (AA (AJ 0) (AA (AJ 1) (AA (A1 T.gd) AB)))) (As (Al DC (AZ T.eb (JB T) (Bd hr) (AA (AJ 0) AB)) (A1 T.gc) (AQ _))))))),?_⟩
  try dsimp only[cx_K,cx_mg]
  have e1:DP 8 pr (Od f)=true:=fo.tree (Int.le_refl _) h3
  refine⟨_,rfl,_,rfl,v,Od f,pr,_,rfl,rfl,Aw.th fo hv,fun H1 s1=>⟨_,rfl,?_⟩⟩
  rw[e1]
  refine AL ⟨_,rfl,v,f,pr,8,rfl,hv.kp (Kp.same s1),fo,Nat.le_refl _,fun H2 s2=>⟨_,_,rfl,rfl,IY (congrArg V.bl (decide_eq_true (by omega))) (k _ (s1.trans s2))⟩⟩
theorem Hg (T:Txt w K mg t):Ao P w K mg base Bc 0 t.bu t.bv ["thing","sheets"] Xb:=by
 have D:=T.eo
 exact⟨fun _ _ _ _ z=>z.elim,fun _ _ _ _ _ _ _ _ _ _ _ _ _ z=>z.elim⟩
theorem RA:AW ["thing","most"] ["thing","most"] (AI Iz):=A4
theorem FQ (T:Txt w K mg t):Ao P w K mg base Bc 1 t.bw t.bx ["thing","most"] V0:=by
 have D:=T.ep
 refine D.fn.okX RA ?_ (fun cdv A outer s H vs Q E hr h Z hZ=>?_)
 ·rintro _ _ _ _ ⟨a,ys,m,rfl,_⟩
  rfl
 ·obtain⟨a,ys,m,rfl,ha,hm,k⟩:=h
  refine hZ ⟨_,((AG (AK (An (AN JO (by rfl) T.fp Aa (AA (AJ 0) (Av (Ah (AA (BN T.fu EF) (AA (BN T.ft A0) AB))) AB))) (As (Al DC (AN Ab (by rfl) T.fn PySem.boot_len (AA (AJ 0) AB)) (AJ 1) (AQ _))))))),?_⟩
  try dsimp only[cx_K,cx_mg]
  refine⟨_,rfl,A3,fun p hp=>⟨a,p,ys,rfl,AF.new hp _ _ ha,AC,true,rfl,AL ?_⟩⟩
  exact⟨_,rfl,a,ys,rfl,.inl (At.of (AF.new hp _ _ ha)),_,rfl,_,_,rfl,rfl,IY (by simp[hm]) (k _ (AF.new hp))⟩
theorem Kk:AW ["thing"] ["thing"] (AI Ea):=A4
theorem JV (T:Txt w K mg t):Ao P w K mg base Bc 2 t.bz t.b0 ["thing"] V3:=by
 have D:=T.eq
 refine D.fn.okX Kk ?_ (fun cdv A outer s H vs Q E hr h Z hZ=>?_)
 ·rintro _ _ _ _ ⟨a,zs,rfl,_⟩
  rfl
 ·obtain⟨a,zs,rfl,ha,ok,k⟩:=h
  refine hZ ⟨_,((AE (Ak (PW.pt (Be (A2 (Az (AZ T.ep (FQ T) (Bd hr) (AA (AJ 0) (AA (A1 T.gn) AB))))) (Be (AV Aq (AN Ab (by rfl) T.fn PySem.boot_len (AA (AJ 0) AB)) AD (AQ _)) (Bf (A2 (Az (AN (Cj rfl) (by rfl) T.fv Cl (CM (B7 (fv:=[]) (js:=[]) (cl:=[]) rfl (by with_unfolding_all rfl) ⟨rfl,by nofun,by nofun,rfl,by nofun,by nofun,(List.forall_mem_nil _),(List.forall_mem_nil _),.nil⟩ (Bt (AJ 0)) (fun _ _ _ _ _=>Cp) (fun _ _ _ _ _=>(AZ T.d0 (Bx T) (Bd hr) (AA (AJ 0) AB)))) AB)))))))) (AG (AK BJ)) AY)
   (AG (AK (Al Aq (Jr rfl (by rfl) T.fn PySem.boot_len (by rfl) T.fz (AJ 0)) (AN Ab (by rfl) T.fn PySem.boot_len (AA (AJ 0) AB)) (AQ _)))))),?_⟩
  try dsimp only[cx_K,cx_mg]
  obtain⟨h1,h4,nd,nm⟩:=ok
  have hl:(zs.map V.str).length=zs.length:=List.length_map ..
  refine⟨_,rfl,a,_,_,rfl,ha,(by rw[hl];omega),fun H1 s1=>⟨true,rfl,AO ?_⟩⟩
  have ha1:=s1 _ _ ha
  refine⟨_,rfl,a,_,rfl,.inl (At.of ha1),rfl,false,congrArg V.bl (decide_eq_false fun e=>by injection e with e;rw[hl]at e;omega),AO ?_⟩
  refine⟨_,rfl,?_⟩
  refine⟨a,rfl,⟨_,At.of ha1⟩,fun D hD=>?_⟩
  refine⟨fun i m H4=>m=zs.length-i∧i≤zs.length∧H4 D=some (.lst ((List.replicate i true).map V.bl))∧∀ b o,H1 b=some o→H4 b=some o,⟨zs.length,rfl,Nat.zero_le _,AC,fun b o e=>AF.new hD _ _ e⟩,?_⟩
  rintro i m H4 ⟨rfl,hi,hD4,s4⟩
  by_cases hlt:i<zs.length
  ·have hx0:(zs.map V.str)[i]?=some (V.str zs[i]):=by rw[List.getElem?_map,List.getElem?_eq_getElem hlt];rfl
   refine .inr ⟨⟨_,_,At.of (s4 _ _ ha1),hx0⟩,fun x H' y=>?_⟩
   obtain⟨e,y⟩:=y
   subst e
   have hx:=y _ (At.of (s4 _ _ ha1))
   rw[hx0]at hx
   cases hx
   refine⟨_,rfl,_,.str zs[i],rfl,.str _ (Nat.le_trans (nm _ (List.getElem_mem hlt)).hi (by decide)),fun H5 s5=>?_⟩
   rw[Gq (nm _ (List.getElem_mem hlt))]
   refine⟨_,s5 _ _ hD4,EG (by rw[List.length_map,List.length_replicate];omega),zs.length-(i+1),by omega,rfl,hlt,?_,fun b o e=>?_⟩
   ·rw[AC,List.replicate_succ',List.map_append];rfl
   ·rw[AR (AX e hD)];exact s5 _ _ (s4 _ _ e)
  have e:i=zs.length:=by omega
  subst e
  refine .inl ⟨⟨_,At.of (s4 _ _ ha1),by rw[hl];exact Nat.le_refl _⟩,?_⟩
  refine⟨D,_,rfl,At.of hD4,true,congrArg V.bl (by simp),AO ?_⟩
  refine⟨_,rfl,a,zs,rfl,At.of (s4 _ _ ha1),by omega,nd,_,rfl,a,_,rfl,.inl (At.of (s4 _ _ ha1)),rfl,?_⟩
  rw[hl]
  exact IY (congrArg V.bl (decide_eq_true rfl)) (k _ fun b o e=>s4 _ _ (s1 _ _ e))
theorem M4:AW ["thing","most"] ["thing","most"] (AI Fz):=A4
theorem HR (T:Txt w K mg t):Ao P w K mg base Bc 2 t.b1 t.b2 ["thing","most"] V1:=by
 have D:=T.er
 refine D.fn.okX M4 ?_ (fun cdv A outer s H vs Q E hr h Z hZ=>?_)
 ·rintro _ _ _ _ ⟨i,m,rfl,_⟩
  rfl
 ·obtain⟨i,m,rfl,h0,h1,k⟩:=h
  refine hZ ⟨_,((AG (AK (An (AZ T.dx (Dj T) (Bd hr) (AA (AJ 0) AB)) (An (Al DC AD (AJ 0) (AQ _)) (As (Al DC (AJ 0) (AJ 1) (AQ _)))))))),?_⟩
  try dsimp only[cx_K,cx_mg]
  refine⟨_,rfl,_,.int i,rfl,.int i,fun H1 s1=>⟨true,rfl,AL ?_⟩⟩
  refine⟨_,rfl,_,_,rfl,rfl,true,(by simp[h0]),AL ?_⟩
  exact⟨_,rfl,_,rfl,_,_,rfl,rfl,IY (by simp[h1]) (k _ s1)⟩
theorem JW:AW ["thing","many"] ["thing","many"] (AI Dv):=A4
theorem FF (T:Txt w K mg t):Ao P w K mg base Bc 1 t.b3 t.b4 ["thing","many"] V2:=by
 have D:=T.es
 refine D.fn.okX JW ?_ (fun cdv A outer s H vs Q E hr h Z hZ=>?_)
 ·rintro _ _ _ _ ⟨a,ys,m,rfl,_⟩
  rfl
 ·obtain⟨a,ys,m,rfl,ha,hm,k⟩:=h
  refine hZ ⟨_,((AG (AK (An (AN Aj (by rfl) T.fp Aa (AA (AJ 0) (AA (BN T.ft A0) AB))) (As (Al Aq (AN Ab (by rfl) T.fn PySem.boot_len (AA (AJ 0) AB)) (AJ 1) (AQ _))))))),?_⟩
  try dsimp only[cx_K,cx_mg]
  refine⟨_,rfl,_,_,_,_,true,rfl,.tup ha,rfl,(fun _=>.inr trivial),Mb _ _,true,rfl,AL ?_⟩
  exact⟨_,rfl,a,ys,rfl,.inr (Ae.of ha),_,rfl,rfl,IY (congrArg V.bl (decide_eq_true (by rw[hm]))) k⟩
theorem FG:AW ["formula","references"] ["formula"] (AI DT):=A4
theorem Hh (T:Txt w K mg t):Ao P w K mg base Bc 4 t.b5 t.b6 ["formula"] Vw:=by
 have D:=T.et
 refine D.fn.okX FG ?_ (fun cdv A outer s H vs Q E hr h Z hZ=>?_)
 ·rintro _ _ _ _ ⟨v,f,pr,rfl,_⟩
  rfl
 ·obtain⟨v,f,pr,rfl,hv,fo,tl,k⟩:=h
  have hu:=hr.units0
  refine hZ ⟨_,((AE (NL (i:=1) FG.nd rfl rfl (fv:=[]) (js:=[]) (cl:=[]) rfl (by with_unfolding_all rfl) ⟨rfl,by nofun,by nofun,rfl,by nofun,by nofun,(List.forall_mem_nil _),(List.forall_mem_nil _),.nil⟩ (Bt (AZ T.ea (GO T) (Bd hr) (AA (AJ 0) AB))) (fun _ _ _ _ _=>(PN (AV (SL) (AU GD (AJ 0) AD (fun _ _=>rfl)) (Ah (AH AS (AH AS (AH AS AB)))) rfl))) (fun _ _ _ _ _=>(AJ 0)))
   (AG (AK (AN (Cj rfl) (by rfl) T.fv Cl (CM (B7 (fv:=[]) (js:=[]) (cl:=[]) rfl (by with_unfolding_all rfl) ⟨rfl,by nofun,by nofun,rfl,by nofun,by nofun,(List.forall_mem_nil _),(List.forall_mem_nil _),.nil⟩ (Bt (AJ 1)) (fun _ _ _ _ _=>Cp) (fun _ _ _ _ _=>(Al RK (AU GD (AJ 0) AD (fun _ _=>rfl)) Co (AQ _)))) AB)))))),?_⟩
  try dsimp only[cx_K,cx_mg]
  refine⟨_,rfl,v,f,pr,8,rfl,hv,fo,Nat.le_refl _,fun l ws H1 hl0 hl fm s1=>?_⟩
  have h24:ws.length≤3280:=by
   rw[Paired.length fm,IA]
   exact fo.sz8
  refine⟨l,rfl,⟨_,At.of hl⟩,fun D hD=>?_⟩
  have sD:∀ ws,AF H1 (upd H1 D (.lst ws)):=fun ws=>AF.new hD
  refine⟨fun i m H4=>∃ us,m=ws.length-i∧i≤ws.length∧us.length≤i∧H4 D=some (.lst us)∧AF H1 H4∧∀ u∈us,Iu H4 u,⟨ws.length,[],rfl,Nat.zero_le _,Nat.zero_le _,AC,sD _,fun u hu=>nomatch hu⟩,?_⟩
  rintro i m H4 ⟨us,rfl,hi,lu,o4,s4,tu⟩
  by_cases hlt:i<ws.length
  ·refine .inr ⟨⟨_,_,At.of (s4 _ _ hl),List.getElem?_eq_getElem hlt⟩,fun x H' y=>?_⟩
   obtain⟨e,y⟩:=y
   subst e
   have hx:=y _ (At.of (s4 _ _ hl))
   obtain⟨g,hg,xg⟩:=Au fm hx
   obtain⟨fog,tg⟩:=SM fo tl g (List.mem_of_getElem? hg)
   obtain⟨a,w0,r,rfl,ha,hin⟩:=Qr (xg.kp (Kp.same s4)) fog (Vz tg)
   refine⟨_,rfl,a,_,_,_,rfl,rfl,Ae.of ha,Ac,BV,fun p hp=>?_⟩
   have sp:=AF.new (o:=.tup Op) hp
   refine⟨p,Op,rfl,.inr (Ae.of AC),rfl,rfl,?_⟩
   rw[if_neg (by decide)]
   have s5:=s4.trans sp
   cases hb:Ee (.str w0) Op with
   | false=>exact⟨false,rfl,AO ⟨ws.length-(i+1),(by omega),us,rfl,hlt,(by omega),sp _ _ o4,s5,fun u hu=>(tu u hu).same sp⟩⟩
   | true=>
    refine⟨true,rfl,AL ⟨_,rfl,us,sp _ _ o4,V8 (by omega),ws.length-(i+1),(by omega),us++[.ref a],rfl,hlt,?_,AC,fun b o e=>?_,fun u hu=>?_⟩⟩
    ·rw[List.length_append,List.length_singleton];omega
    ·rw[AR (AX e hD)];exact s5 _ _ e
    ·have q7:Kp (upd H' p (.tup Op)) (upd (upd H' p (.tup Op)) D (.lst (us++[.ref a]))):=Kp.lst (sp _ _ o4) KeepX.upd
     rcases List.mem_append.mp hu with hu | hu
     ·exact((tu u hu).same sp).kp q7
     ·rw[List.mem_singleton.mp hu]
      obtain⟨z,r',hz⟩:=hin hb
      exact⟨a,w0,z,r',rfl,q7 _ _ (sp _ _ (by rw[ha,hz]))⟩
  have ei:i=ws.length:=by omega
  subst ei
  refine .inl ⟨⟨_,At.of (s4 _ _ hl),Nat.le_refl _⟩,?_⟩
  refine⟨_,rfl,D,rfl,⟨_,At.of o4⟩,fun D2 hD2=>?_⟩
  have s2D:∀ ws,AF H4 (upd H4 D2 (.lst ws)):=fun ws=>AF.new hD2
  refine⟨fun i m H5=>m=us.length-i∧i≤us.length∧H5=upd H4 D2 (.lst ((List.replicate i true).map V.bl)),⟨us.length,rfl,Nat.zero_le _,rfl⟩,?_⟩
  rintro i m H5 ⟨rfl,hi,rfl⟩
  by_cases hlt:i<us.length
  ·refine .inr ⟨⟨_,_,At.of (s2D _ _ _ o4),List.getElem?_eq_getElem hlt⟩,fun x H' y=>?_⟩
   obtain⟨e,y⟩:=y
   subst e
   have hx:=y _ (At.of (s2D _ _ _ o4))
   obtain⟨a,w0,z,r,rfl,ha⟩:=tu x (List.mem_of_getElem? hx)
   refine⟨_,rfl,a,_,_,_,rfl,rfl,Ae.of (s2D _ _ _ ha),BP,rfl,_,AC,V8 (by rw[List.length_map,List.length_replicate];omega),us.length-(i+1),(by omega),rfl,hlt,?_⟩
   rw[F8,List.replicate_succ',List.map_append];rfl
  have ei:i=us.length:=by omega
  subst ei
  refine .inl ⟨⟨_,At.of (s2D _ _ _ o4),Nat.le_refl _⟩,?_⟩
  exact⟨D2,_,rfl,At.of AC,IY (congrArg V.bl (by simp)) (k _ ((s1.trans s4).trans (s2D _)))⟩
theorem GS:AW ["thing","params"] ["thing","params"] (AI CT):=A4
theorem DX (T:Txt w K mg t):Ao P w K mg base Bc 34 t.b7 t.b8 ["thing","params"] Vx:=by
 have D:=T.eu
 refine D.fn.okX GS ?_ (fun cdv A outer s H vs Q E hr h Z hZ=>?_)
 ·rintro _ _ _ _ ⟨v,f,pr,rfl,_⟩
  rfl
 ·obtain⟨v,f,pr,rfl,hv,fo,h3,sz,tl,k⟩:=h
  refine hZ ⟨_,((AG (AK (An (AZ T.en (JU T) (Bd hr) (AA (AJ 0) (AA (AJ 1) AB))) (As (AZ T.et (Hh T) (Bd hr) (AA (AJ 0) AB))))))),?_⟩
  try dsimp only[cx_K,cx_mg]
  refine⟨_,rfl,_,rfl,v,f,pr,rfl,hv,fo,h3,sz,fun H1 s1=>⟨true,rfl,AL ?_⟩⟩
  exact⟨_,rfl,v,f,pr,rfl,hv.kp (Kp.same s1),fo,tl,fun H2 s2=>k _ (s1.trans s2)⟩
theorem JE:AW ["thing"] ["thing"] (AI DU):=A4
theorem Hi (T:Txt w K mg t):Ao P w K mg base Bc 35 t.b9 t.ca ["thing"] (Sq false):=by
 have D:=T.ev
 refine D.fn.okX JE ?_ (fun cdv A outer s H vs Q E hr h Z hZ=>?_)
 ·rintro _ _ _ _ ⟨v,e,rfl,_⟩
  rfl
 ·obtain⟨v,e,rfl,he,ok,k⟩:=h
  refine hZ ⟨_,((AG (AK (An (AZ T.es (FF T) (Bd hr) (AA (AJ 0) (AH AD AB))) (An (AZ T.ec (CF T) (Bd hr) (AT (AU AM (AJ 0) AD (fun _ _=>rfl)) AB)) (As (AZ T.eu (DX T) (Bd hr) (AT (AU AM (AJ 0) AD (fun _ _=>rfl)) (AH AD AB))))))))),?_⟩
  try dsimp only[cx_K,cx_mg]
  obtain⟨a,v1,rfl,ha,hv⟩:=he
  have ha:H a=some (.tup [.str e.1,v1]):=ha
  have n0:=ok.n0 rfl
  refine⟨_,rfl,a,_,2,rfl,ha,rfl,true,rfl,AL ?_⟩
  refine⟨_,rfl,a,_,_,_,rfl,rfl,Ae.of ha,Ac,_,.str e.1,rfl,.str _ (Nat.le_trans ok.nm.hi (by decide)),fun H1 s1=>?_⟩
  rw[GI ok.nm ok.rs]
  refine⟨true,rfl,AL ?_⟩
  exact⟨_,rfl,a,_,_,_,rfl,rfl,Ae.of (s1 _ _ ha),BP,v1,e.2.2,0,rfl,hv.kp (Kp.same s1),(by have:=ok.fo;rwa [n0]at this),(by decide),ok.sz,ok.td,fun H2 s2=>k _ (s1.trans s2)⟩
theorem RB:AW ["thing"] ["thing"] (AI I0):=A4
theorem Ov (T:Txt w K mg t):Ao P w K mg base Bc 35 t.cb t.cc ["thing"] (Sq true):=by
 have D:=T.ew
 refine D.fn.okX RB ?_ (fun cdv A outer s H vs Q E hr h Z hZ=>?_)
 ·rintro _ _ _ _ ⟨v,e,rfl,_⟩
  rfl
 ·obtain⟨v,e,rfl,he,ok,k⟩:=h
  refine hZ ⟨_,((AE (Ak (PW.pt (Be (A2 (Az (AZ T.es (FF T) (Bd hr) (AA (AJ 0) (AH AD AB))))) (Bf (A2 (Az (AZ T.ec (CF T) (Bd hr) (AT (AU AM (AJ 0) AD (fun _ _=>rfl)) AB))))))) (AG (AK BJ)) AY)
   (AG (AK (An (AZ T.er (HR T) (Bd hr) (AT (AU AM (AJ 0) AD (fun _ _=>rfl)) (AA (A1 T.gf) AB))) (As (AZ T.eu (DX T) (Bd hr) (AT (AU AM (AJ 0) AD (fun _ _=>rfl)) (AT (AU AM (AJ 0) AD (fun _ _=>rfl)) AB))))))))),?_⟩
  try dsimp only[cx_K,cx_mg]
  obtain⟨a,v1,rfl,ha,hv⟩:=he
  have ha:H a=some (.tup [.str e.1,.int e.2.1,v1]):=ha
  refine⟨_,rfl,a,_,3,rfl,ha,rfl,true,rfl,AO ?_⟩
  refine⟨_,rfl,a,_,_,_,rfl,rfl,Ae.of ha,Ac,_,.str e.1,rfl,.str _ (Nat.le_trans ok.nm.hi (by decide)),fun H1 s1=>?_⟩
  rw[GI ok.nm ok.rs]
  refine⟨true,rfl,AO ?_⟩
  have h3:=ok.m3
  refine⟨_,rfl,a,_,_,_,rfl,rfl,Ae.of (s1 _ _ ha),BP,_,3,rfl,(by omega),(by omega),fun H2 s2=>⟨true,rfl,AL ?_⟩⟩
  have s12:=s1.trans s2
  exact⟨_,rfl,a,_,_,_,rfl,rfl,Ae.of (s12 _ _ ha),Bp,_,rfl,a,_,_,_,rfl,rfl,Ae.of (s12 _ _ ha),BP,v1,e.2.2,e.2.1,rfl,hv.kp (Kp.same s12),ok.fo,h3,ok.sz,ok.td,fun H3 s3=>k _ (s12.trans s3)⟩
theorem Hj:AW ["pairs"] ["pairs"] (AI Cy):=A4
theorem Cc (T:Txt w K mg t):Ao P w K mg base Bc 1 t.cd t.ce ["pairs"] V4:=by
 have D:=T.ex
 refine D.fn.okX Hj ?_ (fun cdv A outer s H vs Q E hr h Z hZ=>?_)
 ·rintro _ _ _ _ ⟨a,us,zs,rfl,_⟩
  rfl
 ·obtain⟨a,us,zs,rfl,ha,hh,nd,h60,k⟩:=h
  refine hZ ⟨_,((AG (AK (Al Aq (Jr rfl (by rfl) T.fn PySem.boot_len (by rfl) T.fz (B7 (fv:=[]) (js:=[]) (cl:=[]) rfl (by with_unfolding_all rfl) ⟨rfl,by nofun,by nofun,rfl,by nofun,by nofun,(List.forall_mem_nil _),(List.forall_mem_nil _),.nil⟩ (Bt (AJ 0)) (fun _ _ _ _ _=>Cp) (fun _ _ _ _ _=>(AU GD (AJ 0) AD (fun _ _=>rfl))))) (AN Ab (by rfl) T.fn PySem.boot_len (AA (AJ 0) AB)) (AQ _))))),?_⟩
  try dsimp only[cx_K,cx_mg]
  have hl:us.length=zs.length:=Paired.length hh
  refine⟨_,rfl,?_⟩
  refine⟨a,rfl,⟨_,At.of ha⟩,fun D hD=>?_⟩
  refine⟨fun i m H4=>m=us.length-i∧i≤us.length∧H4=upd H D (.lst ((zs.take i).map V.str)),⟨us.length,rfl,Nat.zero_le _,rfl⟩,?_⟩
  rintro i m H4 ⟨rfl,hi,rfl⟩
  have sD:∀ ws,AF H (upd H D (.lst ws)):=fun ws=>AF.new hD
  by_cases hlt:i<us.length
  ·refine .inr ⟨⟨_,_,At.of (sD _ _ _ ha),List.getElem?_eq_getElem hlt⟩,fun x H' y=>?_⟩
   obtain⟨e,y⟩:=y
   subst e
   have hx:=y _ (At.of (sD _ _ _ ha))
   obtain⟨z,hz,b,r,rfl,hb⟩:=Au hh hx
   refine⟨_,rfl,b,_,_,_,rfl,rfl,Ae.of (sD _ _ _ hb),Ac,_,AC,EG (by rw[List.length_map,List.length_take];omega),us.length-(i+1),(by omega),rfl,hlt,?_⟩
   rw[F8,List.take_add_one,hz,List.map_append];rfl
  have ei:i=us.length:=by omega
  subst ei
  refine .inl ⟨⟨_,At.of (sD _ _ _ ha),Nat.le_refl _⟩,?_⟩
  rw[hl,List.take_length]
  refine⟨D,zs,rfl,At.of AC,(by omega),nd,_,rfl,a,_,rfl,.inl (At.of (sD _ _ _ ha)),rfl,?_⟩
  exact IY (congrArg V.bl (decide_eq_true (by rw[hl]))) (k _ (sD _))
theorem Lx:AW ["thing","sheets"] ["thing","sheets"] (AI FA):=A4
theorem Kl (T:Txt w K mg t):Ao P w K mg base Bc 2 t.cf t.cg ["thing","sheets"] V5:=by
 have D:=T.ey
 refine D.fn.okX Lx ?_ (fun cdv A outer s H vs Q E hr h Z hZ=>?_)
 ·rintro _ _ _ _ ⟨a,v,rfl,_⟩
  rfl
 ·obtain⟨a,v,rfl,ha,k⟩:=h
  refine hZ ⟨_,((AE (Ak (PW.pt (Be (A2 (Az (AZ T.ep (FQ T) (Bd hr) (AA (AJ 0) (AA (A1 T.go) AB))))) (Bf (A2 (Az (AN (Cj rfl) (by rfl) T.fv Cl (CM (B7 (fv:=["sheets"]) (js:=[1]) (cl:=[("sheets",s.heap.objs.size+1)]) rfl (by with_unfolding_all rfl) ⟨rfl,by nofun,by nofun,rfl,by nofun,by nofun,(List.forall_mem_cons.mpr ⟨⟨rfl,rfl,rfl⟩,(List.forall_mem_nil _)⟩),(List.forall_mem_cons.mpr ⟨rfl,(List.forall_mem_nil _)⟩),(.cons rfl .nil)⟩ (Bt (AJ 0)) (fun _ _ _ _ _=>Cp) (fun _ _ _ _ _=>(AZ T.eo (Hg T) (Bd hr) (AA (AJ 0) (AA (AJ 1) AB))))) AB))))))) (AG (AK BJ)) AY)
   (AG (AK (AZ T.ex (Cc T) (Bd hr) (AA (AJ 0) AB)))))),?_⟩
  try dsimp only[cx_K,cx_mg]
  refine⟨_,rfl,a,_,_,rfl,ha,(by decide),fun H1 s1=>⟨true,rfl,AO ?_⟩⟩
  have ha1:=s1 _ _ ha
  refine⟨_,rfl,?_⟩
  refine⟨a,rfl,⟨_,At.of ha1⟩,fun D hD=>?_⟩
  refine⟨fun i m H4=>i=0∧H4=upd H1 D (.lst []),⟨0,rfl,rfl⟩,?_⟩
  rintro i m H4 ⟨rfl,rfl⟩
  refine .inl ⟨⟨_,At.of (AF.new hD _ _ ha1),Nat.zero_le _⟩,?_⟩
  have sD:=AF.new (o:=.lst []) hD
  refine⟨D,[],rfl,At.of AC,true,rfl,AO ?_⟩
  exact⟨_,rfl,a,[],[],rfl,sD _ _ ha1,.nil,List.Pairwise.nil,Nat.zero_le _,fun H3 s3=>k _ ((s1.trans sD).trans s3)⟩
theorem Ly:AW ["thing"] ["thing"] (AI FB):=A4
theorem Km (T:Txt w K mg t):Ao P w K mg base Bc 36 t.ch t.ci ["thing"] (Ss false):=by
 have D:=T.ez
 refine D.fn.okX Ly ?_ (fun cdv A outer s H vs Q E hr h Z hZ=>?_)
 ·rintro _ _ _ _ ⟨a,us,es,rfl,_⟩
  rfl
 ·obtain⟨a,us,es,rfl,ha,he,ok,k⟩:=h
  refine hZ ⟨_,((AG (AK (An (AZ T.ep (FQ T) (Bd hr) (AA (AJ 0) (AA (A1 T.gp) AB))) (An (AN (Cj rfl) (by rfl) T.fv Cl (CM (B7 (fv:=[]) (js:=[]) (cl:=[]) rfl (by with_unfolding_all rfl) ⟨rfl,by nofun,by nofun,rfl,by nofun,by nofun,(List.forall_mem_nil _),(List.forall_mem_nil _),.nil⟩ (Bt (AJ 0)) (fun _ _ _ _ _=>Cp) (fun _ _ _ _ _=>(AZ T.ev (Hi T) (Bd hr) (AA (AJ 0) AB)))) AB)) (As (AZ T.ex (Cc T) (Bd hr) (AA (AJ 0) AB)))))))),?_⟩
  try dsimp only[cx_K,cx_mg]
  obtain⟨h6,nd,eo⟩:=ok
  have hl:us.length=es.length:=Paired.length he
  refine⟨_,rfl,a,_,_,rfl,ha,(by omega),fun H1 s1=>⟨true,rfl,AL ?_⟩⟩
  have ha1:=s1 _ _ ha
  refine⟨_,rfl,?_⟩
  refine⟨a,rfl,⟨_,At.of ha1⟩,fun D hD=>?_⟩
  refine⟨fun i m H4=>m=us.length-i∧i≤us.length∧H4 D=some (.lst ((List.replicate i true).map V.bl))∧∀ b o,H1 b=some o→H4 b=some o,⟨us.length,rfl,Nat.zero_le _,AC,fun b o e=>AF.new hD _ _ e⟩,?_⟩
  rintro i m H4 ⟨rfl,hi,hD4,s4⟩
  by_cases hlt:i<us.length
  ·refine .inr ⟨⟨_,_,At.of (s4 _ _ ha1),List.getElem?_eq_getElem hlt⟩,fun x H' y=>?_⟩
   obtain⟨e,y⟩:=y
   subst e
   have hx:=y _ (At.of (s4 _ _ ha1))
   obtain⟨e,hz,hb⟩:=Au he hx
   refine⟨_,rfl,x,e,rfl,hb.kp (Kp.same fun b o q=>s4 _ _ (s1 _ _ q)),eo e (List.mem_of_getElem? hz),fun H5 s5=>?_⟩
   refine⟨_,s5 _ _ hD4,EG (by rw[List.length_map,List.length_replicate];omega),us.length-(i+1),by omega,rfl,hlt,?_,fun b o e=>?_⟩
   ·rw[AC,List.replicate_succ',List.map_append];rfl
   ·rw[AR (AX e hD)];exact s5 _ _ (s4 _ _ e)
  have e:i=us.length:=by omega
  subst e
  refine .inl ⟨⟨_,At.of (s4 _ _ ha1),Nat.le_refl _⟩,?_⟩
  refine⟨D,_,rfl,At.of hD4,true,congrArg V.bl (by simp),AL ?_⟩
  have s14:AF H H4:=fun b o e=>s4 _ _ (s1 _ _ e)
  refine⟨_,rfl,a,us,es.map (·.1),rfl,s14 _ _ ha,?_,nd,(by rw[List.length_map];omega),fun H3 s3=>k _ (s14.trans s3)⟩
  exact Qt (Paired.imp' (fun _ _ x=>(x.kp (Kp.same s14)).hd) he)
theorem M5:AW ["thing"] ["thing"] (AI F0):=A4
theorem Lz (T:Txt w K mg t):Ao P w K mg base Bc 36 t.cj t.ck ["thing"] (Ss true):=by
 have D:=T.e0
 refine D.fn.okX M5 ?_ (fun cdv A outer s H vs Q E hr h Z hZ=>?_)
 ·rintro _ _ _ _ ⟨a,us,es,rfl,_⟩
  rfl
 ·obtain⟨a,us,es,rfl,ha,he,ok,k⟩:=h
  refine hZ ⟨_,((AG (AK (An (AZ T.ep (FQ T) (Bd hr) (AA (AJ 0) (AA (A1 T.gq) AB))) (An (AN (Cj rfl) (by rfl) T.fv Cl (CM (B7 (fv:=[]) (js:=[]) (cl:=[]) rfl (by with_unfolding_all rfl) ⟨rfl,by nofun,by nofun,rfl,by nofun,by nofun,(List.forall_mem_nil _),(List.forall_mem_nil _),.nil⟩ (Bt (AJ 0)) (fun _ _ _ _ _=>Cp) (fun _ _ _ _ _=>(AZ T.ew (Ov T) (Bd hr) (AA (AJ 0) AB)))) AB)) (As (AZ T.ex (Cc T) (Bd hr) (AA (AJ 0) AB)))))))),?_⟩
  try dsimp only[cx_K,cx_mg]
  obtain⟨h6,nd,eo⟩:=ok
  have hl:us.length=es.length:=Paired.length he
  refine⟨_,rfl,a,_,_,rfl,ha,(by omega),fun H1 s1=>⟨true,rfl,AL ?_⟩⟩
  have ha1:=s1 _ _ ha
  refine⟨_,rfl,?_⟩
  refine⟨a,rfl,⟨_,At.of ha1⟩,fun D hD=>?_⟩
  refine⟨fun i m H4=>m=us.length-i∧i≤us.length∧H4 D=some (.lst ((List.replicate i true).map V.bl))∧∀ b o,H1 b=some o→H4 b=some o,⟨us.length,rfl,Nat.zero_le _,AC,fun b o e=>AF.new hD _ _ e⟩,?_⟩
  rintro i m H4 ⟨rfl,hi,hD4,s4⟩
  by_cases hlt:i<us.length
  ·refine .inr ⟨⟨_,_,At.of (s4 _ _ ha1),List.getElem?_eq_getElem hlt⟩,fun x H' y=>?_⟩
   obtain⟨e,y⟩:=y
   subst e
   have hx:=y _ (At.of (s4 _ _ ha1))
   obtain⟨e,hz,hb⟩:=Au he hx
   refine⟨_,rfl,x,e,rfl,hb.kp (Kp.same fun b o q=>s4 _ _ (s1 _ _ q)),eo e (List.mem_of_getElem? hz),fun H5 s5=>?_⟩
   refine⟨_,s5 _ _ hD4,EG (by rw[List.length_map,List.length_replicate];omega),us.length-(i+1),by omega,rfl,hlt,?_,fun b o e=>?_⟩
   ·rw[AC,List.replicate_succ',List.map_append];rfl
   ·rw[AR (AX e hD)];exact s5 _ _ (s4 _ _ e)
  have e:i=us.length:=by omega
  subst e
  refine .inl ⟨⟨_,At.of (s4 _ _ ha1),Nat.le_refl _⟩,?_⟩
  refine⟨D,_,rfl,At.of hD4,true,congrArg V.bl (by simp),AL ?_⟩
  have s14:AF H H4:=fun b o e=>s4 _ _ (s1 _ _ e)
  refine⟨_,rfl,a,us,es.map (·.1),rfl,s14 _ _ ha,?_,nd,(by rw[List.length_map];omega),fun H3 s3=>k _ (s14.trans s3)⟩
  exact Qt (Paired.imp' (fun _ _ x=>(x.kp (Kp.same s14)).hd) he)
theorem GT:AW ["pairs"] ["pairs"] (AI CU):=A4
theorem CG (T:Txt w K mg t)(hC:PySem.W.CodeHd base t.e1 t.dw)(hB:BM mg base):Ao P w K mg base Bc 4 t.cl t.cm ["pairs"] (V6 t.dw):=by
 have D:=T.e1
 refine D.fn.okCX GT ?_ (fun cdv A outer s H vs Q E hcd hr h Z hZ=>?_)
 ·rintro _ _ _ _ ⟨a,ps,rfl,_⟩
  rfl
 ·obtain⟨a,ps,rfl,ha,h64,hh,ht,k⟩:=h
  refine hZ ⟨_,((AG (AK (Bu B3 (by rfl) T.ft A0 (BD (P5 (k:=1) (Bd hr) (by rfl) T.fy (AJ 0) (Ta (clos:=[]) rfl (by with_unfolding_all rfl) (hcd.symm.trans T.hn) hC hB)) AB))))),?_⟩
  try dsimp only[cx_K,cx_mg]
  refine⟨_,rfl,ht,fun lf H2 nf keep tab lam=>?_⟩
  obtain⟨tb,hP,_⟩:=id ht
  have neP:∀{b:Addr} {o:HO},H b=some o→(∀ ts,o≠.tbl ts)→b≠t.dw:=fun h n e=>by rw[e,hP]at h;cases h;exact n _ rfl
  obtain⟨c,ctv,hlf,hcd'⟩:=lam
  refine⟨a,lf,qS,(fun vs H Q E=>∃(p:V×Str),vs=[p.1]∧Qp H p.1 p.2∧Q (.str p.2) H),ps,rfl,rfl,At.of (keep _ _ (neP ha (fun _ z=>by cases z)) ha),h64,fun base' W=>?_,fun p hp=>⟨p,rfl,?_,rfl,rfl⟩,fun l qs hl m1 m2 m3=>?_⟩
  ·refine W.lam (k:=0) (ps:=["pair"]) (fv:=[]) (js:=[]) hlf hcd' ⟨rfl,rfl,rfl,by nofun,(List.forall_mem_cons.mpr ⟨rfl,(List.forall_mem_nil _)⟩),by nofun,by nofun,(List.forall_mem_nil _),(List.forall_mem_nil _),.nil⟩ (fun us hl=>by obtain⟨_,rfl⟩:=WN hl;rfl) (fun vs H Q E h=>?_) (fun A outer s H vs Q E hr h=>?_)
   ·obtain⟨p,rfl,_⟩:=h
    rfl
   ·obtain⟨p,rfl,⟨b,r,e,hb⟩,q⟩:=h
    refine⟨_,(AU AM (AJ 0) AD (fun _ _=>rfl)),?_⟩
    rw[e]
    exact⟨_,rfl,b,_,_,_,rfl,rfl,Ae.of hb,Ac,q⟩
  ·obtain⟨b,r,e,hb⟩:=hh p hp
   exact⟨b,r,e,IT (keep _ _ (neP hb (fun _ z=>by cases z)) hb) rfl⟩
  refine⟨l,_,rfl,.inl ⟨At.of AC,fun q hq=>?_⟩⟩
  exact k q qs _ m1 m2 m3 AC (fun b o hb e=>AF.new hq _ _ (AF.new hl _ _ (keep b o hb e))) ((tab.sm (AF.new hl)).sm (AF.new hq))
theorem Ow:AW ["sheets","cells","names","owns","rounds"] ["sheets","cells","names","owns","rounds"] (AI Gx):=A4
theorem M6 (T:Txt w K mg t)(hC:PySem.W.CodeHd base t.e1 t.dw)(hB:BM mg base):Ao P w K mg base Bc 40 t.cn t.co ["sheets","cells","names","owns","rounds"] (V7 t.dw):=by
 have D:=T.e2
 refine D.fn.okX Ow ?_ (fun cdv A outer s H vs Q E hr h Z hZ=>?_)
 ·rintro _ _ _ _ ⟨a,c,n,o,us,ws,zs,ns,os,rfl,_⟩
  rfl
 ·obtain⟨a,c,n,o,us,ws,zs,ns,os,rfl,ha,hc,hn,ho,en,eo,ok,okn,oko,ht,k⟩:=h
  refine hZ ⟨_,((AE (Ak (A2 (Az (AZ T.eq (JV T) (Bd hr) (AA (AJ 0) AB)))) (AG Dy) AY)
   (AE (Ak (A2 (Az (AZ T.ey (Kl T) (Bd hr) (AA (AJ 1) (AA (AJ 0) AB))))) (AG Dy) AY)
   (AE (Ak (A2 (Az (AZ T.ez (Km T) (Bd hr) (AA (AJ 2) AB)))) (AG Dy) AY)
   (AE (Ak (A2 (Az (AZ T.e0 (Lz T) (Bd hr) (AA (AJ 3) AB)))) (AG Dy) AY)
   (AE (Ak (A2 (Az (AZ T.er (HR T) (Bd hr) (AA (AJ 4) (AA (A1 T.gr) AB))))) (AG Dy) AY)
   (AG (AK (Ah (BD (Bu B3 (by rfl) T.ft A0 (AA (AJ 0) AB)) (BD (AZ T.e1 (CG T hC hB) (hr.mono (by omega)) (AA (AJ 1) AB)) (BD (AZ T.e1 (CG T hC hB) (hr.mono (by omega)) (AA (AJ 2) AB)) (BD (AZ T.e1 (CG T hC hB) (hr.mono (by omega)) (AA (AJ 3) AB)) (AA (AJ 4) AB)))))))))))))),?_⟩
  try dsimp only[cx_K,cx_mg]
  refine⟨_,rfl,a,zs,rfl,ha,ok,fun H1 s1=>⟨true,rfl,AO ?_⟩⟩
  refine⟨_,rfl,_,rfl,c,_,rfl,s1 _ _ hc,fun H2 s2=>⟨true,rfl,AO ?_⟩⟩
  have s02:=s1.trans s2
  refine⟨_,rfl,n,us,ns,rfl,s02 _ _ hn,Paired.imp' (fun _ _ x=>x.kp (Kp.same s02)) en,okn,fun H3 s3=>⟨true,rfl,AO ?_⟩⟩
  have s03:=s02.trans s3
  refine⟨_,rfl,o,ws,os,rfl,s03 _ _ ho,Paired.imp' (fun _ _ x=>x.kp (Kp.same s03)) eo,oko,fun H4 s4=>⟨true,rfl,AO ?_⟩⟩
  have s04:=s03.trans s4
  refine⟨_,rfl,0,4,rfl,(by decide),(by decide),fun H4' s4'=>⟨true,rfl,AO ?_⟩⟩
  have s04:=s04.trans s4'
  have ha4:=s04 _ _ ha
  obtain⟨tb0,hP,_⟩:=id ht
  refine⟨_,rfl,a,_,rfl,.inl ⟨At.of ha4,fun t1 h1=>?_⟩⟩
  have s5:=s04.trans (AF.new (o:=.tup (zs.map V.str)) h1)
  have o1:upd H4' t1 (.tup (zs.map V.str)) t1=some (.tup (zs.map V.str)):=AC
  generalize upd H4' t1 (.tup (zs.map V.str))=H5 at *
  have kpX:∀{G G':Hp},EA G t.dw qS→KeepX t.dw G G'→Kp G G':=fun⟨x,hx,_⟩ kk b xs e=>kk b _ (Db e hx (by intro z;cases z)) e
  have nP:∀{b:Addr} {ys:List V},H b=some (.lst ys)→b≠t.dw:=fun h e=>by rw[e,hP]at h;cases h
  have tb5:=ht.sm s5
  have en5:=Paired.imp' (fun _ _ (x:Br false H _ _)=>x.kp (Kp.same s5)) en
  have eo5:=Paired.imp' (fun _ _ (x:Br true H _ _)=>x.kp (Kp.same s5)) eo
  refine⟨_,rfl,c,[],rfl,s5 _ _ hc,(by show 0<64;decide),(fun p hp=>nomatch hp),tb5,fun t2 q2 H6 m2 _ _ o2 k6 tb6=>?_⟩
  obtain rfl:q2=[]:=List.eq_nil_iff_forall_not_mem.mpr fun p hp=>nomatch m2 p hp
  have en6:=Paired.imp' (fun _ _ (x:Br false H5 _ _)=>x.kp (kpX tb5 k6)) en5
  obtain⟨z1,z2,z3⟩:=KZ (f:=fun(e:DR)=>e.1) en
  refine⟨_,rfl,n,us.zip (ns.map (·.1)),rfl,by rw[z1];exact k6 _ _ (nP hn) (s5 _ _ hn),(by rw[z3];have:=okn.1;omega),Qs en6,tb6,fun t3 q3 H7 m3 p3 r3 o3 k7 tb7=>?_⟩
  have eo7:=Paired.imp' (fun _ _ (x:Br true H5 _ _)=>x.kp ((kpX tb5 k6).trans (kpX tb6 k7))) eo5
  obtain⟨y1,y2,y3⟩:=KZ (f:=fun(e:DR)=>e.1) eo
  refine⟨_,rfl,o,ws.zip (os.map (·.1)),rfl,by rw[y1];exact k7 _ _ (nP ho) (k6 _ _ (nP ho) (s5 _ _ ho)),(by rw[y3];have:=oko.1;omega),Qs eo7,tb7,fun t4 q4 H8 m4 p4 r4 o4 k8 tb8=>?_⟩
  refine⟨_,rfl,(by show 5≤sizeLine;decide),fun b hb=>?_⟩
  have sb:=AF.new (o:=.tup [.ref t1,.ref t2,.ref t3,.ref t4,.int 0]) hb
  have qb:=Kp.same sb
  obtain⟨ns',na,nb,nc⟩:=Iv (Paired.imp' (fun _ _ (x:Br false H6 _ _)=>x.kp (((kpX tb6 k7).trans (kpX tb7 k8)).trans qb)) en6) m3
  obtain⟨os',oa,ob,oc⟩:=Iv (Paired.imp' (fun _ _ (x:Br true H7 _ _)=>x.kp ((kpX tb7 k8).trans qb)) eo7) m4
  have q68:=((kpX tb6 k7).trans (kpX tb7 k8)).trans qb
  refine k b ns' os' _ ⟨t1,t2,t3,t4,q3.map (·.1),q4.map (·.1),AC,q68 _ _ (kpX tb5 k6 _ _ o1),q68 _ _ o2,qb _ _ (kpX tb7 k8 _ _ o3),qb _ _ o4,na,oa⟩ ⟨nb,?_,?_⟩ ⟨ob,?_,?_⟩ (fun x u hx e=>sb _ _ (k8 _ _ hx (k7 _ _ hx (k6 _ _ hx (s5 _ _ e)))))
  ·rw[nc,← z2];exact p3
  ·rw[nc];exact r3
  ·rw[oc,← y2];exact p4
  ·rw[oc];exact r4
theorem B8:AW ["book","called","pair","own"] ["book"] (AI Cz):=A4
theorem G0 (T:Txt w K mg t):Ao P w K mg base Bc 1 t.cp t.cq ["book"] WA:=by
 have D:=T.e3
 refine D.fn.okX B8 ?_ (fun cdv A outer s H vs Q E hr h Z hZ=>?_)
 ·rintro _ _ _ _ ⟨b,zs,ns,os,rfl,_⟩
  rfl
 ·obtain⟨b,zs,ns,os,rfl,bk,dis,k⟩:=h
  have hu1:=K6 hr
  refine hZ ⟨_,((AE (Ag (i:=1) B8.nd rfl (Or.inl rfl) Pc)
   (AE (EL PassesOwn.never rfl (IG (AU AM (AJ 0) AD (fun _ _=>rfl))) (Bg (i:=2) B8.nd rfl (Or.inl rfl))
   (AG (J9 hu1 (AJ 1) (Ah (AH AS (AT (AU AM (AJ 2) AD (fun _ _=>rfl)) AB))) (Ah (AH AD (AT (AU AM (AJ 2) AD (fun _ _=>rfl)) AB))) rfl)))
   (AE (EL PassesOwn.never rfl (IG (AU AM (AJ 0) AD (fun _ _=>rfl))) (Bg (i:=3) B8.nd rfl (Or.inl rfl))
   (AG (J9 hu1 (AJ 1) (Ah (AH AS (AT (AU AM (AJ 3) AD (fun _ _=>rfl)) AB))) (Ah (AT (AU AM (AJ 3) AD (fun _ _=>rfl)) (AT (AU AM (AJ 3) AD (fun _ _=>rfl)) AB))) rfl)))
   (AG (AK (AJ 1))))))),?_⟩
  try dsimp only[cx_K,cx_mg]
  obtain⟨t1,t2,t3,t4,us,ws,hb,h1,h2,h3,h4,pn,po⟩:=bk
  refine fun c hc=>?_
  have s1:=AF.new (o:=.dT []) hc
  have oc:upd H c (.dT []) c=some (.dT []):=AC
  generalize upd H c (.dT [])=H1 at *
  have lu:us.length=ns.length:=Paired.length pn
  have lw:ws.length=os.length:=Paired.length po
  refine⟨_,rfl,b,_,_,_,rfl,rfl,Ae.of (s1 _ _ hb),rfl,t3,rfl,⟨_,Ae.of (s1 _ _ h3)⟩,?_⟩
  refine NC (xs:=us) (fun i σ H5=>∃(x2 x3:Option V) (cs:List (List A9×V)),σ=[some (.ref b),some (.ref c),x2,x3]∧H5 c=some (.dT cs)∧Paired (JQ H5) cs (((ns.take i).map (fun e=>((zS "name",e.1),0,e.2.2))))∧AF H H5) ⟨_,_,_,rfl,oc,by rw[List.take_zero];exact .nil,s1⟩ ?_ ?_ ?_
  ·rintro i σ H5 _ ⟨x2,x3,cs,rfl,o5,p5,s5⟩
   exact Ae.of (s5 _ _ h3)
  ·rintro i x σ H5 hx ⟨x2,x3,cs,rfl,o5,p5,s5⟩
   obtain⟨e,he,hxe⟩:=Au pn hx
   obtain⟨a,v1,rfl,ha,hv⟩:=hxe
   have ha:H a=some (.tup [.str e.1,v1]):=ha
   have ha5:=s5 _ _ ha
   have hi:i<us.length:=(List.getElem?_eq_some_iff.mp hx).1
   refine⟨_,rfl,a,_,_,_,rfl,rfl,Ae.of ha5,BP,A3,fun p hp=>?_⟩
   have s6:=AF.new (o:=.tup [.int 0,v1]) hp
   have o6:upd H5 p (.tup [.int 0,v1]) p=some (.tup [.int 0,v1]):=AC
   generalize upd H5 p (.tup [.int 0,v1])=H6 at *
   refine⟨_,rfl,_,rfl,a,_,_,_,rfl,rfl,Ae.of (s6 _ _ ha5),Ac,A3,fun q hq=>?_⟩
   have s7:=AF.new (o:=.tup [.str (zS "name"),.str e.1]) hq
   have o7:upd H6 q (.tup [.str (zS "name"),.str e.1]) q=some (.tup [.str (zS "name"),.str e.1]):=AC
   generalize upd H6 q (.tup [.str (zS "name"),.str e.1])=H7 at *
   have s57:=s6.trans s7
   have oc7:=s57 _ _ o5
   have lcs:cs.length≤120:=by
    rw[Paired.length p5]
    have l1:=dis.2.2.1
    have l2:=dis.2.2.2
    simp only[List.length_append,List.length_map,List.length_take]
    omega
   refine⟨c,_,rfl,J7.t (k:=Bq (zS "name",e.1)) oc7 o7 (EG (by omega)),?_⟩
   have fresh:∀ r∈cs,r.1≠Bq (zS "name",e.1):=Ml p5 (fun z=>by
    rw[List.mem_map]at z
    obtain⟨y,hy,ey⟩:=z
    rw[List.mem_map]at hy
    obtain⟨e',he',rfl⟩:=hy
    have e1:e'.1=e.1:=congrArg Prod.snd ey
    exact Iw dis.1 he he' e1)
   rw[Kb fresh]
   have q8:Kp H7 (upd H7 c (.dT (cs++[(Bq (zS "name",e.1),.ref p)]))):=fun a xs e=>by rw[AR (Db e oc7 (by intro z;cases z))];exact e
   refine⟨_,_,_,rfl,AC,?_,fun b o e=>?_⟩
   ·rw[List.take_add_one,he]
    simp only[Option.toList_some,List.map_append,List.map_cons,List.map_nil]
    refine HY (Paired.imp' (fun _ _ x=>x.kp ((Kp.same s57).trans q8)) p5) (.cons ⟨rfl,p,v1,rfl,q8 _ _ (s7 _ _ o6),?_⟩ .nil)
    exact hv.kp ((Kp.same (s5.trans s57)).trans q8)
   ·rw[AR (AX e hc)];exact s57 _ _ (s5 _ _ e)
  rintro σ H5 ⟨x2,x3,cs0,rfl,o5,p5,s5⟩
  rw[lu,List.take_length]at p5
  refine⟨_,rfl,b,_,_,_,rfl,rfl,Ae.of (s5 _ _ hb),rfl,t4,rfl,⟨_,Ae.of (s5 _ _ h4)⟩,?_⟩
  refine NC (xs:=ws) (fun i σ H5=>∃(x2 x3:Option V) (cs:List (List A9×V)),σ=[some (.ref b),some (.ref c),x2,x3]∧H5 c=some (.dT cs)∧Paired (JQ H5) cs (ns.map (fun e=>((zS "name",e.1),0,e.2.2))++((os.take i).map (fun e=>((zS "own",e.1),e.2.1,e.2.2))))∧AF H H5) ⟨_,_,_,rfl,o5,by rw[List.take_zero];rw[List.map_nil,List.append_nil];exact p5,s5⟩ ?_ ?_ ?_
  ·rintro i σ H5 _ ⟨x2,x3,cs,rfl,o5,p5,s5⟩
   exact Ae.of (s5 _ _ h4)
  ·rintro i x σ H5 hx ⟨x2,x3,cs,rfl,o5,p5,s5⟩
   obtain⟨e,he,hxe⟩:=Au po hx
   obtain⟨a,v1,rfl,ha,hv⟩:=hxe
   have ha:H a=some (.tup [.str e.1,.int e.2.1,v1]):=ha
   have ha5:=s5 _ _ ha
   have hi:i<ws.length:=(List.getElem?_eq_some_iff.mp hx).1
   refine⟨_,rfl,a,_,_,_,rfl,rfl,Ae.of ha5,BP,_,rfl,a,_,_,_,rfl,rfl,Ae.of ha5,Bp,A3,fun p hp=>?_⟩
   have s6:=AF.new (o:=.tup [.int (e.2.1:Nat),v1]) hp
   have o6:upd H5 p (.tup [.int (e.2.1:Nat),v1]) p=some (.tup [.int (e.2.1:Nat),v1]):=AC
   generalize upd H5 p (.tup [.int (e.2.1:Nat),v1])=H6 at *
   refine⟨_,rfl,_,rfl,a,_,_,_,rfl,rfl,Ae.of (s6 _ _ ha5),Ac,A3,fun q hq=>?_⟩
   have s7:=AF.new (o:=.tup [.str (zS "own"),.str e.1]) hq
   have o7:upd H6 q (.tup [.str (zS "own"),.str e.1]) q=some (.tup [.str (zS "own"),.str e.1]):=AC
   generalize upd H6 q (.tup [.str (zS "own"),.str e.1])=H7 at *
   have s57:=s6.trans s7
   have oc7:=s57 _ _ o5
   have lcs:cs.length≤120:=by
    rw[Paired.length p5]
    have l1:=dis.2.2.1
    have l2:=dis.2.2.2
    simp only[List.length_append,List.length_map,List.length_take]
    omega
   refine⟨c,_,rfl,J7.t (k:=Bq (zS "own",e.1)) oc7 o7 (EG (by omega)),?_⟩
   have fresh:∀ r∈cs,r.1≠Bq (zS "own",e.1):=Ml p5 (fun z=>by
    rw[List.mem_map]at z
    obtain⟨y,hy,ey⟩:=z
    rcases List.mem_append.mp hy with hy | hy
    ·rw[List.mem_map]at hy
     obtain⟨e',he',rfl⟩:=hy
     exact absurd (show zS "name"=zS "own" from congrArg Prod.fst ey) (by nofun)
    rw[List.mem_map]at hy
    obtain⟨e',he',rfl⟩:=hy
    have e1:e'.1=e.1:=congrArg Prod.snd ey
    exact Iw dis.2.1 he he' e1)
   rw[Kb fresh]
   have q8:Kp H7 (upd H7 c (.dT (cs++[(Bq (zS "own",e.1),.ref p)]))):=fun a xs e=>by rw[AR (Db e oc7 (by intro z;cases z))];exact e
   refine⟨_,_,_,rfl,AC,?_,fun b o e=>?_⟩
   ·rw[List.take_add_one,he]
    simp only[Option.toList_some,List.map_append,List.map_cons,List.map_nil]
    rw[← List.append_assoc]
    refine HY (Paired.imp' (fun _ _ x=>x.kp ((Kp.same s57).trans q8)) p5) (.cons ⟨rfl,p,v1,rfl,q8 _ _ (s7 _ _ o6),?_⟩ .nil)
    exact hv.kp ((Kp.same (s5.trans s57)).trans q8)
   ·rw[AR (AX e hc)];exact s57 _ _ (s5 _ _ e)
  rintro σ H6 ⟨x2,x3,cs,rfl,o6,p6,s6⟩
  rw[lw,List.take_length]at p6
  exact⟨_,rfl,k c cs _ hc o6 p6 s6⟩
theorem F5:AW ["sheet","first","last"] ["sheet","first","last"] (AI CD):=A4
theorem Fc (T:Txt w K mg t):Ao P w K mg base Bc 1 t.cr t.cs ["sheet","first","last"] Vp:=by
 have D:=T.e4
 refine D.fn.okX F5 ?_ (fun cdv A outer s H vs Q E hr h Z hZ=>?_)
 ·rintro _ _ _ _ ⟨z,p,q,i,j,x,y,rfl,_⟩
  rfl
 ·obtain⟨z,p,q,i,j,x,y,rfl,hp,hq,k⟩:=h
  refine hZ ⟨_,((AG (AK (Ah (AH AS (AA (AJ 0) (Av (Ah (AH AD (AT (AU AM (AJ 1) AD (fun _ _=>rfl)) (AH BJ (AT (AU AM (AJ 1) AD (fun _ _=>rfl)) AB))))) (Av (Ah (AA (A1 T.f6) (AT (AU AM (AJ 2) AD (fun _ _=>rfl)) (AH BJ (AT (AU AM (AJ 2) AD (fun _ _=>rfl)) AB))))) AB)))))))),?_⟩
  try dsimp only[cx_K,cx_mg]
  refine⟨_,rfl,_,rfl,p,_,_,_,rfl,rfl,Ae.of hp,rfl,_,rfl,p,_,_,_,rfl,rfl,Ae.of hp,rfl,(by show 4≤sizeLine;decide),fun a1 n1=>?_⟩
  have s1:=AF.new (o:=.tup [.int 1,.int i,.bl true,.bl x]) n1
  have o1:upd H a1 (.tup [.int 1,.int i,.bl true,.bl x]) a1=some (.tup [.int 1,.int i,.bl true,.bl x]):=AC
  generalize upd H a1 (.tup [.int 1,.int i,.bl true,.bl x])=H1 at *
  refine⟨_,rfl,q,_,_,_,rfl,rfl,Ae.of (s1 _ _ hq),rfl,_,rfl,q,_,_,_,rfl,rfl,Ae.of (s1 _ _ hq),rfl,(by show 4≤sizeLine;decide),fun a2 n2=>⟨(by show 4≤sizeLine;decide),fun a n3=>?_⟩⟩
  have s2:=AF.new (o:=.tup [.int 16,.int j,.bl true,.bl y]) n2
  have s3:=AF.new (o:=.tup [vS "range",.str z,.ref a1,.ref a2]) n3
  exact k a _ ⟨a1,a2,AC,s3 _ _ (s2 _ _ o1),s3 _ _ AC⟩ ((s1.trans s2).trans s3)
theorem GU:AW ["self","book","sheet"] ["self","book","sheet"] (AI CV):=A4
theorem F6 (T:Txt w K mg t):Ao P w K mg base Bc 2 t.ct t.cu ["self","book","sheet"] (WB P w t.du):=by
 have D:=T.e5
 refine D.fn.okX GU ?_ (fun cdv A outer s H vs Q E hr h Z hZ=>?_)
 ·rintro _ _ _ _ ⟨x,dx,b,sh,zs,ns,os,rfl,_⟩
  rfl
 ·obtain⟨x,dx,b,sh,zs,ns,os,rfl,hx,bk,dis,k⟩:=h
  refine hZ ⟨_,((AE (J0 (AJ 0) (AJ 2) rfl)
   (AE (J0 (AJ 0) (AU AM (AJ 1) AD (fun _ _=>rfl)) rfl)
   (AE (J0 (AJ 0) (AZ T.e3 (G0 T) (Bd hr) (AA (AJ 1) AB)) rfl)
   (AG (J0 (AJ 0) P4 rfl)))))),?_⟩
  try dsimp only[cx_K,cx_mg]
  have kx:∀{G:Hp} {fs:List (Str×V)} {o:HO},G x=some (.ins t.du dx fs)→Kp G (upd G x o):=fun h a xs e=>by rw[AR (Db e h (by intro z;cases z))];exact e
  refine⟨_,rfl,_,rfl,x,_,dx,_,rfl,hx,T.hv,T.hx,(by decide),?_⟩
  generalize hH1:upd H x _=H1
  have h1:H1 x=some (.ins t.du dx [("sheet",.str sh)]):=by rw[← hH1];exact AC
  have q1:Kp H H1:=by rw[← hH1];exact kx hx
  have k1:KeepX x H H1:=by rw[← hH1];exact KeepX.upd
  have bk1:=bk.kp q1
  obtain⟨t1,t2,t3,t4,us,ws,hb,g1,g2,g3,g4,g5,g6⟩:=id bk1
  refine⟨_,rfl,b,_,_,_,rfl,rfl,Ae.of hb,rfl,_,rfl,x,_,dx,_,rfl,h1,T.hv,T.hy,(by show(1:Nat)<1000;decide),?_⟩
  generalize hH2:upd H1 x _=H2
  have h2:H2 x=some (.ins t.du dx [("sheet",.str sh),("sheets",.ref t1)]):=by rw[← hH2];exact AC
  have q2:Kp H1 H2:=by rw[← hH2];exact kx h1
  have k2:KeepX x H1 H2:=by rw[← hH2];exact KeepX.upd
  refine⟨_,rfl,b,zs,ns,os,rfl,bk1.kp q2,dis,fun c cs H3 n3 oc pc s3=>?_⟩
  refine⟨_,rfl,x,_,dx,_,rfl,s3 _ _ h2,T.hv,T.hz,(by show(2:Nat)<1000;decide),?_⟩
  generalize hH4:upd H3 x _=H4
  have h4:H4 x=some (.ins t.du dx [("sheet",.str sh),("sheets",.ref t1),("called",.ref c)]):=by rw[← hH4];exact AC
  have cx:c≠x:=fun e=>by rw[e,h2]at n3;cases n3
  have q4:Kp H3 H4:=by rw[← hH4];exact kx (s3 _ _ h2)
  have k4:KeepX x H3 H4:=by rw[← hH4];exact KeepX.upd
  refine fun r n5=>⟨_,rfl,x,_,dx,_,rfl,AF.new n5 _ _ h4,T.hv,T.h0,(by show(3:Nat)<1000;decide),?_⟩
  have s5:=AF.new (o:=DN P w r []) n5
  have rx:r≠x:=fun e=>by rw[e,h4]at n5;cases n5
  have q5:=kx (o:=.ins t.du dx (Em (Str.ofString "known_rows") (V.ref r) [("sheet",.str sh),("sheets",.ref t1),("called",.ref c)])) (s5 _ _ h4)
  have r0:H r=none:=by
   cases q:H r with
   | none=>rfl
   | some o=>rw[(k1.trans (k2.trans ((AF.keep s3).trans k4))) r o rx q]at n5;cases n5
  refine k _ r r0 ⟨⟨t1,c,cs,AC,q5 _ _ (s5 _ _ (q4 _ _ (s3 _ _ (q2 _ _ g1)))),by rw[AR cx];exact s5 _ _ (k4 _ _ cx oc),Paired.imp' (fun _ _ y=>y.kp ((q4.trans (Kp.same s5)).trans q5)) pc⟩,by rw[AR rx];exact AC,(fun p hp=>nomatch hp),(fun p hp=>nomatch hp)⟩ (k1.trans (k2.trans ((AF.keep s3).trans (k4.trans ((AF.keep s5).trans KeepX.upd)))))
theorem Bz:AW ["self","formula","sheet"] ["self","formula"] (AI BR):=A4
theorem DY (T:Txt w K mg t):Ao P w K mg base Bc 2 t.cv t.cw ["self","formula"] (Vq t.du):=by
 have D:=T.e6
 refine D.fn.okX Bz ?_ (fun cdv A outer s H vs Q E hr h Z hZ=>?_)
 ·rintro _ _ _ _ ⟨u,d,a,sh,zs,l,rfl,_⟩
  rfl
 ·obtain⟨u,d,a,sh,zs,l,rfl,op,hl,hr0,k⟩:=h
  refine hZ ⟨_,((AE (Ag (i:=2) Bz.nd rfl (Or.inl rfl) (Ej (AV GZ (AU AM (AJ 1) AD (fun _ _=>rfl)) Co (AQ _)) (En (AJ 0) rfl) (AU AM (AJ 1) AD (fun _ _=>rfl))))
   (AE (Ak (AV GC (AJ 2) (En (AJ 0) rfl) rfl) (AG (AK (Ah (AH AS (AH AS AB))))) AY)
   (AE (Ak (AV Aq (AU AM (AJ 1) AD (fun _ _=>rfl)) AS (AQ _)) (AG (AK (AZ T.e4 (Fc T) (Bd hr) (AA (AJ 2) (AT (AU AM (AJ 1) AD (fun _ _=>rfl)) (AT (AU AM (AJ 1) AD (fun _ _=>rfl)) AB)))))) AY)
   (AG (AK (Ar NH (Ah (AT (AU AM (AJ 1) AD (fun _ _=>rfl)) (AA (AJ 2) AB))) (IO S9 (AJ 1) (J3 AD) J1)))))))),?_⟩
  try dsimp only[cx_K,cx_mg]
  obtain⟨t1,c,r,hu0,h1⟩:=op
  obtain⟨w,s0,rs,ha,hs0,hno⟩:∃(w:Str) (s0:Option Str) (rs:List V),H a=some (.tup (.str w::Ua s0::rs))∧(match l with | .cell s _=>s0=s | .rng s _ _=>s0=s | .cols s _ _ _ _=>s0=s | _=>True)∧(Ei sh s0∉zs→RE sh zs l=.flt (zS "gone")):=by
   cases l with
   | cell s c=>obtain⟨q,ha,hq⟩:=hl;exact⟨_,s,_,ha,rfl,fun n=>if_neg n⟩
   | rng s c d=>obtain⟨q,q2,ha,hq,hq2⟩:=hl;exact⟨_,s,_,ha,rfl,fun n=>if_neg n⟩
   | cols s i x j y=>obtain⟨q,q2,ha,hq,hq2⟩:=hl;exact⟨_,s,_,ha,rfl,fun n=>if_neg n⟩
   | val v=>cases hr0
   | gone=>cases hr0
   | nam z=>cases hr0
   | par i=>cases hr0
   | flt z=>cases hr0
  refine IB (fun σ' H'=>σ'=[some (.ref u),some (.ref a),some (.str (Ei sh s0))]∧H'=H) (fun N hN=>?_) (fun σ' H' hJ=>?_)
  ·refine⟨_,rfl,a,_,_,_,rfl,rfl,Ae.of ha,BP,rfl,?_⟩
   cases s0 with
   | none=>exact⟨true,rfl,AL ⟨_,rfl,u,_,d,_,_,rfl,hu0,T.hv,T.hx,rfl,hN _ _ ⟨rfl,rfl⟩⟩⟩
   | some z=>exact⟨false,rfl,AO ⟨_,rfl,a,_,_,_,rfl,rfl,Ae.of ha,BP,hN _ _ ⟨rfl,rfl⟩⟩⟩
  obtain⟨rfl,rfl⟩:=hJ
  refine⟨_,rfl,_,rfl,u,_,d,_,_,rfl,hu0,T.hv,T.hy,rfl,t1,_,rfl,.inr (Ae.of h1),rfl,(by simp[BC]),?_⟩
  rw[if_pos rfl,SD]
  by_cases hz:Ei sh s0∈zs
  rotate_left
  ·rw[decide_eq_false hz]
   refine⟨true,rfl,AL ⟨A3,fun b hb=>k b _ ?_ (AF.new hb)⟩⟩
   rw[hno hz]
   exact AC
  rw[decide_eq_true hz]
  refine⟨false,rfl,AO ?_⟩
  clear ha hno w rs
  cases l with
  | cell s c0=>
   obtain⟨q,hA,hq⟩:=hl
   obtain rfl:s0=s:=hs0
   refine⟨_,rfl,a,_,_,_,rfl,rfl,Ae.of hA,Ac,rfl,false,(by nofun),AO ?_⟩
   refine⟨_,rfl,a,_,_,_,rfl,rfl,Ae.of hA,Ac,_,rfl,A3,fun p hp=>?_⟩
   have s1:=AF.new (o:=.tup [.str (zS "cell"),.str (Ei sh s0)]) hp
   refine⟨_,rfl,_,rfl,a,_,rfl,Ae.of (s1 _ _ hA),(by simp[HT.CK]),fun p2 hp2=>?_⟩
   have s2:=AF.new (o:=.tup [.ref q]) hp2
   refine⟨p,p2,_,_,rfl,rfl,Ae.of (AF.new hp2 _ _ AC),Ae.of AC,(by simp),(by show 3≤sizeLine;decide),(fun z=>by cases z),fun _ b hb=>?_⟩
   have s3:=((s1.trans s2).trans (AF.new (o:=.tup ([.str (zS "cell"),.str (Ei sh s0)]++[.ref q])) hb))
   have s4:=AF.new (o:=.tup ([.str (zS "cell"),.str (Ei sh s0)]++[.ref q])) hb
   refine k b _ ?_ s3
   rw[show RE sh zs (.cell s0 c0)=.cell (some (Ei sh s0)) c0 from if_pos hz]
   exact⟨q,AC,s3 _ _ hq⟩
  | rng s c0 d0=>
   obtain⟨q,q2,hA,hq,hq2⟩:=hl
   obtain rfl:s0=s:=hs0
   refine⟨_,rfl,a,_,_,_,rfl,rfl,Ae.of hA,Ac,rfl,false,(by nofun),AO ?_⟩
   refine⟨_,rfl,a,_,_,_,rfl,rfl,Ae.of hA,Ac,_,rfl,A3,fun p hp=>?_⟩
   have s1:=AF.new (o:=.tup [.str (zS "range"),.str (Ei sh s0)]) hp
   refine⟨_,rfl,_,rfl,a,_,rfl,Ae.of (s1 _ _ hA),(by simp[HT.CK]),fun p2 hp2=>?_⟩
   have s2:=AF.new (o:=.tup [.ref q,.ref q2]) hp2
   refine⟨p,p2,_,_,rfl,rfl,Ae.of (AF.new hp2 _ _ AC),Ae.of AC,(by simp),(by show 4≤sizeLine;decide),(fun z=>by cases z),fun _ b hb=>?_⟩
   have s3:=((s1.trans s2).trans (AF.new (o:=.tup ([.str (zS "range"),.str (Ei sh s0)]++[.ref q,.ref q2])) hb))
   have s4:=AF.new (o:=.tup ([.str (zS "range"),.str (Ei sh s0)]++[.ref q,.ref q2])) hb
   refine k b _ ?_ s3
   rw[show RE sh zs (.rng s0 c0 d0)=.rng (some (Ei sh s0)) c0 d0 from if_pos hz]
   exact⟨q,q2,AC,s3 _ _ hq,s3 _ _ hq2⟩
  | cols s i x j y=>
   obtain⟨q,q2,hA,hq,hq2⟩:=hl
   obtain rfl:s0=s:=hs0
   refine⟨_,rfl,a,_,_,_,rfl,rfl,Ae.of hA,Ac,rfl,true,(by nofun),AL ?_⟩
   refine⟨_,rfl,_,rfl,a,_,_,_,rfl,rfl,Ae.of hA,Bp,_,rfl,a,_,_,_,rfl,rfl,Ae.of hA,Ib,Ei sh s0,q,q2,i,j,x,y,rfl,hq,hq2,fun b G hb sG=>k b G ?_ sG⟩
   rw[show RE sh zs (.cols s0 i x j y)=.rng (some (Ei sh s0)) ⟨1,i,true,x⟩ ⟨16,j,true,y⟩from if_pos hz]
   exact hb
  | val v=>cases hr0
  | gone=>cases hr0
  | nam z=>cases hr0
  | par i=>cases hr0
  | flt z=>cases hr0
theorem CY:AW ["self","formula","kind"] ["self","formula"] (AI Bl):=A4
theorem Ec (T:Txt w K mg t):Ao P w K mg base Bc 3 t.cx t.cy ["self","formula"] (Vr t.du):=by
 have D:=T.e7
 refine D.fn.okX CY ?_ (fun cdv A outer s H vs Q E hr h Z hZ=>?_)
 ·rintro _ _ _ _ ⟨u,d,v,sh,zs,f,pr,n,rfl,_⟩
  rfl
 ·obtain⟨u,d,v,sh,zs,f,pr,n,rfl,op,hv,fo,nn,k⟩:=h
  refine hZ ⟨_,((AE (Ag (i:=2) CY.nd rfl (Or.inl rfl) (AU AM (AJ 1) AD (fun _ _=>rfl)))
   (AE (Ak (AV Aq (AJ 2) AS (AQ _)) (AG (AK (Ah (AH AS (AH AS AB))))) AY)
   (AE (Ak (Be (AV Aq (AJ 2) AS (AQ _)) (Be (AV Aq (AJ 2) AS (AQ _)) (Bf (AV Aq (AJ 2) AS (AQ _))))).pt (AG (AK (Cd (AJ 0) T.hv T.ho (DY T) (Bd hr) T.e6.b .nil Dz (AA (AJ 1) AB)))) AY)
   (AG (AK (AJ 1))))))),?_⟩
  try dsimp only[cx_K,cx_mg]
  obtain⟨t1,c,r,hu0,h1⟩:=id op
  cases hv with
  | @lf a l hl=>
   cases l with
   | val v=>
    obtain⟨q,ha,hq⟩:=id hl
    refine⟨_,rfl,a,_,_,_,rfl,rfl,Ae.of ha,Ac,?_⟩
    refine⟨_,rfl,rfl,false,(by nofun),AO ?_⟩
    exact⟨_,rfl,rfl,false,(by nofun),AO ⟨_,rfl,rfl,false,(by nofun),AO ⟨_,rfl,rfl,false,(by nofun),AO ⟨_,rfl,k _ H (.lf hl) (AF.refl _)⟩⟩⟩⟩
   | par i=>
    have ha:H a=some (.tup [vS "param",.int i]):=hl
    refine⟨_,rfl,a,_,_,_,rfl,rfl,Ae.of ha,Ac,?_⟩
    refine⟨_,rfl,rfl,false,(by nofun),AO ?_⟩
    exact⟨_,rfl,rfl,false,(by nofun),AO ⟨_,rfl,rfl,false,(by nofun),AO ⟨_,rfl,rfl,false,(by nofun),AO ⟨_,rfl,k _ H (.lf hl) (AF.refl _)⟩⟩⟩⟩
   | flt z=>
    have ha:H a=some (.tup [vS "fault",.str z]):=hl
    refine⟨_,rfl,a,_,_,_,rfl,rfl,Ae.of ha,Ac,?_⟩
    refine⟨_,rfl,rfl,false,(by nofun),AO ?_⟩
    exact⟨_,rfl,rfl,false,(by nofun),AO ⟨_,rfl,rfl,false,(by nofun),AO ⟨_,rfl,rfl,false,(by nofun),AO ⟨_,rfl,k _ H (.lf hl) (AF.refl _)⟩⟩⟩⟩
   | nam z=>cases nn
   | gone=>
    have ha:H a=some (.tup [vS "gone"]):=hl
    refine⟨_,rfl,a,_,_,_,rfl,rfl,Ae.of ha,Ac,?_⟩
    exact⟨_,rfl,rfl,true,(by nofun),AL ⟨A3,fun b hb=>k _ _ (.lf (show upd H b _ b=_ from AC)) (AF.new hb)⟩⟩
   | cell s c0=>
    obtain⟨q,ha,hq⟩:=id hl
    refine⟨_,rfl,a,_,_,_,rfl,rfl,Ae.of ha,Ac,?_⟩
    refine⟨_,rfl,rfl,false,(by nofun),AO ?_⟩
    refine⟨_,rfl,rfl,true,(by nofun),AL (AL ?_)⟩
    exact⟨_,rfl,u,d,_,rfl,hu0,rfl,_,rfl,u,d,a,sh,zs,_,rfl,op,hl,rfl,fun b G hb sG=>k _ G (.lf hb) sG⟩
   | rng s c0 d0=>
    obtain⟨q,q2,ha,hq,hq2⟩:=id hl
    refine⟨_,rfl,a,_,_,_,rfl,rfl,Ae.of ha,Ac,?_⟩
    refine⟨_,rfl,rfl,false,(by nofun),AO ?_⟩
    refine⟨_,rfl,rfl,false,(by nofun),AO ⟨_,rfl,rfl,true,(by nofun),AL (AL ?_)⟩⟩
    exact⟨_,rfl,u,d,_,rfl,hu0,rfl,_,rfl,u,d,a,sh,zs,_,rfl,op,hl,rfl,fun b G hb sG=>k _ G (.lf hb) sG⟩
   | cols s i x j y=>
    obtain⟨q,q2,ha,hq,hq2⟩:=id hl
    refine⟨_,rfl,a,_,_,_,rfl,rfl,Ae.of ha,Ac,?_⟩
    refine⟨_,rfl,rfl,false,(by nofun),AO ?_⟩
    refine⟨_,rfl,rfl,false,(by nofun),AO ⟨_,rfl,rfl,false,(by nofun),AO ⟨_,rfl,rfl,true,(by nofun),AL ?_⟩⟩⟩
    exact⟨_,rfl,u,d,_,rfl,hu0,rfl,_,rfl,u,d,a,sh,zs,_,rfl,op,hl,rfl,fun b G hb sG=>k _ G (.lf hb) sG⟩
  | @nd a t kd us ps ha ht hl hh=>
   have hv0:Aw H (.ref a) (.nd kd ps):=.nd ha ht hl hh
   cases fo with
   | nd ok hps=>
   obtain⟨r0,er⟩:=Gm t kd us
   have ha0:H a=some (.tup (.str (kw kd)::r0)):=by rw[ha,er]
   have fm:=Aw.parts hl hh
   have kb:=So ok
   refine⟨_,rfl,a,_,_,_,rfl,rfl,Ae.of ha0,Ac,?_⟩
   refine⟨_,rfl,rfl,false,congrArg V.bl (Im kb (by simp)),AO ?_⟩
   exact⟨_,rfl,rfl,false,congrArg V.bl (Im kb (by simp)),AO ⟨_,rfl,rfl,false,congrArg V.bl (Im kb (by simp)),AO ⟨_,rfl,rfl,false,congrArg V.bl (Im kb (by simp)),AO ⟨_,rfl,k _ H hv0 (AF.refl _)⟩⟩⟩⟩
theorem Ba:AW ["self","row","parts","within","filled","opened","node"] ["self","row","parts","within"] (AI B0):=A4
theorem FH (T:Txt w K mg t){n:Nat}(ih:Ao P w K mg base Bc (4*n+8) t.c5 t.c6 ["self","formula","within"] (SF P w t.du n)):Ao P w K mg base Bc (4*n+9) t.cz t.c0 ["self","row","parts","within"] (Vn P w t.du n):=by
 have D:=T.e8
 refine D.fn.okX Ba ?_ (fun cdv A outer s H vs Q E hr h Z hZ=>?_)
 ·rintro _ _ _ _ ⟨u,d,r,rl,pl,wa,B,sh,zs,kvs,W,pr,m,rw,Tt,us,ws,ps,rfl,_⟩
  rfl
 ·obtain⟨u,d,r,rl,pl,wa,B,sh,zs,kvs,W,pr,m,rw0,Tt,us,ws,ps,rfl,op,bo,rL,sT,hpl,fmp,hpm,hp3,hps,h3,hwa,pW,hWn,hcn,k⟩:=h
  have hu1:=K6 hr
  have hu5:=Ql hr
  refine hZ ⟨_,((AE (Ag (i:=4) Ba.nd rfl (Or.inl rfl) (Bo AB))
   (AE (Ag (i:=5) Ba.nd rfl (Or.inl rfl) Pb)
   (AE (EL PassesOwn.never rfl (Bt (AJ 1)) (Bg (i:=6) Ba.nd rfl (Or.inl rfl))
   (AG (Ak (AV II (AU AM (AJ 6) AD (fun _ _=>rfl)) AS (AQ _)) (AG (Dc (HF PySem.F.plainAttrs_list PySem.F.slot_list_append PySem.F.type_list_append Ca (AJ 4) (AA (AJ 6) AB)))) (AE (Ak (AV (NY hu1) (AU AM (AJ 6) AD (fun _ _=>rfl)) (AJ 5) rfl) (AG (J9 hu1 (AJ 5) (AU AM (AJ 6) AD (fun _ _=>rfl)) (Cd (AJ 0) T.hv T.ht ih (hr.mono (by omega)) T.fb.b .nil Dz (AT (AU Ce (AJ 2) (AU AM (AJ 6) AD (fun _ _=>rfl)) (fun _ _=>rfl)) (AA (AJ 3) AB))) rfl)) AY)
   (AE (Ak (AV GZ (Hr hu1 (AJ 5) (AU AM (AJ 6) AD (fun _ _=>rfl)) (fun _ _=>rfl)) Co (AQ _)) (AG (AK Co)) AY)
   (AG (Dc (HF PySem.F.plainAttrs_list PySem.F.slot_list_extend PySem.F.type_list_extend Gd (AJ 4) (AT (Hr hu1 (AJ 5) (AU AM (AJ 6) AD (fun _ _=>rfl)) (fun _ _=>rfl)) AB)))))))))
   (AG (AK (Ej (AV DC (AN Ab (by rfl) T.fn PySem.boot_len (AA (AJ 4) AB)) (A1 T.gm) (AQ _)) (AJ 4) Co))))))),?_⟩
  try dsimp only[cx_K,cx_mg]
  have lrw:=rL.len
  obtain⟨_,wr,e0,hrl,fmr,sw,ro⟩:=rL
  cases e0
  have lwr:wr.length=rw0.length:=Paired.length fmr
  have lus:us.length=ps.length:=Paired.length fmp
  refine⟨Nat.zero_le _,fun fl hfl=>?_⟩
  have s1:=AF.new (o:=.lst []) hfl
  have o1:upd H fl (.lst []) fl=some (.lst []):=AC
  generalize upd H fl (.lst [])=H1 at *
  refine fun dO hdO=>?_
  have s2:=AF.new (o:=.dK []) hdO
  have o2:upd H1 dO (.dK []) dO=some (.dK []):=AC
  generalize upd H1 dO (.dK [])=H2 at *
  have s02:=s1.trans s2
  have hdO0:H dO=none:=AF.back0 s1 hdO
  have op2:=op.same s02
  have flr:fl≠r:=fun z=>by rw[z,op.me]at hfl;cases hfl
  have dOr:dO≠r:=fun z=>by rw[z,op.me]at hdO0;cases hdO0
  have fdO:dO≠fl:=fun z=>by rw[z,o1]at hdO;cases hdO
  have kp0:∀{G:Hp},(∀ b o,b≠fl→b≠dO→b≠r→H2 b=some o→G b=some o)→KeepX r H G:=fun h b o hb e=>h b o (AX e hfl) (AX e hdO0) hb (s02 _ _ e)
  have kp1:∀{G:Hp},(∀ b o,b≠fl→b≠dO→b≠r→H2 b=some o→G b=some o)→∀{b:Addr} {o:HO},H b=some o→(∀ φ,o≠.ext φ)→G b=some o:=fun {G} h {b o} e ne=>kp0 h b o (fun z=>by rw[z,op.me]at e;cases e;exact ne _ rfl) e
  have kp2:∀{G:Hp},(∀ b o,b≠fl→b≠dO→b≠r→H2 b=some o→G b=some o)→Kp H G:=fun h b xs e=>kp1 h e (fun _ z=>by cases z)
  refine⟨_,rfl,rl,rfl,⟨_,At.of (s02 _ _ hrl)⟩,?_⟩
  refine El (xs:=wr) (fun i σ H5=>∃(fws:List V) (rs:Nat→List Fm) (os:List (A9×V)) (js:List Nat) (kvs5:List (KN×Addr×V)) (x6:Option V),σ=[some (.ref u),some (.ref rl),some (.ref pl),some (.ref wa),some (.ref fl),some (.ref dO),x6]∧X0 P w t.du H H2 u d r fl dO B sh zs W n pr kvs rw0 ps i H5 fws rs os js kvs5)
   ⟨[],fun _=>[],[],[],kvs,none,rfl,s2 _ _ o1,(by rw[List.take_zero];exact .nil),(by rw[List.take_zero];exact fun g hg=>nomatch hg),Nat.zero_le _,o2,rfl,List.Pairwise.nil,(fun j hj=>nomatch hj),(fun j hj=>nomatch hj),(by rw[List.take_zero];exact fun j hj=>nomatch hj),op2,fun p hp e=>?_,fun p hp=>.inl hp,Nat.le_add_right _ _,fun b o _ _ _ e=>e⟩ ?_ ?_ ?_
  ·obtain⟨key',W',m',g',n',x1,x2,x3,x4⟩:=op.ok p hp
   rcases x4 with⟨_,r',l',ws',y1,y2,_⟩ | ⟨_,y⟩
   ·rw[e]at y1;cases y1;rw[hfl]at y2;cases y2
   ·rw[e]at y;cases y
  ·rintro i σ H5 _ ⟨fws,rs,os,js,kvs5,x6,rfl,S⟩
   exact At.of (kp1 S.kp hrl (fun _ z=>by cases z))
  ·rintro i x σ H5 hx ⟨fws,rs,os,js,kvs5,x6,rfl,S⟩
   obtain⟨g,hg,xg⟩:=Au fmr hx
   have gm:=List.mem_of_getElem? hg
   have q5:=kp2 S.kp
   have hi:i<rw0.length:=(List.getElem?_eq_some_iff.mp hg).1
   have et:rw0.take (i+1)=rw0.take i++[g]:=by rw[List.take_add_one,hg];rfl
   rcases UI (ro g gm).1 (xg.kp q5)with⟨a,ii,rfl,rfl,ha⟩ | ⟨a,w0,r0,rfl,ha,hne,hno⟩
   rotate_left
   ·refine⟨_,rfl,a,_,_,_,rfl,rfl,Ae.of ha,Ac,rfl,true,(by rw[hne];rfl),AL ?_⟩
    have hf:=S.ln
    refine⟨_,rfl,.inl ⟨rfl,_,At.of S.ofl⟩,_,rfl,fl,fws,_,rfl,rfl,S.ofl,Tq (by omega),?_⟩
    have q7:Kp H5 (upd H5 fl (.lst (fws++[.ref a]))):=Kp.lst S.ofl KeepX.upd
    have ef:(rw0.take (i+1)).flatMap (DQ rs)=(rw0.take i).flatMap (DQ rs)++[g]:=by rw[et,List.flatMap_append,List.flatMap_cons,List.flatMap_nil,Qg hno];rfl
    refine⟨fws++[.ref a],rs,os,js,kvs5,_,rfl,AC,?_,?_,(by rw[List.length_append,List.length_singleton];omega),(by rw[AR fdO];exact S.od),S.ks,S.nd,S.lt,fun j hj=>?_,fun j hj=>?_,S.op.kx KeepX.upd S.ofl (.inl ⟨_,rfl⟩) S.av,S.av,S.en,S.cn,fun b o h1 h2 h3 e=>by rw[AR h1];exact S.kp b o h1 h2 h3 e⟩
    ·rw[ef]
     exact HY (Ay.kp S.fm q7) (.cons ((xg.kp q5).kp q7) .nil)
    ·rw[ef]
     intro g' hg'
     rcases List.mem_append.mp hg' with h | h
     ·exact S.ro g' h
     ·rw[List.mem_singleton.mp h]
      obtain⟨r1,_⟩:=ro g gm
      exact⟨r1,fun i e=>absurd e (hno i)⟩
    ·obtain⟨v,p,e1,e2,e3⟩:=S.vs j hj
     exact⟨v,p,e1,e2,e3.to q7 fun l ws hl _ e=>by rw[AR hl];exact e⟩
    ·rw[et]at hj
     rcases List.mem_append.mp hj with h | h
     ·exact S.pj j h
     ·exact absurd (List.mem_singleton.mp h).symm (hno _)
   have hpar:=(ro _ gm).2 ii rfl
   obtain⟨j,rfl⟩:=Int.eq_ofNat_of_zero_le hpar.1
   have hjm:j<ps.length:=by have:=hpar.2;omega
   obtain⟨pp,hpp⟩:∃ pp,ps[j]?=some pp:=⟨_,List.getElem?_eq_getElem hjm⟩
   have gpp:ps.getD j Io=pp:=by rw[List.getD_eq_getElem?_getD,hpp];rfl
   refine⟨_,rfl,a,_,_,_,rfl,rfl,Ae.of ha,Ac,rfl,false,(by nofun),AO ?_⟩
   refine IB (fun σ' H'=>∃(fws:List V) (rs:Nat→List Fm) (os:List (A9×V)) (js:List Nat) (kvs5:List (KN×Addr×V)),σ'=[some (.ref u),some (.ref rl),some (.ref pl),some (.ref wa),some (.ref fl),some (.ref dO),some (.ref a)]∧X0 P w t.du H H2 u d r fl dO B sh zs W n pr kvs rw0 ps i H' fws rs os js kvs5∧j∈js∧H' a=some (.tup [vS "param",.int (j:Int)])) (fun N hN=>?_) (fun σ' H6 hJ=>?_)
   ·refine⟨_,rfl,a,_,_,_,rfl,rfl,Ae.of ha,BP,_,rfl,dO,_,rfl,Fj.k (k:=Sum.inl ((j:Nat):Int)) S.od,_,rfl,?_⟩
    by_cases hj:j∈js
    ·obtain⟨v,p,e1,e2,e3⟩:=S.vs j hj
     rw[e1]
     exact AO (hN _ _ ⟨fws,rs,os,js,kvs5,rfl,S,hj,ha⟩)
    have hnk:=On S.ks hj
    rw[SK hnk]
    obtain⟨xp,hxp,fxp⟩:∃ xp,us[j]?=some xp∧Aw H xp pp:=by
     have h1:us[j]?=some (us[j]'(by omega)):=List.getElem?_eq_getElem _
     obtain⟨g',e1,e2⟩:=Au fmp h1
     rw[hpp]at e1
     cases e1
     exact⟨_,h1,e2⟩
    have hpm1:=List.mem_of_getElem? hpp
    obtain⟨t1',c',cs',hu5,_⟩:=S.op.ob
    have nd':(js++[j]).Nodup:=by
     rw[List.nodup_append]
     exact⟨S.nd,by simp,fun x hx y hy e=>hj (by rw[List.mem_singleton.mp hy]at e;exact e▸hx)⟩
    have lt':∀ k∈js++[j],k<ps.length:=fun k hk=>(List.mem_append.mp hk).elim (S.lt k) fun h=>by rw[List.mem_singleton.mp h];exact hjm
    have sum':((js++[j]).map fun j=>B6 B n W (ps.getD j Io)).sum=(js.map fun j=>B6 B n W (ps.getD j Io)).sum+B6 B n W pp:=by
     rw[List.map_append,List.sum_append,List.map_singleton,List.sum_singleton,gpp]
    have tot:=Gs (F:=B6 B n W) nd' lt'
    have cn5:=S.cn
    refine AL ⟨_,rfl,u,d,_,rfl,hu5,rfl,_,rfl,_,rfl,a,_,_,_,rfl,rfl,Ae.of ha,BP,pl,_,_,_,rfl,rfl,At.of (kp1 S.kp hpl (fun _ z=>by cases z)),BZ hxp,_,rfl,?_⟩
    refine⟨u,d,r,wa,xp,B,sh,zs,kvs5,W,pp,pr,ws,rfl,S.op,bo,fxp.kp q5,(hps pp hpm1).1,h3,kp1 S.kp hwa (fun _ z=>by cases z),Prs.kp pW q5,hWn,(hps pp hpm1).2,(by omega),fun y kvs6 H6 op6 rv6 k6 nw6=>?_⟩
    have q56:Kp H5 H6:=fun b xs e=>k6 b _ (fun z=>by rw[z,S.op.me]at e;cases e) e
    have od6:=k6 _ _ dOr S.od
    refine⟨_,rfl,_,rfl,a,_,_,_,rfl,rfl,Ae.of (q56 _ _ ha),BP,dO,_,rfl,J7.k (k:=Sum.inl ((j:Nat):Int)) od6 (EG (by have:=congrArg List.length S.ks;rw[List.length_map,List.length_map]at this;have h4:js.length≤200:=Qu S.nd S.lt (by omega);omega)),?_⟩
    rw[Kb hnk]
    obtain⟨r2,hr2⟩:∃ r2,Qn H6 y r2 (Bn B sh zs n W pp) pr fl:=by
     rcases rv6 with⟨z,r2,rL2⟩ | z
     ·refine⟨r2,.inl ⟨z,rL2,fun e=>?_⟩⟩
      have:=nw6.fr fl e
      rw[S.ofl]at this
      cases this
     ·exact⟨[],.inr z⟩
    have q67:Kp H6 (upd H6 dO (.dK (os++[(Sum.inl ((j:Nat):Int),y)]))):=fun b xs e=>by rw[AR (Db e od6 (by intro z;cases z))];exact e
    have k67:∀{b:Addr} {o:HO},H6 b=some o→(∀ kv,o≠.dK kv)→upd H6 dO (.dK (os++[(Sum.inl ((j:Nat):Int),y)])) b=some o:=fun {b o} e ne=>by rw[AR (fun z=>by rw[z,od6]at e;cases e;exact ne _ rfl)];exact e
    have avs:∀ p∈kvs6,p.2.2≠.ref fl:=fun p hp e=>by
     rcases nw6.en p hp with h | ⟨_,h⟩
     ·exact S.av p h e
     ·have:=h fl e
      rw[S.ofl]at this
      cases this
    have avd:∀ p∈kvs6,p.2.2≠.ref dO:=fun p hp e=>by
     rcases nw6.en p hp with h | ⟨_,h⟩
     ·obtain⟨key',W',m',g',n',x1,x2,x3,x4⟩:=S.op.ok p h
      rcases x4 with⟨_,r',l',ws',y1,y2,_⟩ | ⟨_,y⟩
      ·rw[e]at y1;cases y1;rw[S.od]at y2;cases y2
      ·rw[e]at y;cases y
     ·have:=h dO e
      rw[S.od]at this
      cases this
    have nb5:∀{l':Addr},H5 l'=none→H l'=none:=fun e=>(kp0 S.kp).back S.op.me e
    have fc:(rw0.take i).flatMap (DQ rs)=(rw0.take i).flatMap (DQ fun k=>if k=j then r2 else rs k):=Iq fun g hg=>by
     cases g with
     | nd kd qs=>rfl
     | lf l=>
      cases l with
      | par i2=>
       have h0:=(ro _ (List.mem_of_mem_take hg)).2 i2 rfl
       obtain⟨j2,rfl⟩:=Int.eq_ofNat_of_zero_le h0.1
       have:j2≠j:=fun z=>hj (z▸(S.pj j2 hg).1)
       show rs _=(if _ then r2 else rs _)
       rw[if_neg (by simpa using this)]
      | _=>rfl
    refine hN _ _ ⟨fws,(fun k=>if k=j then r2 else rs k),os++[(Sum.inl ((j:Nat):Int),y)],js++[j],kvs6,rfl,⟨k67 (k6 _ _ flr S.ofl) (fun _ z=>by cases z),by rw[← fc];exact Ay.kp S.fm (q56.trans q67),by rw[← fc];exact S.ro,S.ln,AC,by rw[List.map_append,List.map_append,S.ks];rfl,nd',lt',fun k hk=>?_,fun k hk=>?_,op6.kx KeepX.upd od6 (.inr ⟨_,rfl⟩) avd,avs,fun p hp=>?_,(by have:=nw6.ln;omega),fun b o h1 h2 h3 e=>by rw[AR h2];exact k6 _ _ h3 (S.kp b o h1 h2 h3 e)⟩,by simp,q67 _ _ (q56 _ _ ha)⟩
    ·rcases List.mem_append.mp hk with h | h
     ·obtain⟨v,p,e1,e2,e3⟩:=S.vs k h
      have hkj:k≠j:=fun z=>hj (z▸h)
      refine⟨v,p,Qo e1,e2,?_⟩
      rw[if_neg hkj]
      exact e3.to (q56.trans q67) fun l ws _ _ e=>k67 (k6 _ _ (fun z=>by rw[z,S.op.me]at e;cases e) e) (fun _ z=>by cases z)
     ·obtain rfl:=List.mem_singleton.mp h
      refine⟨y,pp,Oo hnk,hpp,?_⟩
      rw[if_pos rfl]
      exact hr2.to q67 fun l ws _ _ e=>k67 e (fun _ z=>by cases z)
    ·obtain⟨h1,p,h2,h3⟩:=S.pj k hk
     have hkj:k≠j:=fun z=>hj (z▸h1)
     exact⟨List.mem_append_left _ h1,p,h2,by rw[if_neg hkj];exact h3⟩
    ·rcases nw6.en p hp with h | ⟨h,h'⟩
     ·exact S.en p h
     ·exact .inr ⟨h,fun l e=>nb5 (h' l e)⟩
   obtain⟨fws,rs,os,js,kvs5,rfl,S,hj,ha6⟩:=hJ
   obtain⟨v,p,e1,e2,e3⟩:=S.vs j hj
   rw[hpp]at e2
   cases e2
   refine⟨_,rfl,_,rfl,a,_,_,_,rfl,rfl,Ae.of ha6,BP,dO,v,rfl,e1▸Fj.k (k:=Sum.inl ((j:Nat):Int)) S.od,rfl,?_⟩
   have totj:=Gs (F:=B6 B n W) S.nd S.lt
   have cn5:=S.cn
   rcases e3 with⟨sz2,rL2,Su⟩ | ⟨sz2,rfl⟩
   rotate_left
   ·refine⟨true,rfl,AL ?_⟩
    refine k _ kvs5 _ S.op (.inr ⟨?_,rfl⟩) (kp0 S.kp) ⟨fun l e=>(by cases e),S.en,by omega⟩
    have hT:(ps.map (Bn B sh zs n W))[((j:Nat):Int).toNat]?=some (Bn B sh zs n W pp):=by rw[Int.toNat_natCast,List.getElem?_map,hpp];rfl
    have:=sw.sz_par hT gm
    rw[List.map_cons,List.map_nil,BQ,BQ]at this
    omega
   obtain⟨l2,ws2,rfl,ol2,fm2,sw2,ro2⟩:=id rL2
   have ll2:=rL2.len
   have lw2:ws2.length=(rs j).length:=Paired.length fm2
   refine⟨false,rfl,AO ?_⟩
   have hf:=S.ln
   refine⟨_,rfl,.inl ⟨rfl,_,At.of S.ofl⟩,_,rfl,_,rfl,a,_,_,_,rfl,rfl,Ae.of ha6,BP,dO,.ref l2,rfl,e1▸Fj.k (k:=Sum.inl ((j:Nat):Int)) S.od,fl,l2,fws,ws2,rfl,rfl,S.ofl,ol2,Tq (by omega),?_⟩
   have q7:Kp H6 (upd H6 fl (.lst (fws++ws2))):=Kp.lst S.ofl KeepX.upd
   have ef:(rw0.take (i+1)).flatMap (DQ rs)=(rw0.take i).flatMap (DQ rs)++rs j:=by
    rw[et,List.flatMap_append,List.flatMap_cons,List.flatMap_nil,List.append_nil]
    rfl
   refine⟨fws++ws2,rs,os,js,kvs5,_,rfl,AC,?_,?_,(by rw[List.length_append];omega),(by rw[AR fdO];exact S.od),S.ks,S.nd,S.lt,fun j hj=>?_,fun j' hj'=>?_,S.op.kx KeepX.upd S.ofl (.inl ⟨_,rfl⟩) S.av,S.av,S.en,S.cn,fun b o h1 h2 h3 e=>by rw[AR h1];exact S.kp b o h1 h2 h3 e⟩
   ·rw[ef]
    exact HY (Ay.kp S.fm q7) (Ay.kp fm2 q7)
   ·rw[ef]
    exact fun g' hg'=>(List.mem_append.mp hg').elim (S.ro g') (ro2 g')
   ·obtain⟨v,p,e1,e2,e3⟩:=S.vs j hj
    exact⟨v,p,e1,e2,e3.to q7 fun l ws hl _ e=>by rw[AR hl];exact e⟩
   ·rw[et]at hj'
    rcases List.mem_append.mp hj' with h | h
    ·exact S.pj j' h
    ·have h:=List.mem_singleton.mp h
     injection h with h
     injection h with h
     have:j'=j:=by omega
     subst this
     exact⟨hj,pp,hpp,sw2⟩
  ·rintro σ H5 ⟨fws,rs,os,js,kvs5,x6,rfl,S⟩
   have S:=S
   have fm5:=S.fm
   have ro5:=S.ro
   rw[lwr,List.take_length]at fm5 ro5
   have swf:FY (rw0.flatMap (DQ rs)) [Cr (ps.map (Bn B sh zs n W)) Tt]:=sw.fill fun i hi=>by
    have h0:=(ro _ hi).2 i rfl
    obtain⟨j,rfl⟩:=Int.eq_ofNat_of_zero_le h0.1
    obtain⟨_,p,e1,e2⟩:=S.pj j (by rw[lwr,List.take_length];exact hi)
    exact⟨_,by rw[Int.toNat_natCast,List.getElem?_map,e1];rfl,by rw[Int.toNat_natCast];exact e2⟩
   have lsz:fws.length=BW (Cr (ps.map (Bn B sh zs n W)) Tt):=by
    rw[Paired.length fm5,swf.len,BQ,BQ];omega
   have totj:=Gs (F:=B6 B n W) S.nd S.lt
   have cn5:=S.cn
   refine⟨_,rfl,fl,_,rfl,.inl (At.of S.ofl),_,_,rfl,rfl,_,rfl,?_⟩
   by_cases hle:BW (Cr (ps.map (Bn B sh zs n W)) Tt)≤200
   ·rw[decide_eq_true (by rw[lsz];omega)]
    exact AL ⟨_,rfl,k _ kvs5 _ S.op (.inl ⟨hle,_,fl,_,rfl,S.ofl,fm5,swf,ro5⟩) (kp0 S.kp) ⟨fun l' e=>by cases e;exact hfl,S.en,by omega⟩⟩
   ·rw[decide_eq_false (by rw[lsz];omega)]
    exact AO (k _ kvs5 _ S.op (.inr ⟨by omega,rfl⟩) (kp0 S.kp) ⟨fun l' e=>(by cases e),S.en,by omega⟩)
theorem DF:AW ["self","key","within","inner"] ["self","key","within"] (AI B1):=A4
theorem FI (T:Txt w K mg t){n:Nat}(ih:Ao P w K mg base Bc (4*n+8) t.c5 t.c6 ["self","formula","within"] (SF P w t.du n)):Ao P w K mg base Bc (4*n+9) t.c1 t.c2 ["self","key","within"] (XY P w t.du n):=by
 have D:=T.e9
 refine D.fn.okX DF ?_ (fun cdv A outer s H vs Q E hr h Z hZ=>?_)
 ·rintro _ _ _ _ ⟨u,d,r,ka,wa,B,sh,zs,kvs,W,key,m,g,ws,rfl,_⟩
  rfl
 ·obtain⟨u,d,r,ka,wa,B,sh,zs,kvs,W,key,m,g,ws,rfl,op,bo,hka,hwa,pW,hWn,hkW,hB,hok,hcn,k⟩:=h
  have hu1:=K6 hr
  have hu5:=Ql hr
  refine hZ ⟨_,((AE (Ag (i:=3) DF.nd rfl (Or.inl rfl) (Bu B3 (by rfl) T.ft A0 (BD (AN PSt.call_sorted (by rfl) T.fy Jl (CL (Ar Rr (AJ 2) (Ah (AA (AJ 1) AB))) AB)) AB)))
   (AE (Ak (AV (Rl hu5) (Ah (AA (AJ 1) (AA (AJ 3) AB))) (En (AJ 0) rfl) rfl) (AG (Rm hu5 (En (AJ 0) rfl) (Ah (AA (AJ 1) (AA (AJ 3) AB))) (Cd (AJ 0) T.hv T.ht ih (hr.mono (by omega)) T.fb.b .nil Dz (AT (AU AM (Hr hu1 (En (AJ 0) rfl) (AJ 1) (fun _ _=>rfl)) AD (fun _ _=>rfl)) (AA (AJ 3) AB))) rfl)) AY)
   (AG (AK (P3 hu5 (En (AJ 0) rfl) (Ah (AA (AJ 1) (AA (AJ 3) AB))) (fun _ _=>rfl))))))),?_⟩
  try dsimp only[cx_K,cx_mg]
  have lW:ws.length=W.length:=Paired.length pW
  refine IB (fun σ' H'=>∃(ib:Addr) (vs:List V) (W1:List Da),σ'=[some (.ref u),some (.ref ka),some (.ref wa),some (.ref ib)]∧H' ib=some (.tup vs)∧PSt.Prs H' vs W1∧(∀ k,k∈W1↔k∈key::W)∧W1.length=W.length+1∧AF H H') (fun N hN=>?_) (fun σ' H2 hJ=>?_)
  ·refine⟨_,rfl,_,rfl,Ey,fun t1 n1=>?_⟩
   have s1:=AF.new (o:=.tup [.ref ka]) n1
   have o1:upd H t1 (.tup [.ref ka]) t1=some (.tup [.ref ka]):=AC
   generalize upd H t1 (.tup [.ref ka])=H1 at *
   have pk:PSt.PrV H1 (.ref ka) key:=⟨ka,rfl,s1 _ _ hka⟩
   have pW1:=Prs.kp pW (Kp.same s1)
   refine⟨wa,t1,ws,[.ref ka],rfl,rfl,Ae.of (s1 _ _ hwa),Ae.of o1,(by simp),QB (by simp only[List.length_cons,List.length_nil];omega),(fun e=>?_),(fun ne p hp=>?_)⟩
   ·subst e
    have e0:W=[]:=List.length_eq_zero_iff.mp lW.symm
    subst e0
    refine⟨t1,[.ref ka],[key],rfl,Ae.of o1,(.cons pk .nil),(by simp only[List.length_append,List.length_cons,List.length_nil];omega),fun l vs' ps' hl pr' pm _=>⟨l,vs',rfl,.inl ⟨At.of AC,fun ib hib=>?_⟩⟩⟩
    have sl:=AF.new (o:=.lst vs') hl
    have si:=AF.new (o:=.tup vs') hib
    exact hN _ _ ⟨ib,vs',ps',rfl,AC,Prs.kp pr' ((Kp.same sl).trans (Kp.same si)),(fun k=>pm.mem_iff.trans (Iff.rfl)),pm.length_eq.trans (by simp),(s1.trans sl).trans si⟩
   ·have sp:=AF.new (o:=.tup (ws++[.ref ka])) hp
    refine⟨p,(ws++[.ref ka]),(W++[key]),rfl,Ae.of AC,(Prs.kp (HY pW1 (.cons pk .nil)) (Kp.same sp)),(by simp only[List.length_append,List.length_cons,List.length_nil];omega),fun l vs' ps' hl pr' pm _=>⟨l,vs',rfl,.inl ⟨At.of AC,fun ib hib=>?_⟩⟩⟩
    have sl:=AF.new (o:=.lst vs') hl
    have si:=AF.new (o:=.tup vs') hib
    exact hN _ _ ⟨ib,vs',ps',rfl,AC,Prs.kp pr' ((Kp.same sl).trans (Kp.same si)),(fun k=>pm.mem_iff.trans (by simp[or_comm])),pm.length_eq.trans (by simp),((s1.trans sp).trans sl).trans si⟩
  obtain⟨ib,vs,W1,rfl,hib,pr1,mW1,lW1,s2⟩:=hJ
  obtain⟨cs,ecs,pcs⟩:=Lm pr1
  have opn:∀{G:Hp},AF H2 G→HL P w t.du G u d r B sh zs kvs:=fun s=>op.same (s2.trans s)
  have kna:∀{G:Hp} {b:Addr},AF H2 G→G b=some (.tup [.ref ka,.ref ib])→KNAt G (Bq key,wK W1) b:=fun s e=>⟨ka,ib,cs,e,s _ _ (s2 _ _ hka),by rw[← ecs];exact s _ _ hib,Paired.imp' (fun _ _ x=>let ⟨ks,y,z⟩:=x;⟨ks,y,s _ _ z⟩) pcs⟩
  have same1:∀ n',HK B n' W1 g→Bn B sh zs n' W1 g=Bn B sh zs n (key::W) g:=fun n' h=>by
   have a:=GJ B sh zs hok (Nat.le_max_left n n') (fun k=>(mW1 k).symm)
   have b:=GJ B sh zs h (Nat.le_max_right n n') (fun k=>Iff.rfl)
   exact b.1.symm.trans a.1
  obtain⟨okW1,cn1⟩:HK B n W1 g∧B6 B n W1 g=B6 B n (key::W) g:=⟨(GJ B sh zs hok (Nat.le_refl _) (fun k=>(mW1 k).symm)).2,Qk fun k=>(mW1 k).symm⟩
  obtain⟨t1,c,cs2,hu0,h1,h2,pc⟩:=(opn (AF.refl _)).ob
  refine⟨_,rfl,_,rfl,A3,fun kb hkb=>?_⟩
  have s3:=AF.new (o:=.tup [.ref ka,.ref ib]) hkb
  have o3:upd H2 kb (.tup [.ref ka,.ref ib]) kb=some (.tup [.ref ka,.ref ib]):=AC
  generalize upd H2 kb (.tup [.ref ka,.ref ib])=H3 at *
  have op3:=opn s3
  refine⟨_,rfl,u,_,d,_,_,rfl,(s3 _ _ hu0),T.hv,T.h0,rfl,r,kb,kvs,(Bq key,wK W1),rfl,rfl,⟨op3.me,op3.ks,kna s3 o3⟩,_,rfl,?_⟩
  have s23:=s2.trans s3
  cases hvn:EC kvs (Bq key,wK W1)with
  | some v=>
   refine AO ⟨_,rfl,u,_,d,_,_,rfl,(s3 _ _ hu0),T.hv,T.h0,rfl,_,rfl,_,rfl,A3,fun kb2 hkb2=>?_⟩
   have s4:=AF.new (o:=.tup [.ref ka,.ref ib]) hkb2
   have op4:=op3.same s4
   refine⟨r,kb2,kvs,_,v,rfl,rfl,⟨op4.me,op4.ks,kna (s3.trans s4) AC⟩,hvn,?_⟩
   obtain⟨p,hp,e1,e2⟩:=Ol hvn
   obtain⟨key',W',m',g',n',x1,x2,x3,x4⟩:=op4.ok p hp
   rw[e1]at x1
   injection x1 with x1 x1'
   obtain rfl:=E2 x1
   obtain rfl:=Qh x1'
   rw[hB]at x2
   cases x2
   rw[same1 n' x3,e2]at x4
   exact k v kvs _ op4 x4 (AF.keep (s23.trans s4)) (fun p hp=>.inl hp) (by omega)
  | none=>
   obtain⟨a,v,ev,ha,hv⟩:=KU pc hB
   refine AL ⟨_,rfl,u,d,_,rfl,s3 _ _ hu0,rfl,_,rfl,u,_,d,_,_,rfl,(s3 _ _ hu0),T.hv,T.hz,rfl,_,rfl,c,.ref a,rfl,ev▸Fj.t (k:=Bq key) (s3 _ _ h2) (s23 _ _ hka),a,_,_,_,rfl,rfl,Ae.of (s3 _ _ ha),rfl,_,rfl,?_⟩
   obtain⟨m3,fog⟩:=bo.2 _ _ _ hB
   refine⟨u,d,r,ib,v,B,sh,zs,kvs,W1,g,m,vs,rfl,op3,bo,hv.kp (Kp.same s3),fog,m3,s3 _ _ hib,Prs.kp pr1 (Kp.same s3),(by omega),okW1,(by omega),fun x kvs1 H4 op4 rv4 kx4 nw4=>?_⟩
   obtain⟨t1',c',cs3,hu4,h14,h24,pc4⟩:=op4.ob
   have hr3:∀{b:Addr} {xs:List V},H3 b=some (.tup xs)→b≠r:=fun e z=>by rw[z,op3.me]at e;cases e
   have q34:Kp H3 H4:=fun b xs e=>kx4 _ _ (hr3 e) e
   refine⟨_,rfl,u,_,d,_,_,rfl,hu4,T.hv,T.h0,rfl,_,rfl,_,rfl,A3,fun kb3 hkb3=>?_⟩
   have s5:=AF.new (o:=.tup [.ref ka,.ref ib]) hkb3
   have o5:upd H4 kb3 (.tup [.ref ka,.ref ib]) kb3=some (.tup [.ref ka,.ref ib]):=AC
   generalize upd H4 kb3 (.tup [.ref ka,.ref ib])=H5 at *
   have op5:=op4.same s5
   have kn5:KNAt H5 (Bq key,wK W1) kb3:=by
    obtain⟨b1,b2,cs',y1,y2,y3,y4⟩:=kna s3 o3
    rw[o3]at y1
    cases y1
    exact⟨ka,ib,cs',o5,s5 _ _ (q34 _ _ y2),s5 _ _ (q34 _ _ y3),Paired.imp' (fun _ _ x=>let ⟨ks,y,z⟩:=x;⟨ks,y,s5 _ _ (q34 _ _ z)⟩) y4⟩
   have lk:(wK W1).length=W1.length:=by unfold wK;rw[List.length_map]
   have noK:∀ p∈kvs1,p.1≠(Bq key,wK W1):=fun p hp e=>by
    rcases nw4.en p hp with h | ⟨h,_⟩
    ·have:=hvn
     unfold EC at this
     cases q:kvs.find? fun p=>decide (p.1=(Bq key,wK W1))with
     | none=>exact absurd e (by simpa using List.find?_eq_none.mp q p h)
     | some z=>rw[q]at this;cases this
    ·rw[e,lk]at h;omega
   have ln4:=nw4.ln
   refine⟨r,kb3,kvs1,_,rfl,rfl,⟨op5.me,op5.ks,kn5⟩,Nat.lt_of_le_of_lt (show kvs1.length≤1000000 by omega) (by decide),Om noK,?_⟩
   dsimp only[SJ,XZ]
   have q56:Kp H5 (upd H5 r (DN P w r (kvs1++[((Bq key,wK W1),kb3,x)]))):=fun b xs e=>by rw[AR (Db e op5.me (by intro z;cases z))];exact e
   have k56:∀{b:Addr} {o:HO},H5 b=some o→(∀ φ,o≠.ext φ)→upd H5 r (DN P w r (kvs1++[((Bq key,wK W1),kb3,x)])) b=some o:=fun {b o} e n=>by rw[AR (fun z=>by rw[z,op5.me]at e;cases e;exact n _ rfl)];exact e
   have rv6:JR (upd H5 r (DN P w r (kvs1++[((Bq key,wK W1),kb3,x)]))) x (Bn B sh zs n W1 g) m:=rv4.to ((Kp.same s5).trans q56) fun l ws _ e=>k56 (s5 _ _ e) (fun _ z=>by cases z)
   have op6:HL P w t.du (upd H5 r (DN P w r (kvs1++[((Bq key,wK W1),kb3,x)]))) u d r B sh zs (kvs1++[((Bq key,wK W1),kb3,x)]):=by
    obtain⟨t1',c',cs3,hu5',h15,h25,pc5⟩:=op5.ob
    refine⟨⟨t1',c',cs3,k56 hu5' (fun _ z=>by cases z),q56 _ _ h15,k56 h25 (fun _ z=>by cases z),Paired.imp' (fun _ _ x=>x.kp q56) pc5⟩,AC,fun p hp=>?_,fun p hp=>?_⟩
    ·rcases List.mem_append.mp hp with hp | hp
     ·exact(op5.ks p hp).kp q56
     ·rw[List.mem_singleton.mp hp];exact kn5.kp q56
    ·rcases List.mem_append.mp hp with hp | hp
     ·obtain⟨key',W',m',g',n',x1,x2,x3,x4⟩:=op5.ok p hp
      exact⟨key',W',m',g',n',x1,x2,x3,x4.to q56 fun l ws _ e=>k56 e (fun _ z=>by cases z)⟩
     ·rw[List.mem_singleton.mp hp];exact⟨key,W1,m,g,n,rfl,hB,okW1,rv6⟩
   have k06:KeepX r H (upd H5 r (DN P w r (kvs1++[((Bq key,wK W1),kb3,x)]))):=(AF.keep s23).trans (kx4.trans ((AF.keep s5).trans KeepX.upd))
   generalize upd H5 r (DN P w r (kvs1++[((Bq key,wK W1),kb3,x)]))=H6 at *
   obtain⟨t1'',c'',cs4,hu6,_⟩:=op6.ob
   refine⟨_,rfl,u,_,d,_,_,rfl,hu6,T.hv,T.h0,rfl,_,rfl,_,rfl,A3,fun kb4 hkb4=>?_⟩
   have s7:=AF.new (o:=.tup [.ref ka,.ref ib]) hkb4
   have op7:=op6.same s7
   have kn7:KNAt (upd H6 kb4 (.tup [.ref ka,.ref ib])) (Bq key,wK W1) kb4:=by
    obtain⟨b1,b2,cs',y1,y2,y3,y4⟩:=kn5
    rw[o5]at y1
    cases y1
    exact⟨ka,ib,cs',AC,s7 _ _ (q56 _ _ y2),s7 _ _ (q56 _ _ y3),Paired.imp' (fun _ _ x=>let ⟨ks,y,z⟩:=x;⟨ks,y,s7 _ _ (q56 _ _ z)⟩) y4⟩
   refine⟨r,kb4,_,_,x,rfl,rfl,⟨op7.me,op7.ks,kn7⟩,Qm noK,?_⟩
   rw[same1 n okW1]at rv6
   refine k x _ _ op7 (rv6.to (Kp.same s7) fun l ws _ e=>s7 _ _ e) (k06.trans (AF.keep s7)) (fun p hp=>?_) (by rw[List.length_append,List.length_singleton];omega)
   rcases List.mem_append.mp hp with hp | hp
   ·rcases nw4.en p hp with h | ⟨h,h'⟩
    ·exact .inl h
    ·exact .inr ⟨by omega,fun l e=>AF.back0 s23 (h' l e)⟩
   ·rw[List.mem_singleton.mp hp]
    exact .inr ⟨by show W.length<(wK W1).length;omega,fun l e=>AF.back0 s23 (nw4.fr l e)⟩
theorem Bb:AW ["self","formula","within","key","parts","row"] ["self","formula","within"] (AI B2):=A4
theorem FJ (T:Txt w K mg t){n:Nat}(ih:Ao P w K mg base Bc (4*n+8) t.c5 t.c6 ["self","formula","within"] (SF P w t.du n)):Ao P w K mg base Bc (4*n+10) t.c3 t.c4 ["self","formula","within"] (Vm P w t.du n):=by
 have D:=T.fa
 refine D.fn.okX Bb ?_ (fun cdv A outer s H vs Q E hr h Z hZ=>?_)
 ·rintro _ _ _ _ ⟨u,d,r,wa,v,B,sh,zs,kvs,W,f,pr,ws,key,rfl,_⟩
  rfl
 ·obtain⟨u,d,r,wa,v,B,sh,zs,kvs,W,f,pr,ws,key,rfl,op,bo,hv,fo,h3,hwa,pW,hWn,hok,hcn,hkey,k⟩:=h
  have hu1:=K6 hr
  have hu2:=UG hr
  refine hZ ⟨_,((AE (Ag (i:=3) Bb.nd rfl (Or.inl rfl) (Ah (AT (AU AM (AJ 1) AD (fun _ _=>rfl)) (AT (AU AM (AJ 1) AD (fun _ _=>rfl)) AB))))
   (AE (Ag (i:=4) Bb.nd rfl (Or.inl rfl) (AZ T.d8 (DH T) (hr.mono (by omega)) (AA (AJ 1) AB)))
   (AE (Ak (Be (AV (Tn hu2) (AJ 3) (AJ 2) rfl) (Be (AV (NY hu1) (AJ 3) (En (AJ 0) rfl) rfl) (Bf (AV II (AU AM (Hr hu1 (En (AJ 0) rfl) (AJ 3) (fun _ _=>rfl)) AD (fun _ _=>rfl)) (AN Ab (by rfl) T.fn PySem.boot_len (AA (AJ 4) AB)) (AQ _))))).pt (AG (AK (Bo (Av (Ah (AH AS (AH AS AB))) AB)))) AY)
   (AE (Ag (i:=5) Bb.nd rfl (Or.inl rfl) (Cd (AJ 0) T.hv T.hr (FI T ih) (hr.mono (by omega)) T.e9.b .nil Dz (AA (AJ 3) (AA (AJ 2) AB))))
   (AG (AK (Ej (AV GZ (AJ 5) Co (AQ _)) Co (Cd (AJ 0) T.hv T.hq (FH T ih) (hr.mono (by omega)) T.e8.b .nil Dz (AA (AJ 5) (AA (AJ 4) (AA (AJ 2) AB)))))))))))),?_⟩
  try dsimp only[cx_K,cx_mg]
  obtain⟨a,rs,rfl,ha⟩:=UH hv hkey
  obtain⟨t1,c,cs,hu0,h1,h2,pc⟩:=op.ob
  refine⟨_,rfl,a,_,_,_,rfl,rfl,Ae.of ha,Ac,_,rfl,a,_,_,_,rfl,rfl,Ae.of ha,BP,A3,fun ka nka=>?_⟩
  have s1:=AF.new (o:=.tup [.str key.1,.str key.2]) nka
  have o1:upd H ka (.tup [.str key.1,.str key.2]) ka=some (.tup [.str key.1,.str key.2]):=AC
  generalize upd H ka (.tup [.str key.1,.str key.2])=H1 at *
  refine⟨_,rfl,.ref a,f,pr,8,rfl,hv.kp (Kp.same s1),fo,fun lp us H2 hlp0 hlp fmp s2=>?_⟩
  have s12:=s1.trans s2
  have o2:=s2 _ _ o1
  have hus:us.length=(A5 f).length:=Paired.length fmp
  refine⟨_,rfl,_,rfl,ka,wa,key,ws,W,rfl,rfl,o2,Ae.of (s12 _ _ hwa),Prs.kp pW (Kp.same s12),_,rfl,?_⟩
  by_cases hW:key∈W
  ·rw[decide_eq_true hW]
   refine AL (AL ?_)
   refine⟨A3,fun p2 n2=>⟨Ey,fun l nl=>?_⟩⟩
   have s3:=AF.new (o:=.tup [vS "fault",vS "name"]) n2
   have s4:=AF.new (o:=.lst [.ref p2]) nl
   have s04:=(s12.trans s3).trans s4
   exact k _ kvs _ (op.same s04) (by rw[EU B sh zs hkey (.inl hW)];exact KY AC (s4 _ _ (show upd H2 p2 _ p2=_ from AC))) (AF.keep s04) ⟨fun l' e=>by cases e;exact AF.back0 (s12.trans s3) nl,fun p hp=>.inl hp,by omega⟩
  rw[decide_eq_false hW]
  refine AO ?_
  refine⟨_,rfl,_,rfl,u,_,d,_,_,rfl,(s12 _ _ hu0),T.hv,T.hz,rfl,c,_,rfl,Fj.t (k:=Bq key) (s12 _ _ h2) o2,_,rfl,?_⟩
  cases hB:B.lookup key with
  | none=>
   rw[Qi pc hB]
   refine AL (AL ?_)
   refine⟨A3,fun p2 n2=>⟨Ey,fun l nl=>?_⟩⟩
   have s3:=AF.new (o:=.tup [vS "fault",vS "name"]) n2
   have s4:=AF.new (o:=.lst [.ref p2]) nl
   have s04:=(s12.trans s3).trans s4
   exact k _ kvs _ (op.same s04) (by rw[EU B sh zs hkey (.inr (.inl hB))];exact KY AC (s4 _ _ (show upd H2 p2 _ p2=_ from AC))) (AF.keep s04) ⟨fun l' e=>by cases e;exact AF.back0 (s12.trans s3) nl,fun p hp=>.inl hp,by omega⟩
  | some q=>
  obtain⟨m,g⟩:=q
  obtain⟨ca,cv,ecv,hca,hcv⟩:=KU pc hB
  rw[ecv]
  refine AO ?_
  refine⟨_,rfl,u,_,d,_,_,rfl,(s12 _ _ hu0),T.hv,T.hz,rfl,_,rfl,c,.ref ca,rfl,ecv▸Fj.t (k:=Bq key) (s12 _ _ h2) o2,ca,_,_,_,rfl,rfl,Ae.of (s12 _ _ hca),Ac,_,rfl,lp,us,rfl,.inl (At.of hlp),rfl,_,rfl,?_⟩
  by_cases hm:m=(A5 f).length
  rotate_left
  ·rw[decide_eq_false (fun e=>hm (by injection e with e;omega))]
   refine AL ?_
   refine⟨A3,fun p2 n2=>⟨Ey,fun l nl=>?_⟩⟩
   have s3:=AF.new (o:=.tup [vS "fault",vS "name"]) n2
   have s4:=AF.new (o:=.lst [.ref p2]) nl
   have s04:=(s12.trans s3).trans s4
   exact k _ kvs _ (op.same s04) (by rw[EU B sh zs hkey (.inr (.inr ⟨m,g,hB,hm⟩))];exact KY AC (s4 _ _ (show upd H2 p2 _ p2=_ from AC))) (AF.keep s04) ⟨fun l' e=>by cases e;exact AF.back0 (s12.trans s3) nl,fun p hp=>.inl hp,by omega⟩
  rw[decide_eq_true (by rw[hm,hus])]
  refine AO ?_
  have cp:=IC (n:=n) hkey hB hW
  have op2:=op.same s12
  obtain⟨t1',c',cs',hu2',h12,h22,pc2⟩:=op2.ob
  refine⟨_,rfl,u,d,_,rfl,hu2',rfl,_,rfl,_,rfl,u,d,r,ka,wa,B,sh,zs,kvs,W,key,m,g,ws,rfl,op2,bo,o2,s12 _ _ hwa,Prs.kp pW (Kp.same s12),hWn,hW,hB,hok.put B hkey hB hW,(by omega),fun x kvs1 H3 op3 rv3 k3 en3 ln3=>?_⟩
  have kx2:∀{b:Addr} {o:HO},H2 b=some o→(∀ φ,o≠.ext φ)→H3 b=some o:=fun {b o} e ne=>k3 b o (fun z=>by rw[z,op2.me]at e;cases e;exact ne _ rfl) e
  have q23:Kp H2 H3:=fun b xs e=>kx2 e (fun _ z=>by cases z)
  have k03:KeepX r H H3:=(AF.keep s12).trans k3
  have en03:∀ p∈kvs1,p∈kvs∨(W.length<p.1.2.length∧∀ l,p.2.2=.ref l→H l=none):=fun p hp=>(en3 p hp).imp id fun h=>⟨h.1,fun l e=>AF.back0 s12 (h.2 l e)⟩
  have eop:Bn B sh zs (n+1) W f=Cr ((A5 f).map (Bn B sh zs n W)) (Bn B sh zs n (key::W) g):=FP B sh zs hkey hB hW hm
  rcases rv3 with⟨sT,rr,rL⟩ | ⟨sT,rfl⟩
  rotate_left
  ·refine⟨_,rfl,rfl,true,rfl,AL ?_⟩
   refine k _ kvs1 H3 op3 (.inr ⟨?_,rfl⟩) k03 ⟨fun l e=>(by cases e),en03,by omega⟩
   rw[eop]
   exact Nat.lt_of_lt_of_le sT (Qv _ _)
  obtain⟨rl,wr,rfl,rL'⟩:=id rL
  refine⟨_,rfl,rfl,false,rfl,AO ?_⟩
  obtain⟨t1'',c'',cs'',hu3,_⟩:=op3.ob
  refine⟨_,rfl,u,d,_,rfl,hu3,rfl,_,rfl,_,rfl,_,rfl,u,d,r,rl,lp,wa,B,sh,zs,kvs1,W,pr,m,rr,_,us,ws,A5 f,rfl,op3,bo,rL,sT,kx2 hlp (fun _ z=>by cases z),Ay.kp fmp q23,hm.symm,fo.len3,fun p hp=>⟨fo.prt8 p hp,hok.1 p hp⟩,h3,kx2 (s12 _ _ hwa) (fun _ z=>by cases z),Prs.kp pW ((Kp.same s12).trans q23),(by omega),(by omega),fun x kvs2 H4 op4 rv4 k4 nw4=>?_⟩
  refine k x kvs2 H4 op4 (by rw[eop];exact rv4) (k03.trans k4) ⟨fun l e=>k03.back op3.me (nw4.fr l e),fun p hp=>?_,by have:=nw4.ln;omega⟩
  rcases nw4.en p hp with h | ⟨h,h'⟩
  ·exact en03 p h
  ·exact .inr ⟨h,fun l e=>k03.back op3.me (h' l e)⟩
theorem Bj:AW ["self","formula","within","row","part","more"] ["self","formula","within"] (AI DA):=A4
theorem HB (T:Txt w K mg t):∀ n:Nat,Ao P w K mg base Bc (4*n+8) t.c5 t.c6 ["self","formula","within"] (SF P w t.du n):=by
 have D:=T.fb
 intro m
 induction m with
 | zero=>
  refine D.fn.okX Bj ?_ (fun cdv A outer s H vs Q E hr h Z hZ=>?_)
  ·rintro _ _ _ _ ⟨u,d,r,wa,v,B,sh,zs,kvs,W,f,pr,ws,rfl,_⟩
   rfl
  ·obtain⟨u,d,r,wa,v,B,sh,zs,kvs,W,f,pr,ws,rfl,op,bo,hv,fo,h3,hwa,pW,hWn,hok,hcn,k⟩:=h
   exact hok.elim
 | succ n ih=>
  refine D.fn.okX Bj ?_ (fun cdv A outer s H vs Q E hr h Z hZ=>?_)
  ·rintro _ _ _ _ ⟨u,d,r,wa,v,B,sh,zs,kvs,W,f,pr,ws,rfl,_⟩
   rfl
  ·obtain⟨u,d,r,wa,v,B,sh,zs,kvs,W,f,pr,ws,rfl,op,bo,hv,fo,h3,hwa,pW,hWn,hok,hcn,k⟩:=h
   refine hZ ⟨_,((AE (Ak (Be (AV Aq (AU AM (AJ 1) AD (fun _ _=>rfl)) AS (AQ _)) (Bf (AV Aq (AU AM (AJ 1) AD (fun _ _=>rfl)) AS (AQ _)))).pt (AG (AK (Cd (AJ 0) T.hv T.hs (FJ T ih) (hr.mono (by omega)) T.fa.b .nil Dz (AA (AJ 1) (AA (AJ 2) AB))))) AY)
   (AE (Ag (i:=3) Bj.nd rfl (Or.inl rfl) (Bo AB))
   (AE (EL PassesOwn.never rfl (Bt (AZ T.d8 (DH T) (hr.mono (by omega)) (AA (AJ 1) AB))) (Bg (i:=4) Bj.nd rfl (Or.inl rfl))
   (AE (Ag (i:=5) Bj.nd rfl (Or.inl rfl) (Cd (AJ 0) T.hv T.ht ih (hr.mono (by omega)) T.fb.b .nil Dz (AA (AJ 4) (AA (AJ 2) AB))))
   (AE (Ak (AV GZ (AJ 5) Co (AQ _)) (AG (AK Co)) AY)
   (AG (Dc (HF PySem.F.plainAttrs_list PySem.F.slot_list_extend PySem.F.type_list_extend Gd (AJ 3) (AA (AJ 5) AB)))))))
   (AE (Dc (HF PySem.F.plainAttrs_list PySem.F.slot_list_append PySem.F.type_list_append Ca (AJ 3) (BD (Cd (AJ 0) T.hv T.hp (Ec T) (hr.mono (by omega)) T.e7.b .nil Dz (AA (AJ 1) AB)) AB)))
   (AG (AK (Ej (AV DC (AN Ab (by rfl) T.fn PySem.boot_len (AA (AJ 3) AB)) (A1 T.gm) (AQ _)) (AJ 3) Co)))))))),?_⟩
   try dsimp only[cx_K,cx_mg]
   obtain⟨a,w0,r0,rfl,ha,e1,e2⟩:=SE hv fo
   obtain⟨t1,c,cs,hu0,h1,h2,pc⟩:=op.ob
   cases hk:Eg f with
   | some key=>
    have hb:(Lj f||Mj f)=true:=by rw[← Qj,hk];rfl
    refine⟨_,rfl,a,_,_,_,rfl,rfl,Ae.of ha,Ac,rfl,Lj f,congrArg V.bl e1,?_⟩
    cases hn:Lj f with
    | true=>exact AL (AL ⟨_,rfl,u,d,_,rfl,hu0,rfl,_,rfl,_,rfl,u,d,r,wa,.ref a,B,sh,zs,kvs,W,f,pr,ws,key,rfl,op,bo,hv,fo,h3,hwa,pW,hWn,hok,hcn,hk,k⟩)
    | false=>
     have ho:Mj f=true:=by rw[hn,Bool.false_or]at hb;exact hb
     exact AO ⟨_,rfl,a,_,_,_,rfl,rfl,Ae.of ha,Ac,rfl,true,congrArg V.bl (e2.trans ho),AL ⟨_,rfl,u,d,_,rfl,hu0,rfl,_,rfl,_,rfl,u,d,r,wa,.ref a,B,sh,zs,kvs,W,f,pr,ws,key,rfl,op,bo,hv,fo,h3,hwa,pW,hWn,hok,hcn,hk,k⟩⟩
   | none=>
   have hb:(Lj f||Mj f)=false:=by rw[← Qj,hk];rfl
   obtain⟨hn,ho⟩:=Bool.or_eq_false_iff.mp hb
   have cs1:((A5 f).map (B6 B n W)).sum≤B6 B (n+1) W f:=SI
   refine⟨_,rfl,a,_,_,_,rfl,rfl,Ae.of ha,Ac,rfl,false,congrArg V.bl (e1.trans hn),AO ⟨_,rfl,a,_,_,_,rfl,rfl,Ae.of ha,Ac,rfl,false,congrArg V.bl (e2.trans ho),AO ?_⟩⟩
   refine⟨Nat.zero_le _,fun l hl0=>?_⟩
   have s1:=AF.new (o:=.lst []) hl0
   have ol:upd H l (.lst []) l=some (.lst []):=AC
   generalize upd H l (.lst [])=H1 at *
   refine⟨_,rfl,.ref a,f,pr,8,rfl,hv.kp (Kp.same s1),fo,fun lp us H2 hlp0 hlp fmp s2=>?_⟩
   have s12:=s1.trans s2
   have op2:=op.same s12
   refine⟨lp,rfl,⟨_,At.of hlp⟩,?_⟩
   have hpl:us.length=(A5 f).length:=Paired.length fmp
   have l3:=fo.len3
   have lr:l≠r:=fun z=>by rw[z,op.me]at hl0;cases hl0
   have lpl:lp≠l:=fun e=>by rw[e]at hlp0;rw[hlp0]at ol;cases ol
   refine El (xs:=us) (fun i σ H5=>∃(wr:List V) (rr:List Fm) (kvs5:List (KN×Addr×V)) (x4 x5:Option V),σ=[some (.ref u),some (.ref a),some (.ref wa),some (.ref l),x4,x5]∧H5 l=some (.lst wr)∧Ay H5 wr rr∧FY rr (((A5 f).take i).map (Bn B sh zs n W))∧(∀ g∈rr,RO pr g)∧rr.length≤200*i∧HL P w t.du H5 u d r B sh zs kvs5∧(∀ p∈kvs5,p.2.2≠.ref l)∧(∀ p∈kvs5,p∈kvs∨(W.length<p.1.2.length∧∀ l,p.2.2=.ref l→H l=none))∧kvs5.length≤kvs.length+(((A5 f).take i).map (B6 B n W)).sum∧(∀ b o,b≠l→b≠r→H2 b=some o→H5 b=some o))
    ⟨[],[],kvs,none,none,rfl,s2 _ _ ol,.nil,(by rw[List.take_zero];exact .nil),(fun g hg=>nomatch hg),Nat.zero_le _,op2,fun p hp e=>?_,fun p hp=>.inl hp,Nat.le_add_right _ _,fun b o _ _ e=>e⟩ ?_ ?_ ?_
   ·obtain⟨key',W',m',g',n',x1,x2,x3,x4⟩:=op.ok p hp
    rcases x4 with⟨_,r',l',ws',y1,y2,_⟩ | ⟨_,y⟩
    ·rw[e]at y1;cases y1;rw[hl0]at y2;cases y2
    ·rw[e]at y;cases y
   ·rintro i σ H5 _ ⟨wr,rr,kvs5,x4,x5,rfl,o5,fm5,sh5,ro5,ln5,op5,av5,en5,cn5,k5⟩
    exact At.of (k5 _ _ lpl (fun z=>by rw[z,op2.me]at hlp;cases hlp) hlp)
   ·rintro i x σ H5 hx ⟨wr,rr,kvs5,x4,x5,rfl,o5,fm5,sh5,ro5,ln5,op5,av5,en5,cn5,k5⟩
    obtain⟨g,hg,xg⟩:=Au fmp hx
    have gm:=List.mem_of_getElem? hg
    have k5':∀{b:Addr} {o:HO},H b=some o→(∀ φ,o≠.ext φ)→H5 b=some o:=fun {b o} e ne=>k5 b o (AX e hl0) (fun z=>by rw[z,op.me]at e;cases e;exact ne _ rfl) (s12 _ _ e)
    have q25:Kp H2 H5:=fun b xs e=>k5 b _ (Db e (s2 _ _ ol) (by intro z;cases z)) (fun z=>by rw[z,op2.me]at e;cases e) e
    have hi:i<(A5 f).length:=(List.getElem?_eq_some_iff.mp hg).1
    have et:(A5 f).take (i+1)=(A5 f).take i++[g]:=by rw[List.take_add_one,hg];rfl
    have cni:(((A5 f).take (i+1)).map (B6 B n W)).sum=(((A5 f).take i).map (B6 B n W)).sum+B6 B n W g:=by rw[et,List.map_append,List.sum_append];simp
    have cnt:(((A5 f).take (i+1)).map (B6 B n W)).sum≤((A5 f).map (B6 B n W)).sum:=by
     have e:=congrArg List.sum (congrArg (List.map (B6 B n W)) (List.take_append_drop (i+1) (A5 f)))
     rw[List.map_append,List.sum_append]at e
     omega
    obtain⟨t1',c',cs',hu5,_⟩:=op5.ob
    refine⟨_,rfl,u,d,_,rfl,hu5,rfl,_,rfl,_,rfl,u,d,r,wa,x,B,sh,zs,kvs5,W,g,pr,ws,rfl,op5,bo,xg.kp q25,fo.prt8 g gm,h3,k5' hwa (fun _ z=>by cases z),Prs.kp pW ((Kp.same s12).trans q25),(by omega),hok.1 g gm,(by omega),fun y kvs6 H6 op6 rv6 k6 nw6=>?_⟩
    have lne:H5 l≠none:=by rw[o5];simp
    have av6:∀ p∈kvs6,p.2.2≠.ref l:=fun p hp e=>by
     rcases nw6.en p hp with h | ⟨_,h⟩
     ·exact av5 p h e
     ·exact lne (h l e)
    have nb5:∀{l':Addr},H5 l'=none→H l'=none:=fun {l'} e=>by
     cases q:H l' with
     | none=>rfl
     | some o=>
      by_cases hlr:l'=r
      ·rw[hlr,op5.me]at e;cases e
      ·rw[k5 l' o (AX q hl0) hlr (s12 _ _ q)]at e;cases e
    have en6:∀ p∈kvs6,p∈kvs∨(W.length<p.1.2.length∧∀ l,p.2.2=.ref l→H l=none):=fun p hp=>by
     rcases nw6.en p hp with h | ⟨h,h'⟩
     ·exact en5 p h
     ·exact .inr ⟨h,fun l' e=>nb5 (h' l' e)⟩
    have ln6:=nw6.ln
    rcases rv6 with⟨sT,r2,rL⟩ | ⟨sT,rfl⟩
    rotate_left
    ·refine⟨_,rfl,rfl,true,rfl,AL ?_⟩
     have k06:KeepX r H H6:=fun b o hb e=>k6 b o hb (k5 b o (AX e hl0) hb (s12 _ _ e))
     refine k _ kvs6 H6 op6 (.inr ⟨?_,rfl⟩) k06 ⟨fun l e=>(by cases e),en6,by omega⟩
     cases f with
     | lf l=>cases gm
     | nd kd ps=>
      rw[Cs B sh zs hk,BW]
      have:=HM (F:=Bn B sh zs n W) gm
      show 200<1+BQ (ps.map _)
      have e:A5 (.nd kd ps)=ps:=rfl
      rw[e]at this
      omega
    obtain⟨l2,ws2,rfl,ol2,fm2,sw2,ro2⟩:=id rL
    have lr2:=rL.len
    refine⟨_,rfl,rfl,false,rfl,AO ?_⟩
    have o6:=k6 _ _ lr o5
    have l2l:l2≠l:=fun e=>lne (by rw[← e];exact nw6.fr l2 rfl)
    have lw:wr.length=rr.length:=Paired.length fm5
    have lw2:ws2.length=r2.length:=Paired.length fm2
    refine⟨_,rfl,.inl ⟨rfl,_,At.of o6⟩,_,rfl,l,l2,wr,ws2,rfl,rfl,o6,ol2,Tq (by omega),?_⟩
    have q56:Kp H5 H6:=fun b xs e=>k6 b _ (fun z=>by rw[z,op5.me]at e;cases e) e
    have q7:Kp H6 (upd H6 l (.lst (wr++ws2))):=Kp.lst o6 KeepX.upd
    refine⟨_,rr++r2,kvs6,_,_,rfl,AC,HY (Ay.kp fm5 (q56.trans q7)) (Ay.kp fm2 q7),?_,fun g' hg'=>(List.mem_append.mp hg').elim (ro5 g') (ro2 g'),?_,op6.kx KeepX.upd o6 (.inl ⟨_,rfl⟩) av6,av6,en6,(by omega),fun b o hb hb2 e=>by rw[AR hb];exact k6 _ _ hb2 (k5 b o hb hb2 e)⟩
    ·rw[et,List.map_append]
     exact sh5.app sw2
    ·rw[List.length_append];omega
   ·rintro σ H5 ⟨wr,rr,kvs5,x4,x5,rfl,o5,fm5,sh5,ro5,ln5,op5,av5,en5,cn5,k5⟩
    rw[hpl,List.take_length]at sh5
    rw[hpl,List.take_length]at cn5
    have k5':∀{b:Addr} {o:HO},H b=some o→(∀ φ,o≠.ext φ)→H5 b=some o:=fun {b o} e ne=>k5 b o (AX e hl0) (fun z=>by rw[z,op.me]at e;cases e;exact ne _ rfl) (s12 _ _ e)
    have q05:Kp H H5:=fun b xs e=>k5' e (fun _ z=>by cases z)
    obtain⟨t1',c',cs',hu5,_⟩:=op5.ob
    refine⟨_,rfl,.inl ⟨rfl,_,At.of o5⟩,_,rfl,u,d,_,rfl,hu5,rfl,_,rfl,u,d,.ref a,sh,zs,f,pr,8,rfl,op5.b,hv.kp q05,fo,(by rw[SG,hb];rfl),fun x H6 hx s6=>?_⟩
    have lw:wr.length=rr.length:=Paired.length fm5
    refine⟨l,wr,x,rfl,rfl,s6 _ _ o5,Tq (by omega),?_⟩
    have q7:Kp H6 (upd H6 l (.lst (wr++[x]))):=Kp.lst (s6 _ _ o5) KeepX.upd
    have sw:FY (rr++[Wa sh zs f]) [Bn B sh zs (n+1) W f]:=by
     cases f with
     | lf l=>
      rw[E1 B sh zs hk]
      have sh5:FY rr []:=sh5
      have:rr=[]:=List.length_eq_zero_iff.mp (by rw[sh5.len,BQ])
      rw[this]
      exact .lf .nil
     | nd kd ps=>
      rw[Cs B sh zs hk]
      exact FY.one sh5 (by rw[List.length_map])
    have lsz:rr.length+1=BW (Bn B sh zs (n+1) W f):=by
     have:=sw.len
     rw[List.length_append,List.length_singleton,BQ,BQ]at this
     omega
    have op7:HL P w t.du (upd H6 l (.lst (wr++[x]))) u d r B sh zs kvs5:=(op5.same s6).kx KeepX.upd (s6 _ _ o5) (.inl ⟨_,rfl⟩) av5
    have k07:KeepX r H (upd H6 l (.lst (wr++[x]))):=fun b o hb e=>by rw[AR (AX e hl0)];exact s6 _ _ (k5 b o (AX e hl0) hb (s12 _ _ e))
    refine⟨_,rfl,l,_,rfl,.inl (At.of AC),_,_,rfl,rfl,_,rfl,?_⟩
    have ll:(wr++[x]).length=BW (Bn B sh zs (n+1) W f):=by rw[List.length_append,List.length_singleton];omega
    by_cases hle:BW (Bn B sh zs (n+1) W f)≤200
    ·rw[decide_eq_true (by rw[ll];omega)]
     refine AL ⟨_,rfl,?_⟩
     refine k _ kvs5 _ op7 (.inl ⟨hle,rr++[Wa sh zs f],l,_,rfl,AC,HY (Ay.kp fm5 ((Kp.same s6).trans q7)) (.cons (hx.kp q7) .nil),sw,fun g hg=>?_⟩) k07 ⟨fun l' e=>by cases e;exact hl0,en5,by omega⟩
     rcases List.mem_append.mp hg with hg | hg
     ·exact ro5 g hg
     ·rw[List.mem_singleton.mp hg]
      exact UF (n:=8) bo.1 h3 fo
    ·rw[decide_eq_false (by rw[ll];omega)]
     exact AO (k _ kvs5 _ op7 (.inr ⟨by omega,rfl⟩) k07 ⟨fun l' e=>(by cases e),en5,by omega⟩)
theorem BS:AW ["row","tell_one","told","formula","first","one"] ["row","tell_one"] (AI DB):=A4
theorem HC (T:Txt w K mg t):Ao P w K mg base Bc 3 t.c7 t.c8 ["row","tell_one"] (WO K t):=by
 have D:=T.fc
 refine D.fn.okX BS ?_ (fun cdv A outer s H vs Q E hr h Z hZ=>?_)
 ·rintro _ _ _ _ ⟨l,r,Tt,ws,rfl,_⟩
  rfl
 ·obtain⟨l,r,Tt,ws,rfl,hl,fm,sw,fon,h200,k⟩:=h
  refine hZ ⟨_,((AE (Ag (i:=2) BS.nd rfl (Or.inl rfl) (Bo AB))
   (AE (EL PassesOwn.never rfl (Bt (AJ 0)) (Bg (i:=3) BS.nd rfl (Or.inl rfl))
   (AE (Ag (i:=4) BS.nd rfl (Or.inl rfl) (Ar IH (AN Ab (by rfl) T.fn PySem.boot_len (AA (AJ 2) AB)) (AN Ab (by rfl) T.fn PySem.boot_len (BD (AZ T.d8 (DH T) (hr.mono (by omega)) (AA (AJ 3) AB)) AB))))
   (AE (Ag (i:=5) BS.nd rfl (Or.inl rfl) (PX (AJ 1) (Xe T (Bd hr)) (AA (AJ 3) (AT (IO NK (AJ 2) (J3 (AJ 4)) J1) AB))))
   (AE (Ag (i:=2) BS.nd rfl (Or.inl rfl) (IO NK (AJ 2) J1 (J3 (AJ 4))))
   (AG (Dc (HF PySem.F.plainAttrs_list PySem.F.slot_list_append PySem.F.type_list_append Ca (AJ 2) (AA (AJ 5) AB))))))))
   (AG (AK (AU Ce (AJ 2) AD (fun _ _=>rfl))))))),?_⟩
  try dsimp only[cx_K,cx_mg]
  have hwl:ws.length=r.length:=Paired.length fm
  refine⟨Nat.zero_le _,fun d0 hd0=>?_⟩
  have s0:=AF.new (o:=.lst []) hd0
  refine⟨_,rfl,l,rfl,⟨_,At.of (s0 _ _ hl)⟩,?_⟩
  refine El (xs:=ws) (fun i σ H5=>∃(d:Addr) (vs:List V) (x3 x4 x5:Option V),σ=[some (.ref l),some (.ref t.a0),some (.ref d),x3,x4,x5]∧H d=none∧H5 d=some (.lst vs)∧Ay H5 vs ((r.take i).foldl GK [])∧AF H H5)
   ⟨d0,[],none,none,none,rfl,hd0,AC,.nil,s0⟩ ?_ ?_ ?_
  ·rintro i σ H5 _ ⟨d,vs,x3,x4,x5,rfl,_,_,_,s5⟩
   exact At.of (s5 _ _ hl)
  ·rintro i x σ H5 hx ⟨d,vs,x3,x4,x5,rfl,hd,hd5,sh5,s5⟩
   obtain⟨g,hg,xg⟩:=Au fm hx
   have xg5:=Aw.kp xg (Kp.same s5)
   have fog:=fon g (List.mem_of_getElem? hg)
   obtain⟨st',ts',est,lts⟩:=sw.pre [] i g hg
   have hlen:vs.length=st'.length+(A5 g).length:=by rw[Paired.length sh5,est,List.length_append,lts]
   have hi:i<ws.length:=(List.getElem?_eq_some_iff.mp hx).1
   have hlen2:vs.length≤i:=by
    rw[Paired.length sh5]
    refine Nat.le_trans (Jt _ _) ?_
    rw[List.length_take,List.length_nil];omega
   refine⟨_,rfl,d,vs,rfl,.inl (At.of hd5),_,rfl,x,g,4,8,rfl,xg5,fog,fun lp ps H6 hlp0 hlp fmp s6=>?_⟩
   have hpl:ps.length=(A5 g).length:=Paired.length fmp
   have ej:((vs.length:Nat):Int)-((ps.length:Nat):Int)=((st'.length:Nat):Int):=by omega
   refine⟨lp,ps,rfl,.inl (At.of hlp),_,_,rfl,rfl,?_⟩
   have hd6:=s6 _ _ hd5
   have sh6:=Ay.kp sh5 (Kp.same s6)
   rw[est]at sh6
   have ec:FS vs (some (((vs.length:Nat):Int)-((ps.length:Nat):Int))) none=vs.drop st'.length:=by rw[ej];exact Tx (by omega)
   have el:FS vs none (some (((vs.length:Nat):Int)-((ps.length:Nat):Int)))=vs.take st'.length:=by rw[ej];exact Ty (by omega)
   have shd:Ay H6 (vs.drop st'.length) ts':=by
    have:=Sg st'.length sh6
    rwa [List.drop_left]at this
   have sht:Ay H6 (vs.take st'.length) st':=by
    have:=Sh st'.length sh6
    rwa [List.take_left]at this
   rw[← ec]at shd
   rw[← el]at sht
   refine⟨_,rfl,_,_,rfl,⟨rfl,rfl⟩,_,rfl,_,rfl,_,rfl,_,rfl,d,vs,rfl,At.of hd6,fun dq hdq=>?_⟩
   have sq:∀ o,AF H6 (upd H6 dq o):=fun o=>AF.new hdq
   refine⟨x,g,dq,_,4,8,rfl,Aw.kp (Aw.kp xg5 (Kp.same s6)) (Kp.same (sq _)),fog,AC,(by rw[ec,List.length_drop];omega),fun y H8 hy s8=>?_⟩
   have s68:=(sq (.lst (FS vs (some (((vs.length:Nat):Int)-((ps.length:Nat):Int))) none))).trans s8
   have hy8:Aw H8 (.ref y) (Qf g ts'):=UJ hy (Aw.kp xg5 (Kp.same (s6.trans s68))) (Ay.kp shd (Kp.same s68))
   refine⟨_,rfl,_,rfl,_,rfl,d,vs,rfl,At.of (s68 _ _ hd6),fun de hde=>?_⟩
   have se:∀ o,AF H8 (upd H8 de o):=fun o=>AF.new hde
   have hlt:(FS vs none (some (((vs.length:Nat):Int)-((ps.length:Nat):Int)))).length≤vs.length:=Ep _ _ _
   refine⟨_,rfl,.inl ⟨rfl,_,At.of AC⟩,_,rfl,de,_,.ref y,rfl,rfl,AC,Tq (by omega),?_⟩
   have s05:=(s5.trans s6).trans s68
   have q9:Kp H8 (upd (upd H8 de (.lst (FS vs none (some (((vs.length:Nat):Int)-((ps.length:Nat):Int)))))) de (.lst (FS vs none (some (((vs.length:Nat):Int)-((ps.length:Nat):Int)))++[.ref y]))):=(Kp.same (se _)).trans (Kp.lst AC KeepX.upd)
   refine⟨de,_,_,_,_,rfl,AF.back0 s05 hde,AC,?_,fun b o e=>?_⟩
   ·have e1:(r.take (i+1)).foldl GK []=st'++[Qf g ts']:=by
     rw[List.take_add_one,hg,List.foldl_append,est]
     exact Ip lts
    rw[e1]
    exact HY (Ay.kp (Ay.kp sht (Kp.same s68)) q9) (.cons (hy8.kp q9) .nil)
   ·rw[AR (AX (s05 _ _ e) hde)]
    exact se _ _ _ (s05 _ _ e)
  ·rintro σ H5 ⟨d,vs,x3,x4,x5,rfl,hd,hd5,sh5,s5⟩
   rw[hwl,List.take_length,sw.fold,List.nil_append]at sh5
   cases sh5 with
   | cons h5 t5=>
    cases t5
    exact⟨_,rfl,d,_,_,_,rfl,rfl,At.of hd5,rfl,k _ _ h5 s5⟩
theorem Dl:AW ["self","formula","row"] ["self","formula"] (AI CW):=A4
theorem F7 (T:Txt w K mg t)(N:Nat)(hN:N≤60):Ao P w K mg base Bc (4*N+9) t.c9 t.da ["self","formula"] (Vt P w t.du N):=by
 have D:=T.fd
 refine D.fn.okX Dl ?_ (fun cdv A outer s H vs Q E hr h Z hZ=>?_)
 ·rintro _ _ _ _ ⟨u,d,r,v,B,sh,zs,f,rfl,_⟩
  rfl
 ·obtain⟨u,d,r,v,B,sh,zs,f,rfl,op,bo,hv,fo,hok,hcn,k⟩:=h
  refine hZ ⟨_,((AE (Ag (i:=2) Dl.nd rfl (Or.inl rfl) (Cd (AJ 0) T.hv T.ht (HB T N) (hr.mono (by omega)) T.fb.b .nil Dz (AA (AJ 1) (Av (Ah AB) AB))))
   (AG (AK (Ej (AV GZ (AJ 2) Co (AQ _)) (Ah (AH AS (AH AS AB))) (AZ T.fc (HC T) (hr.mono (by omega)) (AA (AJ 2) (AA (To T.d9.gl) AB)))))))),?_⟩
  try dsimp only[cx_K,cx_mg]
  obtain⟨t1,c,cs,hu0,h1,h2,pc⟩:=op.ob
  refine⟨_,rfl,u,d,_,rfl,hu0,rfl,_,rfl,Nat.zero_le _,fun wa hwa=>?_⟩
  have s1:=AF.new (o:=.tup []) hwa
  refine⟨u,d,r,wa,v,B,sh,zs,[],[],f,0,[],rfl,op.same s1,bo,hv.kp (Kp.same s1),fo,(by decide),AC,.nil,(by simpa using hN),hok,(by simpa using hcn),fun x kvs' H2 op2 rv2 k2 nw2=>?_⟩
  have k02:KeepX r H H2:=(AF.keep s1).trans k2
  rcases rv2 with⟨sz,rr,l,ws,rfl,hl,fm,sw,ro⟩ | ⟨sz,rfl⟩
  ·refine⟨_,rfl,rfl,false,rfl,AO ?_⟩
   have lw:ws.length≤200:=by
    rw[Paired.length fm,sw.len,BQ,BQ];omega
   refine⟨_,rfl,l,rr,_,ws,rfl,hl,fm,sw,fun g hg=>(ro g hg).1,lw,fun x H3 hx s3=>k x H3 ?_ (k02.trans (AF.keep s3))⟩
   unfold Vs
   rw[if_pos sz]
   exact hx
  ·refine⟨_,rfl,rfl,true,rfl,AL ⟨A3,fun p hp=>?_⟩⟩
   refine k _ _ ?_ (k02.trans (AF.keep (AF.new hp)))
   unfold Vs
   rw[if_neg (by omega)]
   exact .lf (show upd H2 p _ p=_ from AC)
theorem Ox:AW ["book","sheet","formula"] ["book","sheet","formula"] (AI Gy):=A4
theorem M7 (T:Txt w K mg t)(N:Nat)(hN:N≤60):Ao P w K mg base Bc (4*N+10) t.db t.dc ["book","sheet","formula"] (WC N):=by
 have D:=T.fe
 refine D.fn.okX Ox ?_ (fun cdv A outer s H vs Q E hr h Z hZ=>?_)
 ·rintro _ _ _ _ ⟨b,v,sh,zs,ns,os,f,rfl,_⟩
  rfl
 ·obtain⟨b,v,sh,zs,ns,os,f,rfl,bk,dis,bo,hv,fo,hok,hcn,k⟩:=h
  refine hZ ⟨_,((AG (AK (Cd (RR T.hw (F6 T) (hr.mono (by omega)) (by rfl) T.f3 T.e5.b .nil Dz (AA (AJ 0) (AA (AJ 1) AB))) T.hv T.hu (F7 T N hN) (hr.mono (by omega)) T.fd.b .nil Dz (AA (AJ 2) AB))))),?_⟩
  try dsimp only[cx_K,cx_mg]
  have new:∀(x dx:Addr) (o1 o2:HO),H x=none→H dx=none→AF H (upd (upd H dx o1) x o2):=fun x dx o1 o2 hx hdx b o e=>by
   rw[AR (AX e hx),AR (AX e hdx)];exact e
  refine⟨_,rfl,_,rfl,fun x dx hx0 hdx ndx=>⟨x,dx,b,sh,zs,ns,os,rfl,AC,bk.kp (Kp.same (new x dx _ _ hx0 hdx)),dis,fun H1 r r0 op k1=>⟨rfl,?_⟩⟩⟩
  have s1:AF H H1:=fun b o e=>k1 _ _ (AX e hx0) (new x dx _ _ hx0 hdx _ _ e)
  have r00:H r=none:=AF.back0 (new x dx _ _ hx0 hdx) r0
  obtain⟨t1,c,cs,hu0,h1,h2,pc⟩:=op.ob
  exact⟨x,dx,_,rfl,hu0,rfl,_,rfl,x,dx,r,v,_,sh,zs,f,rfl,op,bo,hv.kp (Kp.same s1),fo,hok,hcn,fun y H2 hy k2=>k y H2 hy fun b o e=>k2 b o (AX e r00) (s1 _ _ e)⟩
theorem M8:AW ["_law_script"] ["_law_script"] (AI F1):=A4
theorem L0 (T:Txt w K mg t):Ao P w K mg base Bc 1 t.dd t.de ["_law_script"] (VX K):=by
 have D:=T.ff
 refine D.fn.okX M8 ?_ (fun cdv A outer s H vs Q E hr h Z hZ=>?_)
 ·rintro _ _ _ _ ⟨a,ns,rfl,_⟩
  rfl
 ·obtain⟨a,ns,rfl,hS,h63,k⟩:=h
  refine hZ ⟨_,((AG (AK (Bo (AA (AJ 0) (AH AD (AH AD AB))))))),?_⟩
  try dsimp only[cx_K,cx_mg]
  exact⟨_,rfl,BV,fun p hp=>k p _ hp ⟨0,0,AC,(AF.new hp).seq hS,by decide,by decide,h63⟩ (AF.new hp)⟩
theorem BE:AW ["_law_pen_here","_law_many","_law_script","_law_count","_law_rest","_law_cell","_law_number"] ["_law_pen_here","_law_many"] (AI FC):=A4
theorem By (T:Txt w K mg t):Ao P w K mg base Bc 1 t.df t.dg ["_law_pen_here","_law_many"] (VY K):=by
 have D:=T.fg
 refine D.fn.okX BE ?_ (fun cdv A outer s H vs Q E hr h Z hZ=>?_)
 ·rintro _ _ _ _ ⟨p,m,n,S,rfl,_⟩
  rfl
 ·obtain⟨p,m,n,S,rfl,hm,hz,hpen,hn,k⟩:=h
  refine hZ ⟨_,((AE (Jy (AJ 0) (TF rfl (Ek (Bg (i:=2) BE.nd rfl (Or.inl rfl)) (Ek (Bg (i:=3) BE.nd rfl (Or.inl rfl)) (Ek (Bg (i:=4) BE.nd rfl (Or.inl rfl)) NA)))))
   (AE (Jy (Ar Bk (AJ 3) AD) (L4 (AJ 0) AD IP))
   (AE (Ak (Be (AV Aq (AN Ab (by rfl) T.fn PySem.boot_len (AA (AJ 2) AB)) AD (AQ _)) (Bf (AV Aq (Ar Dr (AU Ce (AJ 2) AD (fun _ _=>rfl)) AD) AD (AQ _)))).pt (AE (Ag (i:=5) BE.nd rfl (Or.inl rfl) AD)
   (AE (Ak (AV K0 (AN Ab (by rfl) T.fn PySem.boot_len (AA (AJ 2) AB)) AD (AQ _)) (AG (Ag (i:=5) BE.nd rfl (Or.inl rfl) (AU Ce (AJ 2) (Ar Dr (Ar Bk (Ar FN (AJ 3) AD) AD) (AN Ab (by rfl) T.fn PySem.boot_len (AA (AJ 2) AB))) (fun _ _=>rfl)))) AY)
   (AE (Ag (i:=6) BE.nd rfl (Or.inl rfl) (Ar Dr (Ar Bk (Ar Bk (Ar Dr (AJ 5) AD) (Ar FN AD (AJ 3))) AD) AD))
   (AE (Ag (i:=6) BE.nd rfl (Or.inl rfl) (Ar Dr (Ar FN (AJ 6) (Ar Bk (AJ 6) AD)) AD))
   (AE (Ag (i:=6) BE.nd rfl (Or.inl rfl) (Ar Dr (Ar FN (AJ 6) (Ar Bk (AJ 6) AD)) AD))
   (AG (AK (Ar Dr (Ar Hn (AJ 6) AD) (AJ 1))))))))) AY)
   (AE (Ak (AV Aq (Ar Dr (AJ 3) AD) AD (AQ _)) (AE (Ag (i:=4) BE.nd rfl (Or.inl rfl) AD)
   (AG (Ak (AV O4 (Ar Bk AD (Ar Hn (AJ 3) AD)) (AN Ab (by rfl) T.fn PySem.boot_len (AA (AJ 2) AB)) (AQ _)) (AG (Ag (i:=4) BE.nd rfl (Or.inl rfl) (AU Ce (AJ 2) (Ar Bk AD (Ar Hn (AJ 3) AD)) (fun _ _=>rfl)))) AY))) AY)
   (AE (Jy (Ar PM (AJ 4) (AJ 1)) (L4 (AJ 0) AD IP))
   (AG (AK (Ar Dr (AJ 4) (AJ 1)))))))))),?_⟩
  try dsimp only[cx_K,cx_mg]
  obtain⟨a,ns⟩:=S
  obtain⟨c,r,hp,hS,hc0,hc1,h63⟩:=hpen
  dsimp only at hp hS h63
  refine⟨_,rfl,p,_,rfl,At.of hp,rfl,_,_,rfl,_,_,rfl,_,_,rfl,rfl,?_⟩
  refine⟨_,rfl,_,_,rfl,rfl,_,rfl,p,_,_,1,rfl,rfl,hp,rfl,?_⟩
  have hS1:∀{o},At K (upd H p o) a (ns.map V.int):=fun {o}=>At.kl hS hp KeepX.upd
  have fin:∀(r' x:Int) (H2:Hp),0≤x→x<m→H2 p=some (.lst [.ref a,.int (c+1),.int r'])→KeepX p H H2→Q (.int x) H2:=fun r' x H2 x0 x1 h2 kp=>
   k x H2 x0 x1 ⟨c+1,r',h2,At.kl hS hp kp,by omega,by omega,h63⟩ kp
  have hlen:(ns.map V.int).length=ns.length:=List.length_map _
  have l0:V.bl (decide (V.int ((ns.map V.int).length:Int)=V.int 0))=V.bl (decide (ns.length=0)):=by
   congr 1
   by_cases z:ns.length=0
   ·rw[decide_eq_true z];exact decide_eq_true (by rw[hlen,z];rfl)
   ·rw[decide_eq_false z];exact decide_eq_false fun e=>z (by injection e with e;omega)
  refine⟨_,rfl,a,_,rfl,.inl hS1,rfl,_,l0,J6 (fun c1=>AL ?_) (fun c1=>?_)⟩
  ·refine⟨_,rfl,a,_,rfl,.inl hS1,_,_,rfl,rfl,false,?_,AO ?_⟩
   ·have z:=of_decide_eq_true c1
    exact congrArg V.bl (decide_eq_false (by rw[hlen,z];decide))
   have n1:=Int.emod_nonneg (5) (show(2147483629:Int)≠0 by decide)
   have n2:=Int.emod_lt_of_pos (5) (show(0:Int)<2147483629 by decide)
   refine⟨_,rfl,_,_,rfl,rfl,(by show(0:Int)<_;decide),_,rfl,_,_,rfl,rfl,⟨BK (by decide) (by decide),BK (by omega) (by omega)⟩,_,_,rfl,rfl,_,_,rfl,rfl,_,_,rfl,rfl,(by show(0:Int)<_;decide),?_⟩
   have m1:=Int.emod_nonneg ((5)%2147483629+69621*c+17) (show(2147483647:Int)≠0 by decide)
   have m2:=Int.emod_lt_of_pos ((5)%2147483629+69621*c+17) (show(0:Int)<2147483647 by decide)
   generalize ((5)%2147483629+69621*c+17)%2147483647=x at m1 m2 ⊢
   refine⟨_,rfl,_,rfl,_,_,rfl,rfl,_,_,rfl,rfl,⟨BK (by omega) (by omega),BK (by omega) (by omega)⟩,_,_,rfl,rfl,(by show(0:Int)<_;decide),?_⟩
   have q1:=Int.emod_nonneg (x*(x+40503)) (show(2147483629:Int)≠0 by decide)
   have q2:=Int.emod_lt_of_pos (x*(x+40503)) (show(0:Int)<2147483629 by decide)
   generalize (x*(x+40503))%2147483629=w' at q1 q2 ⊢
   refine⟨_,rfl,_,rfl,_,_,rfl,rfl,_,_,rfl,rfl,⟨BK (by omega) (by omega),BK (by omega) (by omega)⟩,_,_,rfl,rfl,(by show(0:Int)<_;decide),?_⟩
   refine⟨_,rfl,_,_,rfl,rfl,⟨by decide,by decide⟩,_,rfl,_,_,rfl,rfl,hm,?_⟩
   exact fin r _ _ (Int.emod_nonneg _ (by omega)) (Int.emod_lt_of_pos _ hm) AC KeepX.upd
  ·have hl:0<ns.length:=by
    have:¬ ns.length=0:=fun z=>c1 (decide_eq_true z)
    omega
   obtain⟨v0,hv0⟩:=Ia (ns:=ns) (r:=0) (by decide) (by omega)
   refine⟨_,rfl,a,_,_,_,rfl,rfl,hS1,hv0,_,_,rfl,rfl,(by show(0:Int)<_;decide),rfl,_,rfl,J6 (fun c2=>?_) (fun c2=>?_)⟩
   ·obtain⟨v,hv⟩:=Ia (ns:=ns) (Int.emod_nonneg (c*3+1) (show(ns.length:Int)≠0 by omega)) (Int.emod_lt_of_pos (c*3+1) (show(0:Int)<ns.length by omega))
    refine⟨_,rfl,a,_,rfl,.inl hS1,_,_,rfl,rfl,true,congrArg V.bl (decide_eq_true (by rw[hlen];omega)),AL ?_⟩
    refine⟨_,rfl,_,rfl,_,_,rfl,rfl,⟨BK (by omega) (by omega),BK (by decide) (by decide)⟩,_,_,rfl,rfl,_,rfl,a,_,rfl,.inl hS1,_,_,rfl,rfl,(by rw[hlen];omega),a,_,_,_,rfl,rfl,hS1,(by rw[hlen];exact hv),?_⟩
    have n1:=Int.emod_nonneg (v) (show(2147483629:Int)≠0 by decide)
    have n2:=Int.emod_lt_of_pos (v) (show(0:Int)<2147483629 by decide)
    refine⟨_,rfl,_,_,rfl,rfl,(by show(0:Int)<_;decide),_,rfl,_,_,rfl,rfl,⟨BK (by decide) (by decide),BK (by omega) (by omega)⟩,_,_,rfl,rfl,_,_,rfl,rfl,_,_,rfl,rfl,(by show(0:Int)<_;decide),?_⟩
    have m1:=Int.emod_nonneg ((v)%2147483629+69621*c+17) (show(2147483647:Int)≠0 by decide)
    have m2:=Int.emod_lt_of_pos ((v)%2147483629+69621*c+17) (show(0:Int)<2147483647 by decide)
    generalize ((v)%2147483629+69621*c+17)%2147483647=x at m1 m2 ⊢
    refine⟨_,rfl,_,rfl,_,_,rfl,rfl,_,_,rfl,rfl,⟨BK (by omega) (by omega),BK (by omega) (by omega)⟩,_,_,rfl,rfl,(by show(0:Int)<_;decide),?_⟩
    have q1:=Int.emod_nonneg (x*(x+40503)) (show(2147483629:Int)≠0 by decide)
    have q2:=Int.emod_lt_of_pos (x*(x+40503)) (show(0:Int)<2147483629 by decide)
    generalize (x*(x+40503))%2147483629=w' at q1 q2 ⊢
    refine⟨_,rfl,_,rfl,_,_,rfl,rfl,_,_,rfl,rfl,⟨BK (by omega) (by omega),BK (by omega) (by omega)⟩,_,_,rfl,rfl,(by show(0:Int)<_;decide),?_⟩
    refine⟨_,rfl,_,_,rfl,rfl,⟨by decide,by decide⟩,_,rfl,_,_,rfl,rfl,hm,?_⟩
    exact fin r _ _ (Int.emod_nonneg _ (by omega)) (Int.emod_lt_of_pos _ hm) AC KeepX.upd
   ·refine⟨_,rfl,_,_,rfl,rfl,(by show(0:Int)<_;decide),rfl,_,rfl,J6 (fun c3=>?_) (fun c3=>?_)⟩
    ·refine⟨_,rfl,_,_,rfl,rfl,⟨by decide,by decide⟩,_,_,rfl,rfl,_,rfl,a,_,rfl,.inl hS1,_,_,rfl,rfl,_,rfl,J6 (fun c4=>?_) (fun c4=>?_)⟩
     ·have c4':=of_decide_eq_true c4
      rw[hlen]at c4'
      obtain⟨v,hv⟩:=Ia (ns:=ns) (show 0≤1+c / 40 by omega) c4'
      refine⟨_,rfl,_,rfl,_,_,rfl,rfl,⟨by decide,by decide⟩,_,_,rfl,rfl,a,_,_,_,rfl,rfl,hS1,hv,?_⟩
      refine⟨_,rfl,_,rfl,_,_,rfl,rfl,⟨by omega,hz⟩,_,rfl,p,_,_,2,rfl,rfl,AC,rfl,?_⟩
      refine⟨_,rfl,_,rfl,_,_,rfl,rfl,hm,?_⟩
      exact fin _ _ _ (Int.emod_nonneg _ (by omega)) (Int.emod_lt_of_pos _ hm) AC (KeepX.trans KeepX.upd KeepX.upd)
     ·skip
      refine⟨_,rfl,_,rfl,_,_,rfl,rfl,⟨by omega,hz⟩,_,rfl,p,_,_,2,rfl,rfl,AC,rfl,?_⟩
      refine⟨_,rfl,_,rfl,_,_,rfl,rfl,hm,?_⟩
      exact fin _ _ _ (Int.emod_nonneg _ (by omega)) (Int.emod_lt_of_pos _ hm) AC (KeepX.trans KeepX.upd KeepX.upd)
    ·skip
     refine⟨_,rfl,_,rfl,_,_,rfl,rfl,⟨by omega,hz⟩,_,rfl,p,_,_,2,rfl,rfl,AC,rfl,?_⟩
     refine⟨_,rfl,_,rfl,_,_,rfl,rfl,hm,?_⟩
     exact fin _ _ _ (Int.emod_nonneg _ (by omega)) (Int.emod_lt_of_pos _ hm) AC (KeepX.trans KeepX.upd KeepX.upd)
theorem HS:AW ["_law_many","_law_lost","_law_first"] ["_law_many","_law_lost"] (AI FD):=A4
theorem GV (T:Txt w K mg t):∀ m:Nat,Ao P w K mg base Bc (m+1) t.dh t.di ["_law_many","_law_lost"] (WH m):=by
 have D:=T.fh
 intro m
 induction m with
 | zero=>exact⟨fun _ _ _ _ h=>(by obtain⟨_,_,_,_,_,h1,h2,_⟩:=h;omega),fun _ _ _ _ _ _ _ _ _ _ _ _ _ h=>(by obtain⟨_,_,_,_,_,h1,h2,_⟩:=h;omega)⟩
 | succ m ih=>
  refine D.fn.okX HS ?_ (fun cdv A outer s H vs Q E hr h Z hZ=>?_)
  ·rintro _ _ _ _ ⟨i,n,b,rfl,_⟩
   rfl
  ·obtain⟨i,n,b,rfl,rfl,h1,h2,k⟩:=h
   refine hZ ⟨_,((AE (Ak (AV Aq (AJ 0) AD (AQ _)) (AG (AK (Ah (AH AS (AT (AU Ce (Bo (AH AS (AH AS AB))) (Bu Lp (by rfl) T.fq LT (AA (AJ 1) AB)) (fun _ _=>rfl)) (Av (Ah (AH AD (AH AD (AH BJ (AH BJ AB))))) AB)))))) AY)
   (AE (Ak (AV Aq (AJ 0) AD (AQ _)) (AG (AK (Ah (AH AS (BD (AZ T.fh ih (hr.mono (by omega)) (AH AD (AA (AJ 1) AB))) AB))))) AY)
   (AE (Ag (i:=2) HS.nd rfl (Or.inl rfl) (Ar Hn (Ar IH (AJ 0) AD) AD))
   (AG (AK (Ah (AH AS (AH AS (BD (AZ T.fh ih (hr.mono (by omega)) (AA (AJ 2) (AA (AJ 1) AB))) (BD (AZ T.fh ih (hr.mono (by omega)) (CL (Ar IH (Ar IH (AJ 0) AD) (AJ 2)) (PQ (Oz (AJ 1)) AB))) AB))))))))))),?_⟩
   try dsimp only[cx_K,cx_mg]
   refine⟨_,rfl,rfl,_,rfl,J6 (fun c1=>?_) (fun c1=>?_)⟩
   ·have e:V.int (n:Int)=V.int 1:=of_decide_eq_true c1
    injection e with e
    obtain rfl:n=1:=by omega
    refine⟨A3,fun l hl=>⟨_,rfl,b,rfl,l,_,_,_,rfl,rfl,At.of AC,(show K4 [vS "main",vS "lost"] (if b then 1 else 0)=some (.str (if b=true then zS "lost" else zS "main"))by cases b <;> rfl),(by show 4≤sizeLine;decide),fun q hq=>⟨BV,fun p hp=>?_⟩⟩⟩
    have s1:=AF.new (o:=.lst [vS "main",vS "lost"]) hl
    have s2:=AF.new (o:=.tup [.int 1,.int 1,.bl false,.bl false]) hq
    have s3:=AF.new (o:=.tup [vS "cell",.str (if b=true then zS "lost" else zS "main"),.ref q]) hp
    exact k (.ref p) _ (by rw[Mo];exact .lf ⟨q,AC,s3 _ _ AC⟩) ((s1.trans s2).trans s3)
   refine⟨_,rfl,rfl,_,rfl,J6 (fun c2=>?_) (fun c2=>?_)⟩
   ·have e:V.int (n:Int)=V.int 2:=of_decide_eq_true c2
    injection e with e
    obtain rfl:n=2:=by omega
    have hm:1<2 ^ m:=by rw[Nat.pow_succ]at h2;omega
    refine⟨_,rfl,_,1,b,rfl,rfl,(by decide),hm,fun v1 H1 f1 s1=>⟨A3,fun q hq=>?_⟩⟩
    have s2:=AF.new (o:=.tup [vS "neg",v1]) hq
    refine k (.ref q) _ ?_ (s1.trans s2)
    rw[Mp]
    exact .nd (t:=0) (us:=[v1]) AC (fun z=>by cases z) rfl (fun j u f e1 e2=>by
     match j with
     | 0=>cases e1;cases e2;exact f1.kp (Kp.same s2)
     | j+1=>cases e1)
   have n1:n≠1:=fun z=>c1 (decide_eq_true (by rw[z];rfl))
   have n2:n≠2:=fun z=>c2 (decide_eq_true (by rw[z];rfl))
   have hp:n<2 ^ m*2:=by rw[← Nat.pow_succ];exact h2
   refine⟨_,rfl,_,_,rfl,rfl,_,_,rfl,rfl,⟨by decide,by decide⟩,?_⟩
   refine⟨_,rfl,_,rfl,_,(n-1) / 2,b,rfl,(by omega),(by omega),(by omega),fun v1 H1 f1 s1=>?_⟩
   refine⟨_,rfl,_,_,rfl,rfl,_,rfl,_,_,rfl,rfl,_,rfl,b,rfl,_,n-1-(n-1) / 2,!b,rfl,(by omega),(by omega),(by omega),fun v2 H2 f2 s2=>?_⟩
   refine⟨(by show 4≤sizeLine;decide),fun q hq=>?_⟩
   have s3:=AF.new (o:=.tup [vS "op",vS "+",v1,v2]) hq
   refine k (.ref q) _ ?_ ((s1.trans s2).trans s3)
   rw[Mq n1 n2]
   exact .nd (t:=0) (us:=[v1,v2]) AC (fun z=>by cases z) rfl (fun j u f e1 e2=>by
    match j with
    | 0=>cases e1;cases e2;exact f1.kp (Kp.same (s2.trans s3))
    | 1=>cases e1;cases e2;exact f2.kp (Kp.same s3)
    | j+2=>cases e1)
theorem JF:AW ["_law_tree_here"] ["_law_tree_here"] (AI DV):=A4
theorem Hl (T:Txt w K mg t):∀ n:Nat,Ao P w K mg base Bc (3*n+3) t.dj t.dk ["_law_tree_here"] (WI n):=by
 have D:=T.fi
 intro m
 induction m with
 | zero=>exact⟨fun _ _ _ _ h=>(by obtain⟨_,_,_,_,o,_⟩:=h;cases o),fun _ _ _ _ _ _ _ _ _ _ _ _ _ h=>(by obtain⟨_,_,_,_,o,_⟩:=h;cases o)⟩
 | succ m ih=>
  refine D.fn.okX JF ?_ (fun cdv A outer s H vs Q E hr h Z hZ=>?_)
  ·rintro _ _ _ _ ⟨v,Tt,rfl,_⟩
   rfl
  ·obtain⟨v,Tt,rfl,hv,of,k⟩:=h
   have hu:=hr.units0
   refine hZ ⟨_,((AE (Ak (AV FM (AU AM (AJ 0) AD (fun _ _=>rfl)) (Ah (AH AS (AH AS (AH AS (AH AS AB))))) rfl) (AG (AK AD)) AY)
   (AG (AK (Ar Bk AD (AN (Ph rfl) (by rfl) T.f2 TU (CM (B7 (fv:=[]) (js:=[]) (cl:=[]) rfl (by with_unfolding_all rfl) ⟨rfl,by nofun,by nofun,rfl,by nofun,by nofun,(List.forall_mem_nil _),(List.forall_mem_nil _),.nil⟩ (IG (AJ 0)) (fun _ _ _ _ _=>(PN (Az (AN (KI (K:=K) rfl) (by rfl) T.fp Aa (AA (AJ 0) (AA (BN T.ft A0) AB)))))) (fun _ _ _ _ _=>(AZ T.fi ih (hr.mono (by omega)) (AA (AJ 0) AB)))) AB))))))),?_⟩
   try dsimp only[cx_K,cx_mg]
   cases hv with
   | @lf a l hl=>
    cases of with
    | lf h=>
    obtain⟨w0,r,ha,hin⟩:=UQ h hl
    refine⟨_,rfl,a,_,_,_,rfl,rfl,Ae.of ha,Ac,(by show 4≤sizeLine;decide),fun t4 ht4=>⟨t4,Os,rfl,.inr (Ae.of AC),rfl,rfl,true,congrArg V.bl hin,AL ?_⟩⟩
    have:=k _ (AF.new (o:=.tup Os) ht4)
    rw[BW]at this
    exact this
   | @nd a t0 kd us ps ha ht hl hh=>
    cases of with
    | nd ok ho hp=>
    have fm:=Aw.parts hl hh
    obtain⟨r,er2,hit,hfil,hlen⟩:=LY (t:=t0) (H:=H) (by rw[hl];exact ok) ho (fun u hu=>by
     obtain⟨j,hj,e⟩:=List.mem_iff_getElem.mp hu
     have e1:us[j]?=some u:=by rw[List.getElem?_eq_getElem hj,e]
     obtain⟨g,_,x⟩:=Au fm e1
     exact x.tup)
    have ha2:H a=some (.tup (.str (kw kd)::r)):=by rw[ha,er2]
    generalize hxs:(V.str (kw kd)::r)=xs at ha2
    have hxf:xs.filter BX=us:=by rw[← hxs,List.filter_cons_of_neg (by show ¬ (false=true);decide)];exact hfil
    have hxl:xs.length≤6:=by rw[← hxs,List.length_cons];omega
    have hxi:∀ x∈xs,QH H x:=fun x hx=>by
     rw[← hxs]at hx
     rcases List.mem_cons.mp hx with e | hx
     ·exact .inr (.inl ⟨_,e⟩)
     ·exact hit x hx
    refine⟨_,rfl,a,_,_,_,rfl,rfl,Ae.of ha2,(by rw[← hxs];exact Ac),(by show 4≤sizeLine;decide),fun t4 ht4=>⟨t4,Os,rfl,.inr (Ae.of AC),rfl,rfl,false,congrArg V.bl (WM ok),AO ?_⟩⟩
    have s1:=AF.new (o:=.tup Os) ht4
    generalize upd H t4 (.tup Os)=H1 at *
    refine⟨_,rfl,a,rfl,⟨_,Ae.of (s1 _ _ ha2)⟩,fun D hD=>?_⟩
    refine⟨fun i q H4=>q=xs.length-i∧i≤xs.length∧H4 D=some (.lst (((ps.take ((xs.take i).filter BX).length).map fun f=>((BW f:Nat):Int)).map V.int))∧AF H1 H4,⟨xs.length,rfl,Nat.zero_le _,by rw[AC];rfl,AF.new hD⟩,?_⟩
    rintro i q H4 ⟨rfl,hi,o4,s4⟩
    by_cases hlt:i<xs.length
    ·refine .inr ⟨⟨xs,xs[i],Ae.of (s4 _ _ (s1 _ _ ha2)),List.getElem?_eq_getElem hlt⟩,fun x H' y=>?_⟩
     obtain⟨e,y⟩:=y
     subst e
     have hx:=y xs (Ae.of (s4 _ _ (s1 _ _ ha2)))
     have hm:x∈xs:=List.mem_of_getElem? hx
     have et:(xs.take (i+1)).filter BX=(xs.take i).filter BX++[x].filter BX:=by
      rw[List.take_add_one,hx,List.filter_append];rfl
     have l6:((ps.take ((xs.take i).filter BX).length).map fun f=>((BW f:Nat):Int)).length≤6:=by
      rw[List.length_map,List.length_take]
      have:=List.length_filter_le BX (xs.take i)
      rw[List.length_take]at this
      omega
     rcases hxi x hm with⟨b,ys,rfl,hb⟩ | ⟨z,rfl⟩ | ⟨j,rfl⟩
     ·have hb1:=s4 _ _ (s1 _ _ hb)
      refine⟨_,rfl,_,_,_,_,true,rfl,.tup hb1,rfl,(fun _=>.inr trivial),Mb _ _,true,rfl,AL ?_⟩
      have hus:us[((xs.take i).filter BX).length]?=some (.ref b):=by
       rw[← hxf]
       have:xs.filter BX=(xs.take i).filter BX++(V.ref b::(xs.drop (i+1)).filter BX):=by
        conv=>lhs;rw[← List.take_append_drop i xs,List.drop_eq_getElem_cons hlt]
        rw[List.filter_append,show xs[i]=.ref b from Option.some.inj ((List.getElem?_eq_getElem hlt).symm.trans hx),List.filter_cons_of_pos rfl]
       rw[this,List.getElem?_append_right (Nat.le_refl _),Nat.sub_self];rfl
      obtain⟨g,hg,xg⟩:=Au fm hus
      have s04:=s1.trans s4
      refine⟨_,rfl,_,g,rfl,xg.kp (Kp.same s04),hp g (List.mem_of_getElem? hg),fun H5 s5=>?_⟩
      refine⟨_,s5 _ _ o4,EG (by rw[List.length_map];omega),xs.length-(i+1),(by omega),rfl,hlt,?_,fun c o e=>?_⟩
      ·rw[AC,et,show [V.ref b].filter BX=[V.ref b]from rfl,List.length_append,List.length_singleton,List.take_add_one,hg,List.map_append,List.map_append]
       rfl
      ·rw[AR (AX e hD)];exact s5 _ _ (s4 _ _ e)
     ·refine⟨_,rfl,_,_,_,_,false,rfl,.str _,rfl,(fun _=>.inr trivial),T.hk,false,rfl,AO ?_⟩
      refine⟨xs.length-(i+1),(by omega),rfl,hlt,?_,s4⟩
      rw[et,show [V.str z].filter BX=[]from rfl,List.append_nil];exact o4
     ·refine⟨_,rfl,_,_,_,_,false,rfl,.int _,rfl,(fun _=>.inr trivial),T.hl,false,rfl,AO ?_⟩
      refine⟨xs.length-(i+1),(by omega),rfl,hlt,?_,s4⟩
      rw[et,show [V.int j].filter BX=[]from rfl,List.append_nil];exact o4
    have ei:i=xs.length:=by omega
    subst ei
    refine .inl ⟨⟨xs,Ae.of (s4 _ _ (s1 _ _ ha2)),Nat.le_refl _⟩,?_⟩
    rw[List.take_length,hxf,hl,List.take_length]at o4
    refine⟨D,_,rfl,At.of o4,_,_,rfl,rfl,?_⟩
    rw[Ny]
    have:=k _ (s1.trans s4)
    rw[BW]at this
    refine IY ?_ this
    congr 1
theorem Cg:AW ["_law_ways","_law_formula","_law_times"] ["_law_ways"] (AI Dw):=A4
theorem JG (T:Txt w K mg t):Ao P w K mg base Bc 1 t.dl t.dm ["_law_ways"] WJ:=by
 have D:=T.fj
 refine D.fn.okX Cg ?_ (fun cdv A outer s H vs Q E hr h Z hZ=>?_)
 ·rintro _ _ _ _ ⟨a,ts,rfl,_⟩
  rfl
 ·obtain⟨a,ts,rfl,ha,h3,h5,k⟩:=h
  refine hZ ⟨_,((AE (Ag (i:=1) Cg.nd rfl (Or.inl rfl) (Ah (AH AS (AH AS AB))))
   (AE (EL PassesOwn.never rfl (Bt (AJ 0)) (Bg (i:=2) Cg.nd rfl (Or.inl rfl))
   (AG (Ag (i:=1) Cg.nd rfl (Or.inl rfl) (Ah (AH AS (AT (AU Ce (Bo (AH AS (AH AS (AH AS (AH AS AB))))) (AJ 2) (fun _ _=>rfl)) (Av (Ah (AA (AJ 1) AB)) AB)))))))
   (AG (AK (AJ 1)))))),?_⟩
  try dsimp only[cx_K,cx_mg]
  have lt:(ts.map fun(t:Nat)=>V.int t).length=ts.length:=List.length_map ..
  refine⟨A3,fun p hp=>?_⟩
  have s1:=AF.new (o:=.tup [vS "name",vS "n"]) hp
  refine⟨_,rfl,a,rfl,⟨_,At.of (s1 _ _ ha)⟩,?_⟩
  refine El (xs:=ts.map fun(t:Nat)=>V.int t) (fun i σ H5=>∃(v:V) (x2:Option V),σ=[some (.ref a),some v,x2]∧Aw H5 v (Hb (ts.take i).reverse)∧AF H H5) ⟨_,_,rfl,.lf (show upd H p _ p=_ from AC),s1⟩ ?_ ?_ ?_
  ·rintro i σ H5 _ ⟨v,x2,rfl,fv,s5⟩
   exact At.of (s5 _ _ ha)
  ·rintro i x σ H5 hx ⟨v,x2,rfl,fv,s5⟩
   rw[List.getElem?_map]at hx
   cases ht:ts[i]? with
   | none=>rw[ht]at hx;cases hx
   | some tt=>
    rw[ht]at hx
    cases hx
    have t3:=h3 tt (List.mem_of_getElem? ht)
    refine⟨(by show 4≤sizeLine;decide),fun l hl=>⟨_,rfl,l,_,_,_,rfl,rfl,At.of AC,(show K4 [vS "zero",vS "one",vS "two",vS "three"] (tt:Int)=some (.str (Mr tt))by
     have:tt=0∨tt=1∨tt=2∨tt=3:=by omega
     rcases this with rfl | rfl | rfl | rfl <;> rfl),_,rfl,Ey,fun q hq=>⟨BV,fun p2 hp2=>?_⟩⟩⟩
    have s6:=AF.new (o:=.lst [vS "zero",vS "one",vS "two",vS "three"]) hl
    have s7:=AF.new (o:=.tup [v]) hq
    have s8:=AF.new (o:=.tup [vS "own",.str (Mr tt),.ref q]) hp2
    refine⟨_,_,rfl,?_,s5.trans ((s6.trans s7).trans s8)⟩
    rw[List.take_add_one,ht,List.reverse_append]
    exact .nd (t:=q) (k:=.own (Mr tt)) (us:=[v]) AC (fun _=>s8 _ _ AC) rfl (fun j u f e1 e2=>by
     match j with
     | 0=>cases e1;cases e2;exact fv.kp (Kp.same ((s6.trans s7).trans s8))
     | j+1=>cases e1)
  ·rintro σ H5 ⟨v,x2,rfl,fv,s5⟩
   rw[lt,List.take_length]at fv
   exact⟨_,rfl,k _ _ fv s5⟩
theorem Dm:AW ["_law_ways","_law_own","_law_many","_law_times"] ["_law_ways","_law_own"] (AI FE):=A4
theorem Kn (T:Txt w K mg t):Ao P w K mg base Bc 1 t.dn t.dp ["_law_ways","_law_own"] WK:=by
 have D:=T.fk
 refine D.fn.okX Dm ?_ (fun cdv A outer s H vs Q E hr h Z hZ=>?_)
 ·rintro _ _ _ _ ⟨a,ts,o,rfl,_⟩
  rfl
 ·obtain⟨a,ts,o,rfl,ha,h3,h5,h24,k⟩:=h
  refine hZ ⟨_,((AE (Ag (i:=2) Dm.nd rfl (Or.inl rfl) (AJ 1))
   (AE (EL PassesOwn.never rfl (Bt (AJ 0)) (Bg (i:=3) Dm.nd rfl (Or.inl rfl))
   (AG (Ag (i:=2) Dm.nd rfl (Or.inl rfl) (AU Ce (Bo (AH AD (AA (AJ 2) (CL (Ar Bk (Ar FN AD (AJ 2)) AD) (CL (Ar Bk (Ar FN AD (AJ 2)) AD) AB))))) (AJ 3) (fun _ _=>rfl)))))
   (AG (AK (AJ 2)))))),?_⟩
  try dsimp only[cx_K,cx_mg]
  have lt:(ts.map fun(t:Nat)=>V.int t).length=ts.length:=List.length_map ..
  refine⟨_,rfl,_,rfl,a,rfl,⟨_,At.of ha⟩,?_⟩
  refine El (xs:=ts.map fun(t:Nat)=>V.int t) (fun i σ H5=>∃(x3:Option V),i≤ts.length∧σ=[some (.ref a),some (.int o),some (.int (L3 o (ts.take i).reverse:Nat)),x3]∧AF H H5) ⟨_,Nat.zero_le _,rfl,AF.refl _⟩ ?_ ?_ ?_
  ·rintro i σ H5 _ ⟨x2,_,rfl,s5⟩
   exact At.of (s5 _ _ ha)
  ·rintro i x σ H5 hx ⟨x2,hi,rfl,s5⟩
   rw[List.getElem?_map]at hx
   cases ht:ts[i]? with
   | none=>rw[ht]at hx;cases hx
   | some tt=>
    rw[ht]at hx
    cases hx
    have t3:=h3 tt (List.mem_of_getElem? ht)
    have hi2:i<ts.length:=(List.getElem?_eq_some_iff.mp ht).1
    have hb:=Q8 h24 (ts:=(ts.take i).reverse) fun t h=>h3 t (List.mem_of_mem_take (List.mem_reverse.mp h))
    rw[List.length_reverse,List.length_take]at hb
    have h4:4 ^ min i ts.length≤4 ^ 5:=Nat.pow_le_pow_right (by decide) (by omega)
    have er:L3 o (ts.take (i+1)).reverse=f4 tt (L3 o (ts.take i).reverse):=by rw[List.take_add_one,ht,List.reverse_append];rfl
    generalize L3 o (ts.take i).reverse=mm at *
    have hz:Sz 4000 (mm:Int):=BK (by omega) (by omega)
    refine⟨_,rfl,_,rfl,_,_,rfl,rfl,⟨BK (by decide) (by decide),hz⟩,_,_,rfl,rfl,_,rfl,_,_,rfl,rfl,⟨BK (by decide) (by decide),hz⟩,_,_,rfl,rfl,(by show 4≤sizeLine;decide),fun l hl=>⟨_,rfl,l,_,_,_,rfl,rfl,At.of AC,(show K4 [V.int 1,.int mm,.int (2*mm+1),.int (3*mm+2)] (tt:Int)=some (.int (f4 tt mm:Nat))by
     have:tt=0∨tt=1∨tt=2∨tt=3:=by omega
     rcases this with rfl | rfl | rfl | rfl <;> rfl),?_⟩⟩
    exact⟨_,hi2,by rw[er];rfl,s5.trans (AF.new hl)⟩
  ·rintro σ H5 ⟨x2,_,rfl,s5⟩
   rw[lt,List.take_length]
   exact⟨_,rfl,k _ s5⟩
theorem GW:AW ["_law_book","_law_formula","_law_due","_law_found"] ["_law_book","_law_formula","_law_due"] (AI Eb):=A4
theorem Ch (T:Txt w K mg t):Ao P w K mg base Bc 95 t.dq t.dr ["_law_book","_law_formula","_law_due"] WL:=by
 have D:=T.fl
 refine D.fn.okX GW ?_ (fun cdv A outer s H vs Q E hr h Z hZ=>?_)
 ·rintro _ _ _ _ ⟨b,v,zs,ns,os,f,s0,i0,rfl,_⟩
  rfl
 ·obtain⟨b,v,zs,ns,os,f,s0,i0,rfl,rfl,bk,dis,bo,hv,fo,od,k⟩:=h
  have hu:=hr.units0
  have hu1:=K6 hr
  refine hZ ⟨_,((AE (Ag (i:=3) GW.nd rfl (Or.inl rfl) (AZ T.fe (M7 T 20 (by decide)) (hr.mono (by omega)) (AA (AJ 0) (AH AS (AA (AJ 1) AB)))))
   (AE (Ak (AV K0 (AJ 2) AD (AQ _)) (AG (AK (Al (TD hu) (AJ 3) (Ah (AH AS (AH AS AB))) (AQ _)))) AY)
   (AG (AK (An (AN Aj (by rfl) T.fp Aa (AA (AJ 3) (AA (BN T.ft A0) AB))) (An (Al Aq (AZ T.fi (Hl T 24) (hr.mono (by omega)) (AA (AJ 3) AB)) (AJ 2) (AQ _)) (As (Al (UM hu1) (AJ 3) (Ah (AH AS (AH AS AB))) (AQ _)))))))))),?_⟩
  try dsimp only[cx_K,cx_mg]
  have c1:=od.cn
  refine⟨_,rfl,_,rfl,b,v,zS "main",zs,ns,os,f,rfl,bk,dis,bo,hv,fo,od.ok,(by omega),fun x H1 hx s1=>?_⟩
  unfold Vs at hx
  rw[od.sz]at hx
  refine⟨_,rfl,_,_,rfl,rfl,_,rfl,J6 (fun c=>?_) (fun c=>?_)⟩
  ·have c:=of_decide_eq_true c
   rw[if_neg (by omega)]at hx
   cases hx with
   | @lf p l hl=>
    have hl:H1 p=some (.tup [vS "fault",vS "great"]):=hl
    refine⟨_,rfl,A3,fun q hq=>?_⟩
    have s2:=AF.new (o:=.tup [vS "fault",vS "great"]) hq
    exact⟨p,q,_,_,rfl,rfl,Ae.of (s2 _ _ hl),Ae.of AC,rfl,rfl,IY (by nofun) (k _ (s1.trans s2))⟩
  ·have c:¬ ((200:Int)<(s0:Int)):=fun z=>c (decide_eq_true z)
   rw[if_pos (by omega)]at hx
   obtain⟨a,w0,y1,r,rfl,ha,hne,hy⟩:=US hx od.of od.nf
   refine⟨_,rfl,_,_,_,_,true,rfl,.tup ha,rfl,(fun _=>.inr trivial),Mb _ _,true,rfl,AL ?_⟩
   refine⟨_,rfl,_,_,rfl,hx,od.of,fun H2 s2=>⟨_,rfl,rfl,true,congrArg V.bl (decide_eq_true (by rw[od.sz])),AL ?_⟩⟩
   refine⟨_,rfl,A3,fun q hq=>?_⟩
   have s3:=AF.new (o:=.tup [vS "fault",vS "great"]) hq
   have s23:=s2.trans s3
   refine⟨a,q,w0,zS "fault",zS "great",y1,r,rfl,rfl,s23 _ _ ha,AC,hne,?_,k _ (s1.trans s23)⟩
   rcases hy with h | ⟨q0,xs,e,hq0⟩
   ·exact .inl h
   ·exact .inr ⟨q0,xs,e,s23 _ _ hq0⟩
theorem Do:AW ["_law_script","_law_pen_here","_law_own","_law_more","_law_param","_law_owns","_law_names","_law_book","_law_k","_law_ways","_law_size_here","_law_formula","_law_both"] ["_law_script"] (AI Q9):=A4
theorem UU (T:Txt w K mg t)(hC:∀ q∈[(t.e1,t.dw)],PySem.W.CodeHd base q.1 q.2)(hB:BM mg base):Ao P w K mg base Bc 100 t.ds t.dt ["_law_script"] (Qd K t.dw):=by
 have D:=T.fm
 refine D.fn.okX Do ?_ (fun cdv A outer s H vs Q E hr h Z hZ=>?_)
 ·rintro _ _ _ _ ⟨a,ns,rfl,_⟩
  rfl
 ·obtain⟨a,ns,rfl,hS,hlen,hP,k⟩:=h
  have hC1:PySem.W.CodeHd base t.e1 t.dw:=hC (t.e1,t.dw) (by simp)
  refine hZ ⟨_,((AE (Ag (i:=1) Do.nd rfl (Or.inr rfl) (AZ T.ff (L0 T) (Bd hr) (AA (AJ 0) AB)))
   (AE (Ag (i:=2) Do.nd rfl (Or.inl rfl) (AU Ce (Bo (AH AD (AH AD (AH AD (CL (Ar Bk AD (AZ T.fg (By T) (Bd hr) (AA (AJ 1) (AH AD AB)))) AB))))) (AZ T.fg (By T) (Bd hr) (AA (AJ 1) (AH AD AB))) (fun _ _=>rfl)))
   (AE (Ag (i:=3) Do.nd rfl (Or.inl rfl) (Ar Bk AD (AZ T.fg (By T) (Bd hr) (AA (AJ 1) (AH AD AB)))))
   (AE (Ag (i:=4) Do.nd rfl (Or.inl rfl) (Ah (AH AS (AH AD AB))))
   (AE (Ag (i:=5) Do.nd rfl (Or.inl rfl) (Bo (Av (Ah (AH AS (AH AD (Av (Ah (AH AS (Av (Ah (AH AS (AH AD (AH AD AB)))) AB))) AB)))) (Av (Ah (AH AS (AH AD (AA (AJ 4) AB)))) (Av (Ah (AH AS (AH AD (Av (Ah (AH AS (AH AS (AA (AJ 4) (AA (AJ 4) AB))))) AB)))) AB)))))
   (AE (Dc (HF PySem.F.plainAttrs_list PySem.F.slot_list_append PySem.F.type_list_append Ca (AJ 5) (Av (Ah (AH AS (AH AD (Av (Ah (AH AS (Av (Ah (AH AS (AH AS (AA (AJ 4) (AA (AJ 4) AB))))) (AA (AJ 4) AB)))) AB)))) AB)))
   (AE (Ag (i:=6) Do.nd rfl (Or.inl rfl) (Bo (Av (Ah (AH AS (BD (AZ T.fh (GV T 5) (hr.mono (by omega)) (AA (AJ 2) (AH BJ AB))) AB))) (Av (Ah (AH AS (BD (AZ T.fh (GV T 5) (hr.mono (by omega)) (AA (AJ 3) (AH BJ AB))) AB))) AB))))
   (AE (Ag (i:=7) Do.nd rfl (Or.inl rfl) (AZ T.e2 (M6 T hC1 hB) (hr.mono (by omega)) (LA (Bo (AH AS AB)) (LA (Bo AB) (AA (AJ 6) (AA (AJ 5) (AH AD AB)))))))
   (AE (EL PassesOwn.never rfl (Ja rfl T.fo (AH AD AB)) (Bg (i:=8) Do.nd rfl (Or.inl rfl))
   (AE (Ag (i:=9) Do.nd rfl (Or.inl rfl) (Bo (AH AD (AH AD (AH AD AB)))))
   (AE (Ak (AV Aq (AZ T.fg (By T) (Bd hr) (AA (AJ 1) (AH AD AB))) AD (AQ _)) (AG (NL (i:=9) Do.nd rfl rfl (fv:=["_law_pen_here"]) (js:=[1]) (cl:=[("_law_pen_here",s.heap.objs.size+1)]) rfl (by with_unfolding_all rfl) ⟨rfl,by nofun,by nofun,rfl,by nofun,by nofun,(List.forall_mem_cons.mpr ⟨⟨rfl,rfl,rfl⟩,(List.forall_mem_nil _)⟩),(List.forall_mem_cons.mpr ⟨rfl,(List.forall_mem_nil _)⟩),(.cons rfl .nil)⟩ (Ja rfl T.fo (CL (Ar Bk AD (AZ T.fg (By T) (Bd hr) (AA (AJ 1) (AH AD AB)))) AB)) (fun _ _ _ _ _=>Cp) (fun _ _ _ _ _=>(AU PU (Bo (AH AD (AH AD (AH AD (AH AD (AH AD (AH AD AB))))))) (AZ T.fg (By T) (Bd hr) (AA (AJ 1) (AH AD AB))) (fun _ _=>rfl))))) AY)
   (AE (Ag (i:=10) Do.nd rfl (Or.inl rfl) (AZ T.fk (Kn T) (Bd hr) (AA (AJ 9) (AA (AJ 2) AB))))
   (AE (Ag (i:=11) Do.nd rfl (Or.inl rfl) (AZ T.fj (JG T) (Bd hr) (AA (AJ 9) AB)))
   (AE (Ak (A2 (Az (AZ T.fl (Ch T) (Bd hr) (AA (AJ 7) (AA (AJ 11) (AA (AJ 10) AB)))))) (AG (AK BJ)) AY)
   (AE (Ag (i:=12) Do.nd rfl (Or.inl rfl) (Ah (AH AS (AH AS (AA (AJ 11) (Av (Ah (AH AS (AH AS AB))) AB))))))
   (AE (Ak (Be (A2 (Az (AZ T.fl (Ch T) (Bd hr) (AA (AJ 7) (AA (AJ 12) (CL (Ar Bk (Ar Bk (AJ 10) AD) (AJ 3)) AB)))))) (Bf (A2 (Az (AZ T.fl (Ch T) (Bd hr) (AA (AJ 7) (Av (Ah (AH AS (AA (AJ 12) AB))) (CL (Ar Bk (Ar Bk (AJ 10) AD) (AJ 3)) AB)))))))).pt (AG (AK BJ)) AY)
   (AG (Ak (A2 (Az (AZ T.fl (Ch T) (Bd hr) (AA (AJ 7) (Av (Ah (AH AS (AH AS (Av (Ah (AA (AJ 12) AB)) AB)))) (AH AD AB)))))) (AG (AK BJ)) AY))))))))))
   (AG (AK BJ)))))))))))),?_⟩
  try dsimp only[cx_K,cx_mg]
  refine⟨_,rfl,a,ns,rfl,hS,hlen,fun p H0 hp pen0 s0=>?_⟩
  have nP:t.dw≠p:=AX hP hp
  refine⟨_,rfl,p,_,_,_,rfl,(by show(0:Int)<_;decide),BK (by decide) (by decide),pen0,(by omega),fun r1 H1 a1 b1 pen1 kp1=>⟨_,_,rfl,rfl,(by show 4≤sizeLine;decide),fun l hl=>?_⟩⟩
  have sl:=AF.new (o:=.lst [.int 24,.int 23,.int 22,.int (1+r1)]) hl
  have npl:=pen1.ne hl
  refine⟨_,rfl,p,_,_,_,rfl,(by show(0:Int)<_;decide),BK (by decide) (by decide),(pen1.same sl),(by omega),fun r2 H2 a2 b2 pen2 kp2=>?_⟩
  obtain⟨o,eo,ho1,ho2⟩:=Q6 a1 b1 a2 b2
  refine⟨l,_,_,_,rfl,rfl,At.of (kp2 _ _ npl AC),eo,?_⟩
  refine⟨_,rfl,p,_,_,_,rfl,(by show(0:Int)<_;decide),BK (by decide) (by decide),pen2,(by omega),fun r3 H3 a3 b3 pen3 kp3=>⟨_,_,rfl,rfl,?_⟩⟩
  obtain⟨mo,emo,hm1,hm2⟩:∃ mo:Nat,1+r3=(mo:Int)∧1≤mo∧mo≤24:=⟨(1+r3).toNat,by omega,by omega,by omega⟩
  dsimp only
  rw[emo]
  have k03:KeepX p H0 H3:=kp1.trans ((AF.keep sl).trans (kp2.trans kp3))
  have hP3:=k03 _ _ nP (s0 _ _ hP)
  refine⟨A3,fun pq n_pq=>?_⟩
  have s_pq:=AF.new (o:=.tup [vS "param",.int 0]) n_pq
  have o_pq:upd H3 pq (.tup [vS "param",.int 0]) pq=some (.tup [vS "param",.int 0]):=AC
  generalize upd H3 pq (.tup [vS "param",.int 0])=G1 at *
  refine⟨BV,fun q1 n_q1=>⟨A3,fun q2 n_q2=>⟨BV,fun q3 n_q3=>⟨_,rfl,BV,fun q4 n_q4=>⟨_,rfl,_,rfl,(by show 4≤sizeLine;decide),fun q5 n_q5=>⟨BV,fun q6 n_q6=>⟨BV,fun ol n_ol=>?_⟩⟩⟩⟩⟩⟩⟩
  have s_q1:=AF.new (o:=.tup [vS "number",.int 1,.int 1]) n_q1
  have o_q1:upd G1 q1 (.tup [vS "number",.int 1,.int 1]) q1=some (.tup [vS "number",.int 1,.int 1]):=AC
  generalize upd G1 q1 (.tup [vS "number",.int 1,.int 1])=G2 at *
  have s_q2:=AF.new (o:=.tup [vS "value",.ref q1]) n_q2
  have o_q2:upd G2 q2 (.tup [vS "value",.ref q1]) q2=some (.tup [vS "value",.ref q1]):=AC
  generalize upd G2 q2 (.tup [vS "value",.ref q1])=G3 at *
  have s_q3:=AF.new (o:=.tup [vS "zero",.int 1,.ref q2]) n_q3
  have o_q3:upd G3 q3 (.tup [vS "zero",.int 1,.ref q2]) q3=some (.tup [vS "zero",.int 1,.ref q2]):=AC
  generalize upd G3 q3 (.tup [vS "zero",.int 1,.ref q2])=G4 at *
  have s_q4:=AF.new (o:=.tup [vS "one",.int 1,.ref pq]) n_q4
  have o_q4:upd G4 q4 (.tup [vS "one",.int 1,.ref pq]) q4=some (.tup [vS "one",.int 1,.ref pq]):=AC
  generalize upd G4 q4 (.tup [vS "one",.int 1,.ref pq])=G5 at *
  have s_q5:=AF.new (o:=.tup [vS "op",vS "+",.ref pq,.ref pq]) n_q5
  have o_q5:upd G5 q5 (.tup [vS "op",vS "+",.ref pq,.ref pq]) q5=some (.tup [vS "op",vS "+",.ref pq,.ref pq]):=AC
  generalize upd G5 q5 (.tup [vS "op",vS "+",.ref pq,.ref pq])=G6 at *
  have s_q6:=AF.new (o:=.tup [vS "two",.int 1,.ref q5]) n_q6
  have o_q6:upd G6 q6 (.tup [vS "two",.int 1,.ref q5]) q6=some (.tup [vS "two",.int 1,.ref q5]):=AC
  generalize upd G6 q6 (.tup [vS "two",.int 1,.ref q5])=G7 at *
  have s_ol:=AF.new (o:=.lst [.ref q3,.ref q4,.ref q6]) n_ol
  have o_ol:upd G7 ol (.lst [.ref q3,.ref q4,.ref q6]) ol=some (.lst [.ref q3,.ref q4,.ref q6]):=AC
  generalize upd G7 ol (.lst [.ref q3,.ref q4,.ref q6])=G8 at *
  refine⟨_,rfl,.inl ⟨rfl,_,At.of o_ol⟩,_,rfl,_,rfl,(by show 4≤sizeLine;decide),fun q7 n_q7=>⟨_,rfl,BV,fun q8 n_q8=>⟨BV,fun q9 n_q9=>?_⟩⟩⟩
  have s_q7:=AF.new (o:=.tup [vS "op",vS "*",.ref pq,.ref pq]) n_q7
  have o_q7:upd G8 q7 (.tup [vS "op",vS "*",.ref pq,.ref pq]) q7=some (.tup [vS "op",vS "*",.ref pq,.ref pq]):=AC
  generalize upd G8 q7 (.tup [vS "op",vS "*",.ref pq,.ref pq])=G9 at *
  have s_q8:=AF.new (o:=.tup [vS "stack",.ref q7,.ref pq]) n_q8
  have o_q8:upd G9 q8 (.tup [vS "stack",.ref q7,.ref pq]) q8=some (.tup [vS "stack",.ref q7,.ref pq]):=AC
  generalize upd G9 q8 (.tup [vS "stack",.ref q7,.ref pq])=G10 at *
  have s_q9:=AF.new (o:=.tup [vS "three",.int 1,.ref q8]) n_q9
  have o_q9:upd G10 q9 (.tup [vS "three",.int 1,.ref q8]) q9=some (.tup [vS "three",.int 1,.ref q8]):=AC
  generalize upd G10 q9 (.tup [vS "three",.int 1,.ref q8])=G11 at *
  have s811:=(s_q7.trans s_q8).trans s_q9
  refine⟨ol,_,_,rfl,rfl,s811 _ _ o_ol,(by show 3<sizeLine;decide),?_⟩
  have q12:Kp G11 (upd G11 ol (.lst ([.ref q3,.ref q4,.ref q6]++[.ref q9]))):=Kp.lst (s811 _ _ o_ol) KeepX.upd
  have o12:upd G11 ol (.lst ([.ref q3,.ref q4,.ref q6]++[.ref q9])) ol=some (.lst [.ref q3,.ref q4,.ref q6,.ref q9]):=AC
  have s37:=((((((s_pq.trans s_q1).trans s_q2).trans s_q3).trans s_q4).trans s_q5).trans s_q6)
  have hol3:H3 ol=none:=AF.back0 s37 n_ol
  have s3_12:AF H3 (upd G11 ol (.lst ([.ref q3,.ref q4,.ref q6]++[.ref q9]))):=fun b u e=>by rw[AR (AX e hol3)];exact s811 _ _ (s_ol _ _ (s37 _ _ e))
  have t1:AF G1 G7:=(((((s_q1.trans s_q2).trans s_q3).trans s_q4).trans s_q5).trans s_q6)
  have q7_12:Kp G7 (upd G11 ol (.lst ([.ref q3,.ref q4,.ref q6]++[.ref q9]))):=(Kp.same (s_ol.trans s811)).trans q12
  have q1_12:=(Kp.same t1).trans q7_12
  have w_pq:=q1_12 _ _ o_pq
  have w_q1:=q7_12 _ _ (s_q6 _ _ (s_q5 _ _ (s_q4 _ _ (s_q3 _ _ (s_q2 _ _ o_q1)))))
  have w_q2:=q7_12 _ _ (s_q6 _ _ (s_q5 _ _ (s_q4 _ _ (s_q3 _ _ o_q2))))
  have w_q3:=q7_12 _ _ (s_q6 _ _ (s_q5 _ _ (s_q4 _ _ o_q3)))
  have w_q4:=q7_12 _ _ (s_q6 _ _ (s_q5 _ _ o_q4))
  have w_q5:=q7_12 _ _ (s_q6 _ _ o_q5)
  have w_q6:=q7_12 _ _ o_q6
  have w_q7:=q12 _ _ (s_q9 _ _ (s_q8 _ _ o_q7))
  have w_q8:=q12 _ _ (s_q9 _ _ o_q8)
  have w_q9:=q12 _ _ o_q9
  generalize upd G11 ol (.lst ([.ref q3,.ref q4,.ref q6]++[.ref q9]))=G12 at *
  have two:∀{q:Addr} {z:Str},G12 q=some (.tup [vS "op",.str z,.ref pq,.ref pq])→Aw G12 (.ref q) (.nd (.op z) [p0,p0]):=fun h=>.nd (t:=0) (us:=[.ref pq,.ref pq]) h (fun z=>by cases z) rfl (fun j u f e1 e2=>by
   match j with
   | 0=>cases e1;cases e2;exact .lf w_pq
   | 1=>cases e1;cases e2;exact .lf w_pq
   | j+2=>cases e1)
  have eo:Paired (Br true G12) [.ref q3,.ref q4,.ref q6,.ref q9] Ud:=.cons ⟨q3,_,rfl,w_q3,.lf ⟨q1,w_q2,w_q1⟩⟩ (.cons ⟨q4,_,rfl,w_q4,.lf w_pq⟩ (.cons ⟨q6,_,rfl,w_q6,two w_q5⟩ (.cons ⟨q9,_,rfl,w_q9,.nd (t:=0) (k:=.wd (zS "stack")) (us:=[.ref q7,.ref pq]) w_q8 (fun z=>by cases z) rfl (fun j u f e1 e2=>by
   match j with
   | 0=>cases e1;cases e2;exact two w_q7
   | 1=>cases e1;cases e2;exact .lf w_pq
   | j+2=>cases e1)⟩ .nil)))
  refine⟨_,rfl,_,o,false,rfl,rfl,ho1,(by show o<32;omega),fun v1 G13 f1 s13=>⟨A3,fun b1 n_b1=>?_⟩⟩
  have s_b1:=AF.new (o:=.tup [vS "n",v1]) n_b1
  have o_b1:upd G13 b1 (.tup [vS "n",v1]) b1=some (.tup [vS "n",v1]):=AC
  generalize upd G13 b1 (.tup [vS "n",v1])=G14 at *
  refine⟨_,rfl,_,mo,true,rfl,rfl,hm1,(by show mo<32;omega),fun v2 G15 f2 s15=>⟨A3,fun b2 n_b2=>⟨A3,fun nl n_nl=>?_⟩⟩⟩
  have s_b2:=AF.new (o:=.tup [vS "m",v2]) n_b2
  have o_b2:upd G15 b2 (.tup [vS "m",v2]) b2=some (.tup [vS "m",v2]):=AC
  generalize upd G15 b2 (.tup [vS "m",v2])=G16 at *
  have s_nl:=AF.new (o:=.lst [.ref b1,.ref b2]) n_nl
  have o_nl:upd G16 nl (.lst [.ref b1,.ref b2]) nl=some (.lst [.ref b1,.ref b2]):=AC
  generalize upd G16 nl (.lst [.ref b1,.ref b2])=G17 at *
  have s12_17:=((((s13.trans s_b1).trans s15).trans s_b2).trans s_nl)
  have s1417:=((s15.trans s_b2).trans s_nl)
  have en:Paired (Br false G17) [.ref b1,.ref b2] (UO o mo):=.cons ⟨b1,v1,rfl,s1417 _ _ o_b1,f1.kp (Kp.same (s_b1.trans s1417))⟩ (.cons ⟨b2,v2,rfl,s_nl _ _ o_b2,f2.kp (Kp.same (s_b2.trans s_nl))⟩ .nil)
  have eo17:=Paired.imp' (fun _ _ (x:Br true G12 _ _)=>x.kp (Kp.same s12_17)) eo
  refine⟨Ey,fun sl2 n_sl2=>⟨Nat.zero_le _,fun cl n_cl=>?_⟩⟩
  have s_sl2:=AF.new (o:=.lst [vS "main"]) n_sl2
  have o_sl2:upd G17 sl2 (.lst [vS "main"]) sl2=some (.lst [vS "main"]):=AC
  generalize upd G17 sl2 (.lst [vS "main"])=G18 at *
  have s_cl:=AF.new (o:=.lst []) n_cl
  have o_cl:upd G18 cl (.lst []) cl=some (.lst []):=AC
  generalize upd G18 cl (.lst [])=G19 at *
  have s1719:=s_sl2.trans s_cl
  have s3_19:=(s3_12.trans s12_17).trans s1719
  have hP19:=s3_19 _ _ hP3
  have pen19:=pen3.same s3_19
  refine⟨_,rfl,_,rfl,sl2,cl,nl,ol,_,_,[zS "main"],UO o mo,Ud,rfl,s_cl _ _ o_sl2,o_cl,s1719 _ _ o_nl,s1719 _ _ (s12_17 _ _ o12),Paired.imp' (fun _ _ x=>x.kp (Kp.same s1719)) en,Paired.imp' (fun _ _ x=>x.kp (Kp.same s1719)) eo17,⟨(by show 1≤1;decide),(by show 1≤4;decide),(by simp),fun z hz=>by rw[List.mem_singleton.mp hz];exact Kc⟩,Ke ho1 ho2 hm1 hm2,Kf,EA.nil hP19,fun b ns' os' H20 bk sn so kx=>?_⟩
  have pen20:=pen19.tb hP19 kx
  have WE:=UP ho1 ho2 hm1 hm2 sn so
  have dis:=UL sn so (Ke ho1 ho2 hm1 hm2) Kf
  have bko:KW (Ft ns' os') [zS "main"]:=WD (fun z hz=>by rw[List.mem_singleton.mp hz];exact Kc) sn so (Ke ho1 ho2 hm1 hm2) Kf
  refine⟨6,rfl,(by decide),(by decide),?_⟩
  refine N5 (n:=6) (fun i σ H7=>∃(x8 x9 x10 x11 x12:Option V),σ=[some (.ref a),some (.ref p),some (.int o),some (.int mo),some (.ref pq),some (.ref ol),some (.ref nl),some (.ref b),x8,x9,x10,x11,x12]∧Fh H7 b [zS "main"] ns' os'∧Cq K (a,ns) H7 p (3+10*i)) ⟨_,_,_,_,_,rfl,bk,pen20⟩ ?_ ?_
  ·rintro i σ H7 hi ⟨x8,x9,x10,x11,x12,rfl,bk7,pen7⟩
   refine⟨BV,fun wl0 n_wl0=>?_⟩
   have s8:=AF.new (o:=.lst [.int 2,.int 2,.int 2]) n_wl0
   have o8:upd H7 wl0 (.lst [.int 2,.int 2,.int 2]) wl0=some (.lst [.int 2,.int 2,.int 2]):=AC
   generalize upd H7 wl0 (.lst [.int 2,.int 2,.int 2])=H8 at *
   have bk8:=bk7.kp (Kp.same s8)
   have pen8:=pen7.same s8
   have np8:wl0≠p:=pen7.ne n_wl0
   dsimp only[JZ]
   refine IB (fun σ' H'=>∃(wl:Addr) (ts:List Nat) (y8:Option V),σ'=[some (.ref a),some (.ref p),some (.int o),some (.int mo),some (.ref pq),some (.ref ol),some (.ref nl),some (.ref b),y8,some (.ref wl),x10,x11,x12]∧H' wl=some (.lst (ts.map fun(t:Nat)=>V.int t))∧(∀ t∈ts,t≤3)∧ts.length≤5∧Fh H' b [zS "main"] ns' os'∧Cq K (a,ns) H' p (3+10*(i+1))) (fun N hN=>?_) (fun σ' H9 hJ=>?_)
   ·refine⟨_,rfl,p,_,_,_,rfl,(by show(0:Int)<_;decide),BK (by decide) (by decide),pen8,(by omega),fun r9 H9 a9 b9 pen9 kp9=>⟨rfl,_,rfl,J6 (fun c1=>?_) (fun c1=>?_)⟩⟩
    ·refine⟨_,rfl,p,_,_,_,rfl,(by show(0:Int)<_;decide),BK (by decide) (by decide),pen9,(by omega),fun r10 H10 a10 b10 pen10 kp10=>⟨_,_,rfl,rfl,_,rfl,(by omega),(by omega),fun D hD=>?_⟩⟩
     have npD:=pen10.ne hD
     generalize hm:(1+r10).toNat=m
     have hmx:m≤5:=by omega
     refine⟨fun j mm H4=>mm=m-j∧j≤m∧∃ ts:List Nat,H4 D=some (.lst (ts.map fun(t:Nat)=>V.int t))∧ts.length=j∧(∀ t∈ts,t≤3)∧Cq K (a,ns) H4 p (5+10*i+j)∧∀ b o,b≠p→H10 b=some o→H4 b=some o,⟨m,by simp,Nat.zero_le _,[],AC,rfl,(fun t ht=>nomatch ht),(pen10.same (AF.new hD)).mono (by omega),fun b o _ e=>AF.new hD _ _ e⟩,?_⟩
     rintro j mm H4 ⟨rfl,hj,ts,hD4,hl4,one4,pen4,kp4⟩
     by_cases hlt:j<m
     ·refine .inr ⟨hlt,fun x H' y=>?_⟩
      obtain⟨e,y⟩:=y
      subst e y
      refine⟨(by show 6≤sizeLine;decide),fun lw n_lw=>?_⟩
      have s5:=AF.new (o:=.lst [.int 2,.int 3,.int 1,.int 2,.int 0,.int 3]) n_lw
      have nlw:=pen4.ne n_lw
      have nlD:lw≠D:=fun e=>by rw[e,hD4]at n_lw;cases n_lw
      refine⟨_,rfl,p,_,_,_,rfl,(by show(0:Int)<_;decide),BK (by decide) (by decide),(pen4.same s5),(by omega),fun r5 H5 a5 b5 pen5 kp5=>?_⟩
      obtain⟨n5,e5,l5⟩:=Q7 a5 b5
      refine⟨lw,_,_,_,rfl,rfl,At.of (kp5 _ _ nlw AC),e5,?_⟩
      refine⟨_,kp5 _ _ npD (s5 _ _ hD4),(by rw[List.length_map,hl4];exact EG (by omega)),m-(j+1),(by omega),rfl,hlt,ts++[n5],(by rw[AC,List.map_append];rfl),(by rw[List.length_append,hl4];rfl),fun t ht=>?_,?_,fun b o h1 e=>?_⟩
      ·rcases List.mem_append.mp ht with ht | ht
       ·exact one4 t ht
       ·rw[List.mem_singleton.mp ht];exact l5
      ·exact(pen10.put hD pen5).mono (by omega)
      ·rw[AR (AX e hD)];exact kp5 b o h1 (s5 _ _ (kp4 b o h1 e))
     have e:j=m:=by omega
     subst e
     refine .inl ⟨Nat.le_refl _,?_⟩
     have q4:Kp H10 H4:=pen10.kp kp4
     exact hN _ _ ⟨D,ts,_,rfl,hD4,one4,by omega,(bk8.kp ((pen8.kp kp9).trans (pen9.kp kp10))).kp q4,pen4.mono (by omega)⟩
    ·exact hN _ _ ⟨wl0,[2,2,2],_,rfl,kp9 _ _ np8 o8,(by decide),(by decide),bk8.kp (pen8.kp kp9),pen9.mono (by omega)⟩
   obtain⟨wl,ts,y8,rfl,hwl,ht3,htl,bk9,pen9⟩:=hJ
   have ht3r:∀ t∈ts.reverse,t≤3:=fun t ht=>ht3 t (List.mem_reverse.mp ht)
   have htlr:ts.reverse.length≤5:=by rw[List.length_reverse];exact htl
   obtain⟨d1,d2,d3,d4⟩:=Xd ho1 ho2 hm1 hm2 WE ht3r htlr
   refine⟨_,rfl,_,rfl,wl,ts,o,rfl,hwl,ht3,htl,ho2,fun H10 s10=>?_⟩
   refine⟨_,rfl,wl,ts,rfl,s10 _ _ hwl,ht3,htl,fun v H11 fv s11=>?_⟩
   have s911:=s10.trans s11
   have bk11:=bk9.kp (Kp.same s911)
   have fo1:FO 0 8 (Hb ts.reverse):=(Mt ht3r).mono (by omega)
   refine⟨_,rfl,_,rfl,_,rfl,b,v,_,ns',os',_,_,_,rfl,rfl,bk11,dis,bko,fv,fo1,d1,fun H12 s12=>⟨true,rfl,AO ?_⟩⟩
   refine⟨_,rfl,A3,fun qm n_qm=>⟨(by show 4≤sizeLine;decide),fun qb n_qb=>?_⟩⟩
   have sm:=AF.new (o:=.tup [vS "name",vS "m"]) n_qm
   have sb:=AF.new (o:=.tup [vS "op",vS "-",v,.ref qm]) n_qb
   have fb:Aw (upd (upd H12 qm (.tup [vS "name",vS "m"])) qb (.tup [vS "op",vS "-",v,.ref qm])) (.ref qb) (EX ts.reverse):=.nd (t:=0) (us:=[v,.ref qm]) AC (fun z=>by cases z) rfl (fun j u f e1 e2=>by
    match j with
    | 0=>cases e1;cases e2;exact fv.kp (Kp.same ((s12.trans sm).trans sb))
    | 1=>cases e1;cases e2;exact .lf (sb _ _ AC)
    | j+2=>cases e1)
   have s11_13:=(s12.trans sm).trans sb
   generalize upd (upd H12 qm (.tup [vS "name",vS "m"])) qb (.tup [vS "op",vS "-",v,.ref qm])=H13 at *
   have bk13:=bk11.kp (Kp.same s11_13)
   have fob:=SQ ht3r htlr
   refine⟨_,rfl,_,rfl,_,rfl,_,_,rfl,rfl,_,rfl,_,_,rfl,rfl,b,.ref qb,_,ns',os',_,_,_,rfl,?_,bk13,dis,bko,fb,fob.mono (by decide),d2,fun H14 s14=>⟨true,rfl,AO ?_⟩⟩
   ·omega
   refine⟨_,rfl,_,rfl,A3,fun qs n_qs=>?_⟩
   have ss:=AF.new (o:=.tup [vS "sum",.ref qb]) n_qs
   have s13_15:=s14.trans ss
   have fs:Aw (upd H14 qs (.tup [vS "sum",.ref qb])) (.ref qs) (.nd (.wd (zS "sum")) [EX ts.reverse]):=.nd (t:=0) (k:=.wd (zS "sum")) (us:=[.ref qb]) AC (fun z=>by cases z) rfl (fun j u f e1 e2=>by
    match j with
    | 0=>cases e1;cases e2;exact fb.kp (Kp.same s13_15)
    | j+1=>cases e1)
   have fos:FO 0 8 (.nd (.wd (zS "sum")) [EX ts.reverse]):=.nd (show(zS "sum",1)∈Gk by nofun) fun f hf=>by rw[List.mem_singleton.mp hf];exact fob
   refine⟨_,rfl,_,_,rfl,rfl,_,rfl,_,_,rfl,rfl,b,.ref qs,_,ns',os',_,_,_,rfl,?_,bk13.kp (Kp.same s13_15),dis,bko,fs,fos,d3,fun H16 s16=>⟨true,rfl,AO ?_⟩⟩
   ·omega
   have s13_16:=s13_15.trans s16
   refine⟨_,rfl,_,rfl,Ey,fun qt n_qt=>⟨BV,fun qz n_qz=>?_⟩⟩
   have st:=AF.new (o:=.tup [.ref qb]) n_qt
   have sz:=AF.new (o:=.tup [vS "own",vS "zero",.ref qt]) n_qz
   have s13_17:=(s13_16.trans st).trans sz
   have fz:Aw (upd (upd H16 qt (.tup [.ref qb])) qz (.tup [vS "own",vS "zero",.ref qt])) (.ref qz) (.nd (.own (zS "zero")) [EX ts.reverse]):=.nd (t:=qt) (k:=.own (zS "zero")) (us:=[.ref qb]) AC (fun _=>sz _ _ AC) rfl (fun j u f e1 e2=>by
    match j with
    | 0=>cases e1;cases e2;exact fb.kp (Kp.same s13_17)
    | j+1=>cases e1)
   have foz:FO 0 8 (.nd (.own (zS "zero")) [EX ts.reverse]):=.nd ⟨EQ (by nofun),by nofun,(by show 1≤3;decide)⟩ fun f hf=>by rw[List.mem_singleton.mp hf];exact fob
   refine⟨b,.ref qz,_,ns',os',_,_,_,rfl,rfl,bk13.kp (Kp.same s13_17),dis,bko,fz,foz,d4,fun H18 s18=>⟨true,rfl,AO ?_⟩⟩
   have s9_18:=((s911.trans s11_13).trans s13_17).trans s18
   exact⟨_,_,_,_,_,rfl,bk9.kp (Kp.same s9_18),pen9.same s9_18⟩
  ·rintro σ H7 ⟨x8,x9,x10,x11,x12,rfl,_⟩
   exact k H7
end
def Ko:Nat→(List Value→Prop)→Prop
 | 0,p=>p []
 | n+1,p=>∀ a,Ko n fun us=>p (a::us)
theorem Ko.of:∀(n:Nat) {p:List Value→Prop},Ko n p→∀ us,us.length=n→p us
 | 0,_,h,us,e=>by
  obtain rfl:=List.length_eq_zero_iff.mp e
  exact h
 | n+1,_,h,us,e=>by
  cases us with
  | nil=>cases e
  | cons a r=>exact Ko.of n (h a) r (Nat.succ.inj e)
def Ck (K:PySem.W.Frag)(n:Str)(s:Stmt):Prop:=∃(f:Addr) (od an:Option Addr) (sl:Array (Option Value)) (oc kV dc pm cd ct:Value),PySem.W.nsIn K mainGlobals n=some (some (.ref f))∧K.lookup f=some ⟨oc,od,.func (PySem.W.fnOf n n (Cf s) (Bm s) (AI s) .none kV dc pm an cd ct),sl⟩∧PySem.W.codeIn K cd n=true∧PySem.W.keepIn K (.ref f)=true
theorem WP {K:PySem.W.Frag}{n:Str}{s:Stmt}{f:Addr}{od an:Option Addr}{sl:Array (Option Value)}{oc kV dc pm cd ct:Value}(a:PySem.W.nsIn K mainGlobals n=some (some (.ref f)))(l:K.lookup f=some ⟨oc,od,.func (PySem.W.fnOf n n (Cf s) (Bm s) (AI s) .none kV dc pm an cd ct),sl⟩)(c:PySem.W.codeIn K cd n=true)(k:PySem.W.keepIn K (.ref f)=true):Ck K n s:=⟨_,_,_,_,_,_,_,_,_,_,a,l,c,k⟩
theorem Ap {K:PySem.W.Frag}{h:Heap}{mg:Str→Option Value}{n:Str}{s:Stmt}(X:K.In h)(G:h.Ns mainGlobals mg)(C:Ck K n s)(ps:List Str)
 (b:∀(kV doc pm:Value) (an:Option Addr) (cdv ct:Value),Ko ps.length fun us=>bindArgs (PySem.W.fnOf n n (Cf s) (Bm s) (AI s) .none kV doc pm an cdv ct) ⟨us,[]⟩=pure (ps.zip us)):
 ∃ f fd,Df K mg n s ps f fd∧(∀ us,us.length=ps.length→bindArgs fd ⟨us,[]⟩=pure (ps.zip us))∧∀ c T,PySem.W.tabIn K n=some (c,T)→fd.code=.ref c:=by
 obtain⟨f,od,an,sl,oc,kV,dc,pm,cd,ct,ha,hl,hc,hk⟩:=C
 have F:=PH (st:=s) hl hc hk
 exact⟨f,_,⟨F,PySem.W.mg_of X G ha,F.binds fun _ _ _ _ _ _ us hl=>Ko.of _ (b _ _ _ _ _ _) us hl⟩,Ko.of _ (b _ _ _ _ _ _),fun c T ht=>Re F ha ht⟩
def RF (K:PySem.W.Frag)(C:Addr)(n q:Str)(s:Stmt):Prop:=∃(f:Addr) (od an:Option Addr) (sl:Array (Option Value)) (oc kV dc pm cd ct:Value),PySem.W.findIn K (.ref C) n=some (some (.ref f))∧PySem.W.isFn K (.ref f)=true∧K.lookup f=some ⟨oc,od,.func (PySem.W.fnOf n q (Cf s) (Bm s) (AI s) .none kV dc pm an cd ct),sl⟩∧PySem.W.codeIn K cd q=true∧PySem.W.keepIn K (.ref f)=true
theorem UV {K:PySem.W.Frag}{C:Addr}{n q:Str}{s:Stmt}{f:Addr}{od an:Option Addr}{sl:Array (Option Value)}{oc kV dc pm cd ct:Value}(a:PySem.W.findIn K (.ref C) n=some (some (.ref f)))(i:PySem.W.isFn K (.ref f)=true)(l:K.lookup f=some ⟨oc,od,.func (PySem.W.fnOf n q (Cf s) (Bm s) (AI s) .none kV dc pm an cd ct),sl⟩)(c:PySem.W.codeIn K cd q=true)(k:PySem.W.keepIn K (.ref f)=true):RF K C n q s:=⟨_,_,_,_,_,_,_,_,_,_,a,i,l,c,k⟩
theorem FK {K:PySem.W.Frag}{C:Addr}{n q:Str}{s:Stmt}(M:RF K C n q s)(ps:List Str)
 (b:∀(kV doc pm:Value) (an:Option Addr) (cdv ct:Value),Ko ps.length fun us=>bindArgs (PySem.W.fnOf n q (Cf s) (Bm s) (AI s) .none kV doc pm an cdv ct) ⟨us,[]⟩=pure (ps.zip us)):
 ∃ f fd,Dq K n q s ps f fd∧PySem.W.findIn K (.ref C) n=some (some (.ref f))∧PySem.W.isFn K (.ref f)=true∧PySem.W.keepIn K (.ref f)=true:=by
 obtain⟨f,od,an,sl,oc,kV,dc,pm,cd,ct,ha,hi,hl,hc,hk⟩:=M
 have F:=PH (st:=s) hl hc hk
 exact⟨f,_,⟨F,F.binds fun _ _ _ _ _ _ us hl=>Ko.of _ (b _ _ _ _ _ _) us hl⟩,ha,hi,hk⟩
theorem UW {l:PySem.W.OpenLaw}{w:World}{K:PySem.W.Frag}{h:Heap}{q:Program}{loose:List Str}{mean:ExcName→Option Value}{mg mb:Str→Option Value}{fa:Addr}(X:K.In h)(T0:PyProof.Rows.Top q loose mean mg mb h)(hfa:mg "law"=some (.ref fa))
 {u_LETTERS:Value} {u_LONGEST_NAME:Value} {u_LAST_ROW:Value} {u_LAST_COLUMN:Value} {u_SIGNS:Value} {w_FAULTS:Addr} {o_FAULTS:Obj} {u_MOST_SIGNS:Value} {u_GREATEST_WHOLE:Value} {u_MOST_PARTS:Value} {u_MOST_DEEP:Value} {u_MOST_OWN_PARTS:Value} {u_MOST_PARAMS:Value} {u_GREATEST_WRITTEN:Value} {w_WORDS:Addr} {o_WORDS:Obj} {w_OP_SIGNS:Addr} {o_OP_SIGNS:Obj} {w_SUMIF_SIGNS:Addr} {o_SUMIF_SIGNS:Obj} {w_LENGTHS:Addr} {o_LENGTHS:Obj} {w_PART_PLACES:Addr} {o_PART_PLACES:Obj} {u_MOST_OPENED:Value} {u_MOST_SHEETS:Value} {u_MOST_CELLS:Value} {u_MOST_NAMES:Value} {u_MOST_OWNS:Value} {u_MOST_ROUNDS:Value} {e_Opener:Addr}  {cc_sorted_by_first pp_sorted_by_first:Addr}
 (C0:Ck K "is_whole" Fu)
 (C1:Ck K "greatest_divisor" CA)
 (C2:Ck K "is_number" E3)
 (C3:Ck K "is_sheet_name" Cu)
 (C4:Ck K "is_within" E4)
 (C5:Ck K "is_cell" Gu)
 (C6:Ck K "has_few_figures" CP)
 (C7:Ck K "is_short_number" CQ)
 (C8:Ck K "is_text" Gv)
 (C9:Ck K "is_fault_word" Cv)
 (C10:Ck K "is_value" Fv)
 (C11:Ck K "parts_of" Fw)
 (C12:Ck K "with_parts" EY)
 (C13:Ck K "all_parts" E5)
 (C14:Ck K "count_parts" Du)
 (C15:Ck K "is_formula_name" CS)
 (C16:Ck K "is_one_of" E6)
 (C17:Ck K "is_written_value" CB)
 (C18:Ck K "is_sheet_or_none" CC)
 (C19:Ck K "is_corner" E7)
 (C20:Ck K "is_column_end" Cw)
 (C21:Ck K "is_reference" DS)
 (C22:Ck K "is_called" E8)
 (C23:Ck K "is_param" Fx)
 (C24:Ck K "has_form" Fy)
 (C25:Ck K "is_tree" Gw)
 (C26:Ck K "is_formula" EZ)
 (C27:Ck K "is_cell_pair" E9)
 (C28:Ck K "is_row" Iz)
 (C29:Ck K "are_sheets" Ea)
 (C30:Ck K "is_up_to" Fz)
 (C31:Ck K "is_tuple_of" Dv)
 (C32:Ck K "tells_sheets" DT)
 (C33:Ck K "is_book_formula" CT)
 (C34:Ck K "is_name_pair" DU)
 (C35:Ck K "is_own" I0)
 (C36:Ck K "has_each_once" Cy)
 (C37:Ck K "are_cells" FA)
 (C38:Ck K "are_names" FB)
 (C39:Ck K "are_owns" F0)
 (C40:Ck K "sorted_by_first" CU)
 (C41:Ck K "book_of" Gx)
 (C42:Ck K "things_called" Cz)
 (C43:Ck K "range_of_columns" CD)
 (C51:Ck K "told_by_parts" DB)
 (C53:Ck K "open_up" Gy)
 (C54:Ck K "_law_pen" F1)
 (C55:Ck K "_law_next" FC)
 (C56:Ck K "_law_tree" FD)
 (C57:Ck K "_law_counted" DV)
 (C58:Ck K "_law_called" Dw)
 (C59:Ck K "_law_size" FE)
 (C60:Ck K "_law_right" Eb)
 (C61:Ck K "law" Q9)
 (z_len:PySem.W.nsIn K mainGlobals "len"=some none)
 (z_range:PySem.W.nsIn K mainGlobals "range"=some none)
 (z_isinstance:PySem.W.nsIn K mainGlobals "isinstance"=some none)
 (z_int:PySem.W.nsIn K mainGlobals "int"=some none)
 (z_bool:PySem.W.nsIn K mainGlobals "bool"=some none)
 (z_str:PySem.W.nsIn K mainGlobals "str"=some none)
 (z_tuple:PySem.W.nsIn K mainGlobals "tuple"=some none)
 (z_list:PySem.W.nsIn K mainGlobals "list"=some none)
 (z_all:PySem.W.nsIn K mainGlobals "all"=some none)
 (z_zip:PySem.W.nsIn K mainGlobals "zip"=some none)
 (z_min:PySem.W.nsIn K mainGlobals "min"=some none)
 (z_sorted:PySem.W.nsIn K mainGlobals "sorted"=some none)
 (z_set:PySem.W.nsIn K mainGlobals "set"=some none)
 (z_abs:PySem.W.nsIn K mainGlobals "abs"=some none)
 (z_reversed:PySem.W.nsIn K mainGlobals "reversed"=some none)
 (z_sum:PySem.W.nsIn K mainGlobals "sum"=some none)
 (q_Opener:PySem.W.nsIn K mainGlobals "Opener"=some (some (.ref e_Opener)))
 (C44:RF K e_Opener "__init__" "Opener.__init__" CV)
 (C45:RF K e_Opener "opened_reference" "Opener.opened_reference" BR)
 (C46:RF K e_Opener "opened_alone" "Opener.opened_alone" Bl)
 (C47:RF K e_Opener "row_filled" "Opener.row_filled" B0)
 (C48:RF K e_Opener "row_called" "Opener.row_called" B1)
 (C49:RF K e_Opener "row_put_in" "Opener.row_put_in" B2)
 (C50:RF K e_Opener "row_of" "Opener.row_of" DA)
 (C52:RF K e_Opener "whole_of" "Opener.whole_of" CW)
 (k1_Opener:PySem.W.plainGet K e_Opener Str.empty=true)
 (k2_Opener:PySem.W.hasDictIn K e_Opener=true)
 (k3_Opener:PySem.W.plainOver K e_Opener=true)
 (k4_Opener:PySem.W.findIn K (.ref e_Opener) "__setattr__"=some (some (.builtin "object.__setattr__")))
 (k5_Opener:PySem.W.makesIn K e_Opener=true)
 (k6_Opener:PySem.W.keepIn K (.ref e_Opener)=true)
 (nf_Opener_sheet:PySem.W.findIn K (.ref e_Opener) "sheet"=some none)
 (nf_Opener_sheets:PySem.W.findIn K (.ref e_Opener) "sheets"=some none)
 (nf_Opener_called:PySem.W.findIn K (.ref e_Opener) "called"=some none)
 (nf_Opener_known_rows:PySem.W.findIn K (.ref e_Opener) "known_rows"=some none)
 (g_LETTERS:PySem.W.nsIn K mainGlobals "LETTERS"=some (some u_LETTERS))
 (r_LETTERS:Ai (.str (Str.ofString "abcdefghijklmnopqrstuvwxyz")) u_LETTERS)
 (g_LONGEST_NAME:PySem.W.nsIn K mainGlobals "LONGEST_NAME"=some (some u_LONGEST_NAME))
 (r_LONGEST_NAME:Ai (.int 6) u_LONGEST_NAME)
 (g_LAST_ROW:PySem.W.nsIn K mainGlobals "LAST_ROW"=some (some u_LAST_ROW))
 (r_LAST_ROW:Ai (.int 16) u_LAST_ROW)
 (g_LAST_COLUMN:PySem.W.nsIn K mainGlobals "LAST_COLUMN"=some (some u_LAST_COLUMN))
 (r_LAST_COLUMN:Ai (.int 8) u_LAST_COLUMN)
 (g_SIGNS:PySem.W.nsIn K mainGlobals "SIGNS"=some (some u_SIGNS))
 (r_SIGNS:Ai (.str (Str.ofString "abcdefghijklmnopqrstuvwxyz0123456789 ")) u_SIGNS)
 (g_FAULTS:PySem.W.nsIn K mainGlobals "FAULTS"=some (some (.ref w_FAULTS)))
 (h_FAULTS:K.lookup w_FAULTS=some o_FAULTS)
 (r_FAULTS:o_FAULTS.cls=.type "tuple"∧∃ its n,o_FAULTS.data=.seq its n∧its.size≤sizeLine∧Am (ER.map V.str) its.toList)
 (g_MOST_SIGNS:PySem.W.nsIn K mainGlobals "MOST_SIGNS"=some (some u_MOST_SIGNS))
 (r_MOST_SIGNS:Ai (.int 20) u_MOST_SIGNS)
 (g_GREATEST_WHOLE:PySem.W.nsIn K mainGlobals "GREATEST_WHOLE"=some (some u_GREATEST_WHOLE))
 (r_GREATEST_WHOLE:Ai (.int 999999999999999999999999999999) u_GREATEST_WHOLE)
 (g_MOST_PARTS:PySem.W.nsIn K mainGlobals "MOST_PARTS"=some (some u_MOST_PARTS))
 (r_MOST_PARTS:Ai (.int 24) u_MOST_PARTS)
 (g_MOST_DEEP:PySem.W.nsIn K mainGlobals "MOST_DEEP"=some (some u_MOST_DEEP))
 (r_MOST_DEEP:Ai (.int 8) u_MOST_DEEP)
 (g_MOST_OWN_PARTS:PySem.W.nsIn K mainGlobals "MOST_OWN_PARTS"=some (some u_MOST_OWN_PARTS))
 (r_MOST_OWN_PARTS:Ai (.int 3) u_MOST_OWN_PARTS)
 (g_MOST_PARAMS:PySem.W.nsIn K mainGlobals "MOST_PARAMS"=some (some u_MOST_PARAMS))
 (r_MOST_PARAMS:Ai (.int 3) u_MOST_PARAMS)
 (g_GREATEST_WRITTEN:PySem.W.nsIn K mainGlobals "GREATEST_WRITTEN"=some (some u_GREATEST_WRITTEN))
 (r_GREATEST_WRITTEN:Ai (.int 999999999) u_GREATEST_WRITTEN)
 (g_WORDS:PySem.W.nsIn K mainGlobals "WORDS"=some (some (.ref w_WORDS)))
 (h_WORDS:K.lookup w_WORDS=some o_WORDS)
 (r_WORDS:o_WORDS.cls=.type "tuple"∧∃ its n,o_WORDS.data=.seq its n∧its.size≤sizeLine∧Am Sk its.toList)
 (g_OP_SIGNS:PySem.W.nsIn K mainGlobals "OP_SIGNS"=some (some (.ref w_OP_SIGNS)))
 (h_OP_SIGNS:K.lookup w_OP_SIGNS=some o_OP_SIGNS)
 (r_OP_SIGNS:o_OP_SIGNS.cls=.type "tuple"∧∃ its n,o_OP_SIGNS.data=.seq its n∧its.size≤sizeLine∧Am T3 its.toList)
 (g_SUMIF_SIGNS:PySem.W.nsIn K mainGlobals "SUMIF_SIGNS"=some (some (.ref w_SUMIF_SIGNS)))
 (h_SUMIF_SIGNS:K.lookup w_SUMIF_SIGNS=some o_SUMIF_SIGNS)
 (r_SUMIF_SIGNS:o_SUMIF_SIGNS.cls=.type "tuple"∧∃ its n,o_SUMIF_SIGNS.data=.seq its n∧its.size≤sizeLine∧Am Ub its.toList)
 (g_LENGTHS:PySem.W.nsIn K mainGlobals "LENGTHS"=some (some (.ref w_LENGTHS)))
 (h_LENGTHS:K.lookup w_LENGTHS=some o_LENGTHS)
 (r_LENGTHS:TV w o_LENGTHS Ob)
 (n_LENGTHS:(w_LENGTHS==sysModules)=false)
 (g_PART_PLACES:PySem.W.nsIn K mainGlobals "PART_PLACES"=some (some (.ref w_PART_PLACES)))
 (h_PART_PLACES:K.lookup w_PART_PLACES=some o_PART_PLACES)
 (r_PART_PLACES:∃ kvs,TV w o_PART_PLACES kvs∧Paired (fun(kv:A9×V) (kt:A9×List V)=>kv.1=kt.1∧∃ a,kv.2=.ref a∧∀ H,Ae K H a kt.2) kvs WY)
 (n_PART_PLACES:(w_PART_PLACES==sysModules)=false)
 (g_MOST_OPENED:PySem.W.nsIn K mainGlobals "MOST_OPENED"=some (some u_MOST_OPENED))
 (r_MOST_OPENED:Ai (.int 200) u_MOST_OPENED)
 (g_MOST_SHEETS:PySem.W.nsIn K mainGlobals "MOST_SHEETS"=some (some u_MOST_SHEETS))
 (r_MOST_SHEETS:Ai (.int 4) u_MOST_SHEETS)
 (g_MOST_CELLS:PySem.W.nsIn K mainGlobals "MOST_CELLS"=some (some u_MOST_CELLS))
 (r_MOST_CELLS:Ai (.int 60) u_MOST_CELLS)
 (g_MOST_NAMES:PySem.W.nsIn K mainGlobals "MOST_NAMES"=some (some u_MOST_NAMES))
 (r_MOST_NAMES:Ai (.int 8) u_MOST_NAMES)
 (g_MOST_OWNS:PySem.W.nsIn K mainGlobals "MOST_OWNS"=some (some u_MOST_OWNS))
 (r_MOST_OWNS:Ai (.int 6) u_MOST_OWNS)
 (g_MOST_ROUNDS:PySem.W.nsIn K mainGlobals "MOST_ROUNDS"=some (some u_MOST_ROUNDS))
 (r_MOST_ROUNDS:Ai (.int 4) u_MOST_ROUNDS)
 (ki_NoneType_int:PySem.W.kitOne K (.type "NoneType") (.type "int")=some false)
 (ki_NoneType_bool:PySem.W.kitOne K (.type "NoneType") (.type "bool")=some false)
 (ki_NoneType_str:PySem.W.kitOne K (.type "NoneType") (.type "str")=some false)
 (ki_NoneType_tuple:PySem.W.kitOne K (.type "NoneType") (.type "tuple")=some false)
 (ki_bool_int:PySem.W.kitOne K (.type "bool") (.type "int")=some true)
 (ki_bool_bool:PySem.W.kitOne K (.type "bool") (.type "bool")=some true)
 (ki_bool_str:PySem.W.kitOne K (.type "bool") (.type "str")=some false)
 (ki_bool_tuple:PySem.W.kitOne K (.type "bool") (.type "tuple")=some false)
 (ki_int_int:PySem.W.kitOne K (.type "int") (.type "int")=some true)
 (ki_int_bool:PySem.W.kitOne K (.type "int") (.type "bool")=some false)
 (ki_int_str:PySem.W.kitOne K (.type "int") (.type "str")=some false)
 (ki_int_tuple:PySem.W.kitOne K (.type "int") (.type "tuple")=some false)
 (ki_str_int:PySem.W.kitOne K (.type "str") (.type "int")=some false)
 (ki_str_bool:PySem.W.kitOne K (.type "str") (.type "bool")=some false)
 (ki_str_str:PySem.W.kitOne K (.type "str") (.type "str")=some true)
 (ki_str_tuple:PySem.W.kitOne K (.type "str") (.type "tuple")=some false)
 (ki_list_int:PySem.W.kitOne K (.type "list") (.type "int")=some false)
 (ki_list_bool:PySem.W.kitOne K (.type "list") (.type "bool")=some false)
 (ki_list_str:PySem.W.kitOne K (.type "list") (.type "str")=some false)
 (ki_list_tuple:PySem.W.kitOne K (.type "list") (.type "tuple")=some false)
 (ki_dict_int:PySem.W.kitOne K (.type "dict") (.type "int")=some false)
 (ki_dict_bool:PySem.W.kitOne K (.type "dict") (.type "bool")=some false)
 (ki_dict_str:PySem.W.kitOne K (.type "dict") (.type "str")=some false)
 (ki_dict_tuple:PySem.W.kitOne K (.type "dict") (.type "tuple")=some false)
 (ki_tuple_int:PySem.W.kitOne K (.type "tuple") (.type "int")=some false)
 (ki_tuple_bool:PySem.W.kitOne K (.type "tuple") (.type "bool")=some false)
 (ki_tuple_str:PySem.W.kitOne K (.type "tuple") (.type "str")=some false)
 (ki_tuple_tuple:PySem.W.kitOne K (.type "tuple") (.type "tuple")=some true)
 (kist:PySem.W.kitOne K (.type "str") (.type "tuple")=some false)
 (kiit:PySem.W.kitOne K (.type "int") (.type "tuple")=some false)
 (kib:PySem.W.kitOne K (.type "int") (.type "bool")=some false)
 (t_sorted_by_first:PySem.W.tabIn K "sorted_by_first"=some (cc_sorted_by_first,pp_sorted_by_first)) (rr_sorted_by_first:(PyProof.Rows.recsOf q).any (fun e=>e.name == "sorted_by_first")=true):
 ∃(fd:FuncData) (tabs:List (Addr×Addr)) (sp:Sp),(∀(s:Shared) (v:Value),BindsTo s fd ⟨[v],[]⟩ [("_law_script",v)])∧PySem.W.TabsAt tabs h∧(∀(H:Hp) (a:Addr) (ns:List Int),ns.length≤63→(∀ q∈tabs,H q.2=some (.tbl #[]))→At K H a (ns.map V.int)→sp [.ref a] H (fun v _=>v=.bl true) E0)∧∀ base:Heap,K.In base→base.Ns mainGlobals mg→(∀ q∈tabs,PySem.W.CodeHd base q.1 q.2)→BM mg base→Ao l.prog w K mg base Bc 100 fa fd ["_law_script"] sp:=by
 have G:=T0.g
 refine VW fun X_ hX_=>?_
 obtain⟨f0,d0,D0,_⟩:=Ap X G C0 ["thing"] fun _ _ _ _ _ _ _=>rfl
 obtain⟨f1,d1,D1,_⟩:=Ap X G C1 ["one","other"] fun _ _ _ _ _ _ _ _=>rfl
 obtain⟨f2,d2,D2,_⟩:=Ap X G C2 ["top","bottom"] fun _ _ _ _ _ _ _ _=>rfl
 obtain⟨f3,d3,D3,_⟩:=Ap X G C3 ["thing"] fun _ _ _ _ _ _ _=>rfl
 obtain⟨f4,d4,D4,_⟩:=Ap X G C4 ["thing","last"] fun _ _ _ _ _ _ _ _=>rfl
 obtain⟨f5,d5,D5,_⟩:=Ap X G C5 ["thing"] fun _ _ _ _ _ _ _=>rfl
 obtain⟨f6,d6,D6,_⟩:=Ap X G C6 ["thing"] fun _ _ _ _ _ _ _=>rfl
 obtain⟨f7,d7,D7,_⟩:=Ap X G C7 ["top","bottom"] fun _ _ _ _ _ _ _ _=>rfl
 obtain⟨f8,d8,D8,_⟩:=Ap X G C8 ["thing"] fun _ _ _ _ _ _ _=>rfl
 obtain⟨f9,d9,D9,_⟩:=Ap X G C9 ["thing"] fun _ _ _ _ _ _ _=>rfl
 obtain⟨f10,d10,D10,_⟩:=Ap X G C10 ["thing"] fun _ _ _ _ _ _ _=>rfl
 obtain⟨f11,d11,D11,_⟩:=Ap X G C11 ["formula"] fun _ _ _ _ _ _ _=>rfl
 obtain⟨f12,d12,D12,_⟩:=Ap X G C12 ["formula","parts"] fun _ _ _ _ _ _ _ _=>rfl
 obtain⟨f13,d13,D13,_⟩:=Ap X G C13 ["formula"] fun _ _ _ _ _ _ _=>rfl
 obtain⟨f14,d14,D14,_⟩:=Ap X G C14 ["formula"] fun _ _ _ _ _ _ _=>rfl
 obtain⟨f15,d15,D15,_⟩:=Ap X G C15 ["thing"] fun _ _ _ _ _ _ _=>rfl
 obtain⟨f16,d16,D16,_⟩:=Ap X G C16 ["thing","texts"] fun _ _ _ _ _ _ _ _=>rfl
 obtain⟨f17,d17,D17,_⟩:=Ap X G C17 ["thing"] fun _ _ _ _ _ _ _=>rfl
 obtain⟨f18,d18,D18,_⟩:=Ap X G C18 ["thing"] fun _ _ _ _ _ _ _=>rfl
 obtain⟨f19,d19,D19,_⟩:=Ap X G C19 ["thing"] fun _ _ _ _ _ _ _=>rfl
 obtain⟨f20,d20,D20,_⟩:=Ap X G C20 ["thing"] fun _ _ _ _ _ _ _=>rfl
 obtain⟨f21,d21,D21,_⟩:=Ap X G C21 ["thing"] fun _ _ _ _ _ _ _=>rfl
 obtain⟨f22,d22,D22,_⟩:=Ap X G C22 ["thing"] fun _ _ _ _ _ _ _=>rfl
 obtain⟨f23,d23,D23,_⟩:=Ap X G C23 ["thing","params"] fun _ _ _ _ _ _ _ _=>rfl
 obtain⟨f24,d24,D24,_⟩:=Ap X G C24 ["thing","params"] fun _ _ _ _ _ _ _ _=>rfl
 obtain⟨f25,d25,D25,_⟩:=Ap X G C25 ["thing","params","deep"] fun _ _ _ _ _ _ _ _ _=>rfl
 obtain⟨f26,d26,D26,_⟩:=Ap X G C26 ["thing","params"] fun _ _ _ _ _ _ _ _=>rfl
 obtain⟨f27,d27,D27,_⟩:=Ap X G C27 ["thing","sheets"] fun _ _ _ _ _ _ _ _=>rfl
 obtain⟨f28,d28,D28,_⟩:=Ap X G C28 ["thing","most"] fun _ _ _ _ _ _ _ _=>rfl
 obtain⟨f29,d29,D29,_⟩:=Ap X G C29 ["thing"] fun _ _ _ _ _ _ _=>rfl
 obtain⟨f30,d30,D30,_⟩:=Ap X G C30 ["thing","most"] fun _ _ _ _ _ _ _ _=>rfl
 obtain⟨f31,d31,D31,_⟩:=Ap X G C31 ["thing","many"] fun _ _ _ _ _ _ _ _=>rfl
 obtain⟨f32,d32,D32,_⟩:=Ap X G C32 ["formula"] fun _ _ _ _ _ _ _=>rfl
 obtain⟨f33,d33,D33,_⟩:=Ap X G C33 ["thing","params"] fun _ _ _ _ _ _ _ _=>rfl
 obtain⟨f34,d34,D34,_⟩:=Ap X G C34 ["thing"] fun _ _ _ _ _ _ _=>rfl
 obtain⟨f35,d35,D35,_⟩:=Ap X G C35 ["thing"] fun _ _ _ _ _ _ _=>rfl
 obtain⟨f36,d36,D36,_⟩:=Ap X G C36 ["pairs"] fun _ _ _ _ _ _ _=>rfl
 obtain⟨f37,d37,D37,_⟩:=Ap X G C37 ["thing","sheets"] fun _ _ _ _ _ _ _ _=>rfl
 obtain⟨f38,d38,D38,_⟩:=Ap X G C38 ["thing"] fun _ _ _ _ _ _ _=>rfl
 obtain⟨f39,d39,D39,_⟩:=Ap X G C39 ["thing"] fun _ _ _ _ _ _ _=>rfl
 obtain⟨f40,d40,D40,_,E40⟩:=Ap X G C40 ["pairs"] fun _ _ _ _ _ _ _=>rfl
 obtain⟨f41,d41,D41,_⟩:=Ap X G C41 ["sheets","cells","names","owns","rounds"] fun _ _ _ _ _ _ _ _ _ _ _=>rfl
 obtain⟨f42,d42,D42,_⟩:=Ap X G C42 ["book"] fun _ _ _ _ _ _ _=>rfl
 obtain⟨f43,d43,D43,_⟩:=Ap X G C43 ["sheet","first","last"] fun _ _ _ _ _ _ _ _ _=>rfl
 obtain⟨f44,d44,D44,A44,I44,K44⟩:=FK C44 ["self","book","sheet"] fun _ _ _ _ _ _ _ _ _=>rfl
 obtain⟨f45,d45,D45,A45,I45,K45⟩:=FK C45 ["self","formula"] fun _ _ _ _ _ _ _ _=>rfl
 obtain⟨f46,d46,D46,A46,I46,K46⟩:=FK C46 ["self","formula"] fun _ _ _ _ _ _ _ _=>rfl
 obtain⟨f47,d47,D47,A47,I47,K47⟩:=FK C47 ["self","row","parts","within"] fun _ _ _ _ _ _ _ _ _ _=>rfl
 obtain⟨f48,d48,D48,A48,I48,K48⟩:=FK C48 ["self","key","within"] fun _ _ _ _ _ _ _ _ _=>rfl
 obtain⟨f49,d49,D49,A49,I49,K49⟩:=FK C49 ["self","formula","within"] fun _ _ _ _ _ _ _ _ _=>rfl
 obtain⟨f50,d50,D50,A50,I50,K50⟩:=FK C50 ["self","formula","within"] fun _ _ _ _ _ _ _ _ _=>rfl
 obtain⟨f51,d51,D51,_⟩:=Ap X G C51 ["row","tell_one"] fun _ _ _ _ _ _ _ _=>rfl
 obtain⟨f52,d52,D52,A52,I52,K52⟩:=FK C52 ["self","formula"] fun _ _ _ _ _ _ _ _=>rfl
 obtain⟨f53,d53,D53,_⟩:=Ap X G C53 ["book","sheet","formula"] fun _ _ _ _ _ _ _ _ _=>rfl
 obtain⟨f54,d54,D54,_⟩:=Ap X G C54 ["_law_script"] fun _ _ _ _ _ _ _=>rfl
 obtain⟨f55,d55,D55,_⟩:=Ap X G C55 ["_law_pen_here","_law_many"] fun _ _ _ _ _ _ _ _=>rfl
 obtain⟨f56,d56,D56,_⟩:=Ap X G C56 ["_law_many","_law_lost"] fun _ _ _ _ _ _ _ _=>rfl
 obtain⟨f57,d57,D57,_⟩:=Ap X G C57 ["_law_tree_here"] fun _ _ _ _ _ _ _=>rfl
 obtain⟨f58,d58,D58,_⟩:=Ap X G C58 ["_law_ways"] fun _ _ _ _ _ _ _=>rfl
 obtain⟨f59,d59,D59,_⟩:=Ap X G C59 ["_law_ways","_law_own"] fun _ _ _ _ _ _ _ _=>rfl
 obtain⟨f60,d60,D60,_⟩:=Ap X G C60 ["_law_book","_law_formula","_law_due"] fun _ _ _ _ _ _ _ _ _=>rfl
 obtain⟨f61,d61,D61,BL,E61⟩:=Ap X G C61 ["_law_script"] fun _ _ _ _ _ _ _=>rfl
 have e:=hfa.symm.trans D61.gl
 cases e
 have T:Txt w K mg ⟨f0,d0,f1,d1,f2,d2,f3,d3,f4,d4,f5,d5,f6,d6,f7,d7,f8,d8,f9,d9,f10,d10,f11,d11,f12,d12,f13,d13,f14,d14,f15,d15,f16,d16,f17,d17,f18,d18,f19,d19,f20,d20,f21,d21,f22,d22,f23,d23,f24,d24,f25,d25,f26,d26,f27,d27,f28,d28,f29,d29,f30,d30,f31,d31,f32,d32,f33,d33,f34,d34,f35,d35,f36,d36,f37,d37,f38,d38,f39,d39,f40,d40,f41,d41,f42,d42,f43,d43,f44,d44,f45,d45,f46,d46,f47,d47,f48,d48,f49,d49,f50,d50,f51,d51,f52,d52,f53,d53,f54,d54,f55,d55,f56,d56,f57,d57,f58,d58,f59,d59,f60,d60,_,_,e_Opener,cc_sorted_by_first,pp_sorted_by_first⟩:=⟨D0,D1,D2,D3,D4,D5,D6,D7,D8,D9,D10,D11,D12,D13,D14,D15,D16,D17,D18,D19,D20,D21,D22,D23,D24,D25,D26,D27,D28,D29,D30,D31,D32,D33,D34,D35,D36,D37,D38,D39,D40,D41,D42,D43,D44,D45,D46,D47,D48,D49,D50,D51,D52,D53,D54,D55,D56,D57,D58,D59,D60,D61,PySem.W.mg_none_of X G z_len,PySem.W.mg_none_of X G z_range,PySem.W.mg_none_of X G z_isinstance,PySem.W.mg_none_of X G z_int,PySem.W.mg_none_of X G z_bool,PySem.W.mg_none_of X G z_str,PySem.W.mg_none_of X G z_tuple,PySem.W.mg_none_of X G z_list,PySem.W.mg_none_of X G z_all,PySem.W.mg_none_of X G z_zip,PySem.W.mg_none_of X G z_min,PySem.W.mg_none_of X G z_sorted,PySem.W.mg_none_of X G z_set,PySem.W.mg_none_of X G z_abs,PySem.W.mg_none_of X G z_reversed,PySem.W.mg_none_of X G z_sum,PySem.W.mg_of X G q_Opener,⟨_,PySem.W.mg_of X G g_LETTERS,r_LETTERS⟩,⟨_,PySem.W.mg_of X G g_LONGEST_NAME,r_LONGEST_NAME⟩,⟨_,PySem.W.mg_of X G g_LAST_ROW,r_LAST_ROW⟩,⟨_,PySem.W.mg_of X G g_LAST_COLUMN,r_LAST_COLUMN⟩,⟨_,PySem.W.mg_of X G g_SIGNS,r_SIGNS⟩,⟨_,_,PySem.W.mg_of X G g_FAULTS,h_FAULTS,r_FAULTS⟩,⟨_,PySem.W.mg_of X G g_MOST_SIGNS,r_MOST_SIGNS⟩,⟨_,PySem.W.mg_of X G g_GREATEST_WHOLE,r_GREATEST_WHOLE⟩,⟨_,PySem.W.mg_of X G g_MOST_PARTS,r_MOST_PARTS⟩,⟨_,PySem.W.mg_of X G g_MOST_DEEP,r_MOST_DEEP⟩,⟨_,PySem.W.mg_of X G g_MOST_OWN_PARTS,r_MOST_OWN_PARTS⟩,⟨_,PySem.W.mg_of X G g_MOST_PARAMS,r_MOST_PARAMS⟩,⟨_,PySem.W.mg_of X G g_GREATEST_WRITTEN,r_GREATEST_WRITTEN⟩,⟨_,_,PySem.W.mg_of X G g_WORDS,h_WORDS,r_WORDS⟩,⟨_,_,PySem.W.mg_of X G g_OP_SIGNS,h_OP_SIGNS,r_OP_SIGNS⟩,⟨_,_,PySem.W.mg_of X G g_SUMIF_SIGNS,h_SUMIF_SIGNS,r_SUMIF_SIGNS⟩,⟨_,PySem.W.mg_of X G g_LENGTHS,_,h_LENGTHS,r_LENGTHS,n_LENGTHS⟩,(let ⟨k,d,p⟩:=r_PART_PLACES;⟨k,⟨_,PySem.W.mg_of X G g_PART_PLACES,_,h_PART_PLACES,d,n_PART_PLACES⟩,p⟩),⟨_,PySem.W.mg_of X G g_MOST_OPENED,r_MOST_OPENED⟩,⟨_,PySem.W.mg_of X G g_MOST_SHEETS,r_MOST_SHEETS⟩,⟨_,PySem.W.mg_of X G g_MOST_CELLS,r_MOST_CELLS⟩,⟨_,PySem.W.mg_of X G g_MOST_NAMES,r_MOST_NAMES⟩,⟨_,PySem.W.mg_of X G g_MOST_OWNS,r_MOST_OWNS⟩,⟨_,PySem.W.mg_of X G g_MOST_ROUNDS,r_MOST_ROUNDS⟩,ki_NoneType_int,ki_NoneType_bool,ki_NoneType_str,ki_NoneType_tuple,ki_bool_int,ki_bool_bool,ki_bool_str,ki_bool_tuple,ki_int_int,ki_int_bool,ki_int_str,ki_int_tuple,ki_str_int,ki_str_bool,ki_str_str,ki_str_tuple,ki_list_int,ki_list_bool,ki_list_str,ki_list_tuple,ki_dict_int,ki_dict_bool,ki_dict_str,ki_dict_tuple,ki_tuple_int,ki_tuple_bool,ki_tuple_str,ki_tuple_tuple,kist,kiit,kib,E40 _ _ t_sorted_by_first,⟨A45,I45,K45⟩,⟨A46,I46,K46⟩,⟨A47,I47,K47⟩,⟨A48,I48,K48⟩,⟨A49,I49,K49⟩,⟨A50,I50,K50⟩,⟨A52,I52,K52⟩,⟨k1_Opener,k2_Opener,k3_Opener,k4_Opener⟩,⟨k5_Opener,A44,I44,k6_Opener⟩,nf_Opener_sheet,nf_Opener_sheets,nf_Opener_called,nf_Opener_known_rows⟩
 refine hX_ ?_
 have x_sorted_by_first:PySem.W.CodeHd h cc_sorted_by_first pp_sorted_by_first∧h.get? pp_sorted_by_first=some (PySem.W.tabObj #[]):=by
  obtain⟨d,hd⟩:=Td rr_sorted_by_first
  exact PySem.W.tab_of T0 X hd t_sorted_by_first
 refine⟨_,[(cc_sorted_by_first,pp_sorted_by_first)],Qd K pp_sorted_by_first,fun s v=>.of_eq (BL [v] rfl),(List.forall_mem_cons.mpr ⟨x_sorted_by_first,List.forall_mem_nil _⟩),fun H a ns hl hT hS=>⟨a,ns,rfl,hS,hl,hT (cc_sorted_by_first,pp_sorted_by_first) (by simp),fun _=>rfl⟩,fun base _ _ hC hB=>UU T hC hB⟩
theorem Xf {l:PySem.W.OpenLaw}{q:Program}{loose:List Str}{XP:(Str→Option Value)→Heap→Prop}{YP:World→Heap→Prop}{d:DefRec}{K:Params→PySem.W.Frag}(hn:l.most=some 63)(hdf:d.params.defaults=[])
 (hY:∀(w:World) (h:Heap),YP w h→(K w.params).In h) (hKT:∀ w:World,PySem.W.noTabs (K w.params)=true)
 (F:∀(w:World) (mean:ExcName→Option Value) (mg mb:Str→Option Value) (fa:Addr) (h:Heap),(K w.params).In h→PyProof.Rows.Top q (PySem.W.looseW q loose) mean mg mb h→mg d.name=some (.ref fa)→
  ∃(fd:FuncData) (tabs:List (Addr×Addr)) (sp:Sp),(∀(s:Shared) (v:Value),BindsTo s fd ⟨[v],[]⟩ [("_law_script",v)])∧PySem.W.TabsAt tabs h∧(∀(H:Hp) (a:Addr) (ns:List Int),ns.length≤63→(∀ q∈tabs,H q.2=some (.tbl #[]))→At (K w.params) H a (ns.map V.int)→sp [.ref a] H (fun v _=>v=.bl true) E0)∧∀ base:Heap,(K w.params).In base→base.Ns mainGlobals mg→(∀ q∈tabs,PySem.W.CodeHd base q.1 q.2)→BM mg base→Ao l.prog w (K w.params) mg base Bc 100 fa fd ["_law_script"] sp):
 PySem.W.WalkO q loose XP YP l.row.toRowW d [] (fun f vs=>PySem.call f vs):=
 L2.Ps (n:=63) (k:=100) (x:="_law_script") hn (by decide) hdf ⟨rfl,by decide,by decide⟩ hY hKT F
end Fs
open PySem PySem.W PyProof.Rows
set_option maxRecDepth 100000 in
set_option maxHeartbeats 0 in
theorem PySem.Challenge.cw_freshsheet_k23_two_hundred_parts_holds : PySem.Challenge.rw_freshsheet_k23_two_hundred_parts.Holds := by
 w_on;o_law
 refine holds_open (r:=OpenLaw.row PySem.Challenge.rw_freshsheet_k23_two_hundred_parts) (q:=Hw.qv) (loose:=Hw.lo) (Xt:=Hw.Xv) (XP:=XL Hw.qv []) (Yf:=Hook.obs (kHook Hw.pack.heap_1 Hw.hAs Hw.hAs_eq)) (Ya:=Hook.val (kHook Hw.pack.heap_1 Hw.hAs Hw.hAs_eq)) (YP:=Hook.says (kHook Hw.pack.heap_1 Hw.hAs Hw.hAs_eq)) (N:=Hw.N0) Hw.left (Hook.of (kHook Hw.pack.heap_1 Hw.hAs Hw.hAs_eq)) (Hook.keeps (kHook Hw.pack.heap_1 Hw.hAs Hw.hAs_eq)) (fun s e=>xl_of s (Bool.and_eq_true_iff.mp e).1) XL.keeps (by rfl) (by rfl) (by rfl) (fun s e=>recFacts_of (Bool.and_eq_true_iff.mp e).2) (by rfl) (by first | assumption | decide +kernel) (by decide +kernel) ⟨rfl,rfl,rfl,rfl,rfl,by decide +kernel⟩ ?hw ?hc
 case hw=>w_witness2
 k_fill
 refine Fs.Xf (l:=PySem.Challenge.rw_freshsheet_k23_two_hundred_parts) rfl rfl (fun w h Y=>PySem.W.kIn_of Y) (fun w=>by kernel_rfl) ?F
 case F=>
  intro w mean mg mb fa h KX T0 hmg
  apply Fs.UW KX T0 hmg
  iterate 54 (apply Fs.WP;k_is;k_is;k_is;k_is)
  (case z_len=>k_is)
  (case z_range=>k_is)
  (case z_isinstance=>k_is)
  (case z_int=>k_is)
  (case z_bool=>k_is)
  (case z_str=>k_is)
  (case z_tuple=>k_is)
  (case z_list=>k_is)
  (case z_all=>k_is)
  (case z_zip=>k_is)
  (case z_min=>k_is)
  (case z_sorted=>k_is)
  (case z_set=>k_is)
  (case z_abs=>k_is)
  (case z_reversed=>k_is)
  (case z_sum=>k_is)
  (case q_Opener=>k_is)
  iterate 8 (apply Fs.UV;k_is;k_is;k_is;k_is;k_is)
  (case k1_Opener=>k_is)
  (case k2_Opener=>k_is)
  (case k3_Opener=>k_is)
  (case k4_Opener=>k_is)
  (case k5_Opener=>k_is)
  (case k6_Opener=>k_is)
  (case nf_Opener_sheet=>k_is)
  (case nf_Opener_sheets=>k_is)
  (case nf_Opener_called=>k_is)
  (case nf_Opener_known_rows=>k_is)
  (case g_LETTERS=>k_is)
  (case r_LETTERS=>first | exact⟨_,rfl⟩ | exact⟨_,by decide +kernel⟩)
  (case g_LONGEST_NAME=>k_is)
  (case r_LONGEST_NAME=>first | exact⟨_,rfl⟩ | exact⟨_,by decide +kernel⟩)
  (case g_LAST_ROW=>k_is)
  (case r_LAST_ROW=>first | exact⟨_,rfl⟩ | exact⟨_,by decide +kernel⟩)
  (case g_LAST_COLUMN=>k_is)
  (case r_LAST_COLUMN=>first | exact⟨_,rfl⟩ | exact⟨_,by decide +kernel⟩)
  (case g_SIGNS=>k_is)
  (case r_SIGNS=>first | exact⟨_,rfl⟩ | exact⟨_,by decide +kernel⟩)
  (case g_FAULTS=>k_is)
  (case h_FAULTS=>k_is)
  (case r_FAULTS=>exact⟨rfl,_,_,rfl,by decide,.cons ⟨_,rfl⟩ (.cons ⟨_,rfl⟩ (.cons ⟨_,rfl⟩ (.cons ⟨_,rfl⟩ (.cons ⟨_,rfl⟩ (.cons ⟨_,rfl⟩ (.cons ⟨_,rfl⟩ (.cons ⟨_,rfl⟩ (.cons ⟨_,rfl⟩ (.nil)))))))))⟩)
  (case g_MOST_SIGNS=>k_is)
  (case r_MOST_SIGNS=>first | exact⟨_,rfl⟩ | exact⟨_,by decide +kernel⟩)
  (case g_GREATEST_WHOLE=>k_is)
  (case r_GREATEST_WHOLE=>first | exact⟨_,rfl⟩ | exact⟨_,by decide +kernel⟩)
  (case g_MOST_PARTS=>k_is)
  (case r_MOST_PARTS=>first | exact⟨_,rfl⟩ | exact⟨_,by decide +kernel⟩)
  (case g_MOST_DEEP=>k_is)
  (case r_MOST_DEEP=>first | exact⟨_,rfl⟩ | exact⟨_,by decide +kernel⟩)
  (case g_MOST_OWN_PARTS=>k_is)
  (case r_MOST_OWN_PARTS=>first | exact⟨_,rfl⟩ | exact⟨_,by decide +kernel⟩)
  (case g_MOST_PARAMS=>k_is)
  (case r_MOST_PARAMS=>first | exact⟨_,rfl⟩ | exact⟨_,by decide +kernel⟩)
  (case g_GREATEST_WRITTEN=>k_is)
  (case r_GREATEST_WRITTEN=>first | exact⟨_,rfl⟩ | exact⟨_,by decide +kernel⟩)
  (case g_WORDS=>k_is)
  (case h_WORDS=>k_is)
  (case r_WORDS=>exact⟨rfl,_,_,rfl,by decide,.cons ⟨_,rfl⟩ (.cons ⟨_,rfl⟩ (.cons ⟨_,rfl⟩ (.cons ⟨_,rfl⟩ (.cons ⟨_,rfl⟩ (.cons ⟨_,rfl⟩ (.cons ⟨_,rfl⟩ (.cons ⟨_,rfl⟩ (.cons ⟨_,rfl⟩ (.cons ⟨_,rfl⟩ (.cons ⟨_,rfl⟩ (.cons ⟨_,rfl⟩ (.cons ⟨_,rfl⟩ (.nil)))))))))))))⟩)
  (case g_OP_SIGNS=>k_is)
  (case h_OP_SIGNS=>k_is)
  (case r_OP_SIGNS=>exact⟨rfl,_,_,rfl,by decide,.cons ⟨_,rfl⟩ (.cons ⟨_,rfl⟩ (.cons ⟨_,rfl⟩ (.cons ⟨_,rfl⟩ (.cons ⟨_,rfl⟩ (.cons ⟨_,rfl⟩ (.cons ⟨_,rfl⟩ (.nil)))))))⟩)
  (case g_SUMIF_SIGNS=>k_is)
  (case h_SUMIF_SIGNS=>k_is)
  (case r_SUMIF_SIGNS=>exact⟨rfl,_,_,rfl,by decide,.cons ⟨_,rfl⟩ (.cons ⟨_,rfl⟩ (.nil))⟩)
  (case g_LENGTHS=>k_is)
  (case h_LENGTHS=>k_is)
  (case r_LENGTHS=>exact⟨⟨rfl,rfl,rfl⟩,_,_,rfl,.cons ⟨rfl,rfl,⟨_,rfl⟩⟩ (.cons ⟨rfl,rfl,⟨_,rfl⟩⟩ (.cons ⟨rfl,rfl,⟨_,rfl⟩⟩ (.cons ⟨rfl,rfl,⟨_,rfl⟩⟩ (.cons ⟨rfl,rfl,⟨_,rfl⟩⟩ (.cons ⟨rfl,rfl,⟨_,rfl⟩⟩ (.cons ⟨rfl,rfl,⟨_,rfl⟩⟩ (.cons ⟨rfl,rfl,⟨_,rfl⟩⟩ (.cons ⟨rfl,rfl,⟨_,rfl⟩⟩ (.cons ⟨rfl,rfl,⟨_,rfl⟩⟩ (.cons ⟨rfl,rfl,⟨_,rfl⟩⟩ (.cons ⟨rfl,rfl,⟨_,rfl⟩⟩ (.cons ⟨rfl,rfl,⟨_,rfl⟩⟩ (.cons ⟨rfl,rfl,⟨_,rfl⟩⟩ (.cons ⟨rfl,rfl,⟨_,rfl⟩⟩ (.cons ⟨rfl,rfl,⟨_,rfl⟩⟩ (.cons ⟨rfl,rfl,⟨_,rfl⟩⟩ (.cons ⟨rfl,rfl,⟨_,rfl⟩⟩ (.cons ⟨rfl,rfl,⟨_,rfl⟩⟩ (.cons ⟨rfl,rfl,⟨_,rfl⟩⟩ (.cons ⟨rfl,rfl,⟨_,rfl⟩⟩ (.nil))))))))))))))))))))),by decide⟩)
  (case n_LENGTHS=>decide)
  (case g_PART_PLACES=>k_is)
  (case h_PART_PLACES=>k_is)
  (case r_PART_PLACES=>exact⟨[(Sum.inr (Str.ofString "op"),L2.V.ref _),(Sum.inr (Str.ofString "neg"),L2.V.ref _),(Sum.inr (Str.ofString "if"),L2.V.ref _),(Sum.inr (Str.ofString "sum"),L2.V.ref _),(Sum.inr (Str.ofString "count"),L2.V.ref _),(Sum.inr (Str.ofString "least"),L2.V.ref _),(Sum.inr (Str.ofString "most"),L2.V.ref _),(Sum.inr (Str.ofString "sumif"),L2.V.ref _),(Sum.inr (Str.ofString "find"),L2.V.ref _),(Sum.inr (Str.ofString "turn"),L2.V.ref _),(Sum.inr (Str.ofString "stack"),L2.V.ref _),(Sum.inr (Str.ofString "grid"),L2.V.ref _),(Sum.inr (Str.ofString "outer"),L2.V.ref _)],⟨⟨rfl,rfl,rfl⟩,_,_,rfl,.cons ⟨rfl,rfl,rfl⟩ (.cons ⟨rfl,rfl,rfl⟩ (.cons ⟨rfl,rfl,rfl⟩ (.cons ⟨rfl,rfl,rfl⟩ (.cons ⟨rfl,rfl,rfl⟩ (.cons ⟨rfl,rfl,rfl⟩ (.cons ⟨rfl,rfl,rfl⟩ (.cons ⟨rfl,rfl,rfl⟩ (.cons ⟨rfl,rfl,rfl⟩ (.cons ⟨rfl,rfl,rfl⟩ (.cons ⟨rfl,rfl,rfl⟩ (.cons ⟨rfl,rfl,rfl⟩ (.cons ⟨rfl,rfl,rfl⟩ (.nil))))))))))))),by decide⟩,.cons ⟨rfl,_,rfl,fun _=>.inr ⟨_,_,_,(by k_is),rfl,rfl,by decide,.cons ⟨_,rfl⟩ (.cons ⟨_,rfl⟩ (.nil))⟩⟩ (.cons ⟨rfl,_,rfl,fun _=>.inr ⟨_,_,_,(by k_is),rfl,rfl,by decide,.cons ⟨_,rfl⟩ (.nil)⟩⟩ (.cons ⟨rfl,_,rfl,fun _=>.inr ⟨_,_,_,(by k_is),rfl,rfl,by decide,.cons ⟨_,rfl⟩ (.cons ⟨_,rfl⟩ (.cons ⟨_,rfl⟩ (.nil)))⟩⟩ (.cons ⟨rfl,_,rfl,fun _=>.inr ⟨_,_,_,(by k_is),rfl,rfl,by decide,.cons ⟨_,rfl⟩ (.nil)⟩⟩ (.cons ⟨rfl,_,rfl,fun _=>.inr ⟨_,_,_,(by k_is),rfl,rfl,by decide,.cons ⟨_,rfl⟩ (.nil)⟩⟩ (.cons ⟨rfl,_,rfl,fun _=>.inr ⟨_,_,_,(by k_is),rfl,rfl,by decide,.cons ⟨_,rfl⟩ (.nil)⟩⟩ (.cons ⟨rfl,_,rfl,fun _=>.inr ⟨_,_,_,(by k_is),rfl,rfl,by decide,.cons ⟨_,rfl⟩ (.nil)⟩⟩ (.cons ⟨rfl,_,rfl,fun _=>.inr ⟨_,_,_,(by k_is),rfl,rfl,by decide,.cons ⟨_,rfl⟩ (.cons ⟨_,rfl⟩ (.cons ⟨_,rfl⟩ (.nil)))⟩⟩ (.cons ⟨rfl,_,rfl,fun _=>.inr ⟨_,_,_,(by k_is),rfl,rfl,by decide,.cons ⟨_,rfl⟩ (.cons ⟨_,rfl⟩ (.cons ⟨_,rfl⟩ (.nil)))⟩⟩ (.cons ⟨rfl,_,rfl,fun _=>.inr ⟨_,_,_,(by k_is),rfl,rfl,by decide,.cons ⟨_,rfl⟩ (.nil)⟩⟩ (.cons ⟨rfl,_,rfl,fun _=>.inr ⟨_,_,_,(by k_is),rfl,rfl,by decide,.cons ⟨_,rfl⟩ (.cons ⟨_,rfl⟩ (.nil))⟩⟩ (.cons ⟨rfl,_,rfl,fun _=>.inr ⟨_,_,_,(by k_is),rfl,rfl,by decide,.cons ⟨_,rfl⟩ (.cons ⟨_,rfl⟩ (.nil))⟩⟩ (.cons ⟨rfl,_,rfl,fun _=>.inr ⟨_,_,_,(by k_is),rfl,rfl,by decide,.cons ⟨_,rfl⟩ (.nil)⟩⟩ (.nil)))))))))))))⟩)
  (case n_PART_PLACES=>decide)
  (case g_MOST_OPENED=>k_is)
  (case r_MOST_OPENED=>first | exact⟨_,rfl⟩ | exact⟨_,by decide +kernel⟩)
  (case g_MOST_SHEETS=>k_is)
  (case r_MOST_SHEETS=>first | exact⟨_,rfl⟩ | exact⟨_,by decide +kernel⟩)
  (case g_MOST_CELLS=>k_is)
  (case r_MOST_CELLS=>first | exact⟨_,rfl⟩ | exact⟨_,by decide +kernel⟩)
  (case g_MOST_NAMES=>k_is)
  (case r_MOST_NAMES=>first | exact⟨_,rfl⟩ | exact⟨_,by decide +kernel⟩)
  (case g_MOST_OWNS=>k_is)
  (case r_MOST_OWNS=>first | exact⟨_,rfl⟩ | exact⟨_,by decide +kernel⟩)
  (case g_MOST_ROUNDS=>k_is)
  (case r_MOST_ROUNDS=>first | exact⟨_,rfl⟩ | exact⟨_,by decide +kernel⟩)
  (case ki_NoneType_int=>kit_is)
  (case ki_NoneType_bool=>kit_is)
  (case ki_NoneType_str=>kit_is)
  (case ki_NoneType_tuple=>kit_is)
  (case ki_bool_int=>kit_is)
  (case ki_bool_bool=>kit_is)
  (case ki_bool_str=>kit_is)
  (case ki_bool_tuple=>kit_is)
  (case ki_int_int=>kit_is)
  (case ki_int_bool=>kit_is)
  (case ki_int_str=>kit_is)
  (case ki_int_tuple=>kit_is)
  (case ki_str_int=>kit_is)
  (case ki_str_bool=>kit_is)
  (case ki_str_str=>kit_is)
  (case ki_str_tuple=>kit_is)
  (case ki_list_int=>kit_is)
  (case ki_list_bool=>kit_is)
  (case ki_list_str=>kit_is)
  (case ki_list_tuple=>kit_is)
  (case ki_dict_int=>kit_is)
  (case ki_dict_bool=>kit_is)
  (case ki_dict_str=>kit_is)
  (case ki_dict_tuple=>kit_is)
  (case ki_tuple_int=>kit_is)
  (case ki_tuple_bool=>kit_is)
  (case ki_tuple_str=>kit_is)
  (case ki_tuple_tuple=>kit_is)
  (case kist=>kit_is)
  (case kiit=>kit_is)
  (case kib=>kit_is)
  (case t_sorted_by_first=>exact(show PySem.W.tabIn _ _=some (430,426)by kernel_rfl))
  (case rr_sorted_by_first=>decide +kernel)
