import PyProof.Rows.All
import Wide.All
import OpenK.AllK
import Wide.FinOn
import Lean
import PyProof.EqAt
import PyProof.EqKinds
import PyProof.TupleCall
import PySem.Challenge.RW_freshsheet_k25_books_made
set_option Elab.async false
set_option linter.all false
set_option maxRecDepth 100000
set_option maxHeartbeats 4000000
namespace Hw
open PySem PySem.W PyProof.Rows PySem.Calls
def topRunT (tb:String→Option Builtin)(p:Program)(w:World)(n₀:Nat)(ann:Option Value):Nat→SharedT→Thread→Option SharedT
 | 0,_,_=>none
 | n+1,s,t=>match through t with
  | true=>some s
  | false=>match stepOk n₀ ann t with
   | false=>none
   | true=>match stepT (denote tb) p w s t with
    | some (s',t')=>topRunT tb p w n₀ ann n s' t'
    | none=>none
theorem topRun_ofT {tb:String→Option Builtin}{p:Program}{w:World}{n₀:Nat}{ann:Option Value}:∀{n:Nat} {s s':SharedT} {t:Thread},topRunT tb p w n₀ ann n s t=some s'→topRun tb p w n₀ ann n s.abs t=some s'.abs
 | 0,_,_,_,h=>by cases h
 | n+1,s,s',t,h=>by
  unfold topRunT at h
  unfold topRun
  cases he:through t with
  | true=>rw[he]at h;cases h;rfl
  | false=>
   rw[he]at h
   cases hk:stepOk n₀ ann t with
   | false=>rw[hk]at h;cases h
   | true=>
    rw[hk]at h
    cases hs:stepT (denote tb) p w s t with
    | none=>rw[hs]at h;cases h
    | some r=>obtain⟨s₂,t₂⟩:=r;rw[hs]at h;rw[stepT_spec hs];exact topRun_ofT h
def toBT:List Obj→Nat→BT→BT
 | [],_,t=>t
 | o::r,n,t=>toBT r (n+1) (t.ins n o)
noncomputable def bootT (P:Params):BT:=toBT (boot_heap P).objs.toList 0 .nil
noncomputable def bootS (w:World)(os:OsState):SharedT:=⟨bootT w.params,(boot_heap w.params).objs.size,(boot_heap w.params).life,Array.mk [],boot_drawn,boot_toks,os⟩
theorem bootT_abs (P:Params):absHeap (bootT P) (boot_heap P).objs.size (boot_heap P).life=boot_heap P:=by kernel_rfl
theorem boot_size (w:World):((boot_heap w.params).isNs mainGlobals&&(Array.mk []:Array GenState).size==0,(boot_heap w.params).objs.size,(boot_heap w.params).nsMap mainGlobals "__annotations__")=(true,11,some (.ref 6)):=by kernel_rfl
noncomputable def tops (p:Program)(N:Nat)(w:World)(os:OsState):Option SharedT:=topRunT treeTable p w 11 (some (.ref 6)) N (bootS w os) (topStub p)
def look1 (p:Program)(h:Heap)(s:Shared):Bool:=staticsOk (importedModules p.main.body) h s.heap&&namesBound p s.heap&&gensDone s&&laidKept h s.heap
def look3 (q:Program)(loose mods:List Str)(Xt:Shared→Bool)(g0:Bool)(s:Shared):Bool:=(openSeen q loose mods Xt g0 s).2.2.1
theorem left_whole {p q:Program}{loose:List Str}{Xt:Shared→Bool}{α:Type}{Yf:Shared→α}{Ya:World→α}{N:Nat}{g0:Bool}
 (e:opening p=plainProg p.main.scope.names) (hN:Nat.ble 600 N=true) (f:∀ s,fenceModules? p s=some s)
 (run1:∀(w:World) (os:OsState),(tops p N w os).map (fun s=>(look1 p (boot_heap w.params) s.abs,s.abs.heap.bltView,tabsOk q s.abs))=some (true,bltViewBooted,true))
 (run2:∀(w:World) (os:OsState),(tops p N w os).map (fun s=>seen ((recsOf q).map (·.name)) (ownsOf q) [] { s.abs with gens:=#[] })=some (expectedOf q))
 (run3:∀(w:World) (os:OsState),(tops p N w os).map (fun s=>look3 q loose (importedModules p.main.body) Xt g0 s.abs)=some true)
 (run4:∀(w:World) (os:OsState),(tops p N w os).map (fun s=>(pinSeenD q (drecsOf q) s.abs,plainSeenE q (looseW q loose) s.abs,plainSeenD q loose s.abs,wideSeen q s.abs,clsSeenW q loose s.abs))=some (pinGoodD (drecsOf q),plainGoodE q (looseW q loose),plainGoodD q loose,wideGood q,clsGoodW q loose))
 (run5:∀(w:World) (os:OsState),(tops p N w os).map (fun s=>Yf s.abs)=some (Ya w)):LeftO p q loose Xt Yf Ya N g0:=fun w=>by
 obtain⟨⟨h,gs,d,k,os⟩,e1,e'⟩:=Option.map_eq_some_iff.mp (boot_open e hN f w)
 obtain⟨rfl,rfl,rfl,rfl⟩:h=boot_heap w.params∧gs=Array.mk []∧d=boot_drawn∧k=boot_toks:=by simpa using e'
 obtain⟨z1,z2,z3⟩:_∧_∧_:=by simpa only[Prod.mk.injEq]using boot_size w
 obtain⟨s',hs,l1⟩:=Option.map_eq_some_iff.mp (run1 w os)
 have l2:=run2 w os
 have l3:=run3 w os
 have l4:=run4 w os
 have l5:=run5 w os
 rw[hs]at l2 l3 l4 l5
 replace l2:=Option.some.inj l2
 replace l3:=Option.some.inj l3
 replace l4:=Option.some.inj l4
 replace l5:=Option.some.inj l5
 dsimp only at l1 l2 l3 l4 l5
 obtain⟨l1,l6,l7⟩:_∧_∧_:=by simpa only[Prod.mk.injEq]using l1
 have l8:openSeen q loose (importedModules p.main.body) Xt g0 s'.abs=openGood q loose:=Prod.ext l2 (Prod.ext l6 (Prod.ext l3 (Prod.ext l7 l4)))
 have r:=topRun_ofT hs
 have hb:(bootS w os).abs=⟨boot_heap w.params,Array.mk [],boot_drawn,boot_toks,os⟩:=by
  show Shared.mk _ _ _ _ _=_
  rw[show absHeap (bootS w os).tree (bootS w os).n (bootS w os).life=boot_heap w.params from bootT_abs w.params]
  rfl
 rw[hb]at r
 have t:topFrom treeTable p w N ⟨boot_heap w.params,Array.mk [],boot_drawn,boot_toks,os⟩=some s'.abs:=by
  unfold topFrom
  dsimp only
  rw[z1,z2,z3,r]
  show(match look1 p (boot_heap w.params) s'.abs with | true=>some s'.abs | false=>none)=_
  rw[l1]
 unfold openEnds
 rw[e1]
 show(topFrom treeTable p w N _).map _=_
 rw[t]
 exact congrArg some (Prod.ext l8 l5)
abbrev pw:=PySem.Challenge.pw_freshsheet_k25_books_made
abbrev lw:=PySem.Challenge.rw_freshsheet_k25_books_made
section
local macro_rules | `(tactic| o_head $H)=>do let f:=Lean.mkIdent `foo;`(tactic| exact $f $H)
theorem pack (foo:PySem.W.Hook→(OpenLaw.row lw).Holds):(OpenLaw.row lw).Holds:=by k_head
end
def _root_.PySem.W.Fast.tw10525881451730757126:Program:=pw
theorem _root_.PySem.W.Fast.te10525881451730757126:PySem.Challenge.pw_freshsheet_k25_books_made=PySem.W.Fast.tw10525881451730757126:=rfl
def hAs:List Addr:=[2,3,15,22,23,24,25,28,35,36,37,40,42,43,45,46,47,49,50,52,53,54,56,57,59,60,61,64,65,66,68,69,71,72,73,75,76,78,79,80,81,83,84,86,87,88,90,91,93,94,95,98,99,100,102,103,105,106,107,109,110,112,113,114,115,116,117,119,120,121,122,123,124,125,126,127,128,129,130,131,132,133,136,137,138,140,141,143,144,145,147,148,150,151,152,154,155,157,158,159,161,162,164,165,166,168,169,171,172,173,175,176,178,179,180,182,183,185,186,187,189,190,192,193,194,196,197,199,200,201,203,204,206,207,208,210,211,213,214,215,217,218,220,221,222,225,226,227,229,230,232,233,234,236,237,239,240,241,243,244,246,247,248,250,251,253,254,255,257,258,260,261,262,265,266,267,269,270,272,273,274,276,277,279,280,281,283,284,286,287,288,290,291,293,294,295,298,299,300,303,304,305,308,309,310,313,314,315,318,319,320,322,323,325,326,327,329,330,332,333,334,336,337,339,340,341,343,344,346,347,348,350,351,353,354,355,357,358,360,361,362,364,365,367,368,369,371,372,374,375,376,378,379,381,382,383,385,386,388,389,390,392,393,395,396,397,399,400,402,403,404,407,408,409,411,412,414,415,416,418,419,421,422,423,425,426,428,429,430,432,433,435,436,437,439,440,442,443,444,446,447,449,450,451,453,454,456,457,458,460,461,463,464,465,468,469]
theorem hAs_eq:∀ P,hAs=(pack.heap_1 P).map (·.1):=fun _=>by kernel_rfl
def qv:Program:=view pw [1,2,4,5,6,8,9,10,11,12,13,14,16,17,18,19,20,21,22,23,24,26,27,28,29,30,31,32,33,34,35,36,37,38,39,40,41,42,43,44,45,46,47,48,49,50,52,53,54,55,56,57,58,59,60,61,62,63,64,65,66,67,68,69,70,71,72,73,75,76,77,78,79,80,81,82,83,84,85,86,87,88,89,90,91,92,93]
def Xv:Shared→Bool:=fun s=>xlAt qv [] s&&recOk (RowW.records (OpenRow.toRowW (OpenLaw.row lw))) s
abbrev N0:Nat:=5000
abbrev lo:List PySem.Str:=[PySem.Str.ofString "LENGTHS",PySem.Str.ofString "PART_PLACES"]
noncomputable def lhs1 (w:World)(os:OsState):=(tops pw N0 w os).map (fun s=>(look1 pw (boot_heap w.params) s.abs,s.abs.heap.bltView,tabsOk qv s.abs))
theorem lhs1_self:lhs1=lhs1:=rfl
name_quick hw1 for Hw.lhs1 by Hw.lhs1_self
set_option maxHeartbeats 0 in
theorem run1f:∀(w:World) (os:OsState),PySem.W.Fast.hw1 (w.withFollow "special-get-raises" false) os=some (true,bltViewBooted,true):=by
 intro w os
 kernel_rfl
set_option maxHeartbeats 0 in
theorem run1t:∀(w:World) (os:OsState),PySem.W.Fast.hw1 (w.withFollow "special-get-raises" true) os=some (true,bltViewBooted,true):=by
 intro w os
 kernel_rfl
theorem run1:∀ w os,PySem.W.Fast.hw1 w os=some (true,bltViewBooted,true):=fun w=>PySem.W.byRow2 "special-get-raises" (P:=fun w=>∀ os,PySem.W.Fast.hw1 w os=some (true,bltViewBooted,true)) run1f run1t w
noncomputable def lhs2 (w:World)(os:OsState):=(tops pw N0 w os).map (fun s=>seen ((recsOf qv).map (·.name)) (ownsOf qv) [] { s.abs with gens:=#[] })
theorem lhs2_self:lhs2=lhs2:=rfl
name_quick hw2 for Hw.lhs2 by Hw.lhs2_self
noncomputable def rhs2:=expectedOf qv
theorem rhs2_self:rhs2=rhs2:=rfl
name_quick hg2 for Hw.rhs2 by Hw.rhs2_self
set_option maxHeartbeats 0 in
theorem run2f:∀(w:World) (os:OsState),PySem.W.Fast.hw2 (w.withFollow "special-get-raises" false) os=some (PySem.W.Fast.hg2):=by
 intro w os
 kernel_rfl
set_option maxHeartbeats 0 in
theorem run2t:∀(w:World) (os:OsState),PySem.W.Fast.hw2 (w.withFollow "special-get-raises" true) os=some (PySem.W.Fast.hg2):=by
 intro w os
 kernel_rfl
theorem run2:∀ w os,PySem.W.Fast.hw2 w os=some (PySem.W.Fast.hg2):=fun w=>PySem.W.byRow2 "special-get-raises" (P:=fun w=>∀ os,PySem.W.Fast.hw2 w os=some (PySem.W.Fast.hg2)) run2f run2t w
noncomputable def lhs3 (w:World)(os:OsState):=(tops pw N0 w os).map (fun s=>look3 qv lo (importedModules pw.main.body) Xv true s.abs)
theorem lhs3_self:lhs3=lhs3:=rfl
name_quick hw3 for Hw.lhs3 by Hw.lhs3_self
set_option maxHeartbeats 0 in
theorem run3f:∀(w:World) (os:OsState),PySem.W.Fast.hw3 (w.withFollow "special-get-raises" false) os=some (true):=by
 intro w os
 kernel_rfl
set_option maxHeartbeats 0 in
theorem run3t:∀(w:World) (os:OsState),PySem.W.Fast.hw3 (w.withFollow "special-get-raises" true) os=some (true):=by
 intro w os
 kernel_rfl
theorem run3:∀ w os,PySem.W.Fast.hw3 w os=some (true):=fun w=>PySem.W.byRow2 "special-get-raises" (P:=fun w=>∀ os,PySem.W.Fast.hw3 w os=some (true)) run3f run3t w
noncomputable def lhs4 (w:World)(os:OsState):=(tops pw N0 w os).map (fun s=>(pinSeenD qv (drecsOf qv) s.abs,plainSeenE qv (looseW qv lo) s.abs,plainSeenD qv lo s.abs,wideSeen qv s.abs,clsSeenW qv lo s.abs))
theorem lhs4_self:lhs4=lhs4:=rfl
name_quick hw4 for Hw.lhs4 by Hw.lhs4_self
noncomputable def rhs4:=(pinGoodD (drecsOf qv),plainGoodE qv (looseW qv lo),plainGoodD qv lo,wideGood qv,clsGoodW qv lo)
theorem rhs4_self:rhs4=rhs4:=rfl
name_quick hg4 for Hw.rhs4 by Hw.rhs4_self
set_option maxHeartbeats 0 in
theorem run4f:∀(w:World) (os:OsState),PySem.W.Fast.hw4 (w.withFollow "special-get-raises" false) os=some (PySem.W.Fast.hg4):=by
 intro w os
 kernel_rfl
set_option maxHeartbeats 0 in
theorem run4t:∀(w:World) (os:OsState),PySem.W.Fast.hw4 (w.withFollow "special-get-raises" true) os=some (PySem.W.Fast.hg4):=by
 intro w os
 kernel_rfl
theorem run4:∀ w os,PySem.W.Fast.hw4 w os=some (PySem.W.Fast.hg4):=fun w=>PySem.W.byRow2 "special-get-raises" (P:=fun w=>∀ os,PySem.W.Fast.hw4 w os=some (PySem.W.Fast.hg4)) run4f run4t w
noncomputable def lhs5 (w:World)(os:OsState):=(tops pw N0 w os).map (fun s=>hAs.map s.abs.heap.get?)
theorem lhs5_self:lhs5=lhs5:=rfl
name_quick hw5 for Hw.lhs5 by Hw.lhs5_self
set_option maxHeartbeats 0 in
theorem run5f:∀(w:World) (os:OsState),PySem.W.Fast.hw5 (w.withFollow "special-get-raises" false) os=some ((pack.heap_1 (w.withFollow "special-get-raises" false).params).map fun p=>some p.2):=by
 intro w os
 kernel_rfl
set_option maxHeartbeats 0 in
theorem run5t:∀(w:World) (os:OsState),PySem.W.Fast.hw5 (w.withFollow "special-get-raises" true) os=some ((pack.heap_1 (w.withFollow "special-get-raises" true).params).map fun p=>some p.2):=by
 intro w os
 kernel_rfl
theorem run5:∀ w os,PySem.W.Fast.hw5 w os=some ((pack.heap_1 w.params).map fun p=>some p.2):=fun w=>PySem.W.byRow2 "special-get-raises" (P:=fun w=>∀ os,PySem.W.Fast.hw5 w os=some ((pack.heap_1 w.params).map fun p=>some p.2)) run5f run5t w
theorem q_open:opening pw=plainProg pw.main.scope.names:=by kernel_rfl
theorem q_fence:∀ s,fenceModules? pw s=some s:=fun s=>by kernel_rfl
theorem left:LeftO pw qv lo Xv (Hook.obs (kHook pack.heap_1 hAs hAs_eq)) (Hook.val (kHook pack.heap_1 hAs hAs_eq)) N0 true:=
 left_whole q_open rfl q_fence (fun w os=>(congrFun (congrFun PySem.W.Fast.hw1_eq w) os).trans (run1 w os))
  (fun w os=>((congrFun (congrFun PySem.W.Fast.hw2_eq w) os).trans (run2 w os)).trans (congrArg some PySem.W.Fast.hg2_eq.symm))
  (fun w os=>(congrFun (congrFun PySem.W.Fast.hw3_eq w) os).trans (run3 w os))
  (fun w os=>((congrFun (congrFun PySem.W.Fast.hw4_eq w) os).trans (run4 w os)).trans (congrArg some PySem.W.Fast.hg4_eq.symm))
  (fun w os=>(congrFun (congrFun PySem.W.Fast.hw5_eq w) os).trans (run5 w os))
end Hw
set_option Elab.async false
set_option linter.all false
set_option maxRecDepth 100000
local macro_rules | `(tactic| omega) => `(tactic| lia)
local macro_rules | `(tactic| nofun) => `(tactic| decide +kernel)
namespace L2
open PySem PySem.Spec PyProof.Rows
abbrev BF:=Sum Int Str
def Ga:BF→Value→Bool
 | .inl k,v=>Value.isInt k v
 | .inr x,v=>Value.isStrOf x v
def Q5 (w:World):BF→Int
 | .inl k=>hashInt k
 | .inr x=>hashStr w x
theorem BY:∀{k:BF} {v:Value},Ga k v=true→(∃ i t,k=Sum.inl i∧v=Value.int i t)∨(∃ x t,k=Sum.inr x∧v=Value.str x t)
 | .inl i,v,h=>by
  obtain⟨t,e⟩:=Value.isInt_shape (k:=i) (v:=v) h
  exact .inl ⟨i,t,rfl,e⟩
 | .inr x,v,h=>by
  obtain⟨t,e⟩:=Value.isStrOf_shape (x:=x) (v:=v) h
  exact .inr ⟨x,t,rfl,e⟩
theorem L3 (i:Int)(t:Tok):Ga (.inl i) (.int i t)=true:=by simp[Ga,Value.isInt]
theorem L4 (x:Str)(t:Tok):Ga (.inr x) (.str x t)=true:=by simp[Ga,Value.isStrOf]
theorem Pi (a b:Int):decide ((Sum.inl a:BF)=Sum.inl b)=(a==b):=by
 by_cases e:a=b
 ·subst e;simp
 ·have h:¬ (Sum.inl a:BF)=Sum.inl b:=fun q=>e (Sum.inl.inj q)
  rw[decide_eq_false h]
  exact(beq_eq_false_iff_ne.mpr e).symm
theorem Pj (a b:Str):decide ((Sum.inr a:BF)=Sum.inr b)=decide (a=b):=by
 by_cases e:a=b
 ·subst e;simp
 ·have h:¬ (Sum.inr a:BF)=Sum.inr b:=fun q=>e (Sum.inr.inj q)
  rw[decide_eq_false h,decide_eq_false e]
theorem Pk (a:Int)(b:Str):decide ((Sum.inl a:BF)=Sum.inr b)=false:=decide_eq_false (fun q=>nomatch q)
theorem Pl (a:Str)(b:Int):decide ((Sum.inr a:BF)=Sum.inl b)=false:=decide_eq_false (fun q=>nomatch q)
def BR (prog:Program)(w:World):PySem.KeyKind prog w BF where
 is:=Ga
 hash:=Q5 w
 inj:=fun v a b ha hb=>by
  rcases BY ha with⟨i,t,rfl,rfl⟩ | ⟨x,t,rfl,rfl⟩
  ·rcases BY hb with⟨j,u,rfl,e⟩ | ⟨y,u,rfl,e⟩
   ·injection e with e1 _;rw[e1]
   ·exact nomatch e
  ·rcases BY hb with⟨j,u,rfl,e⟩ | ⟨y,u,rfl,e⟩
   ·exact nomatch e
   ·injection e with e1 _;rw[e1]
 byValue:=fun k v h=>by
  rcases BY h with⟨i,t,rfl,rfl⟩ | ⟨x,t,rfl,rfl⟩ <;> rfl
 pyHash:=fun hv h=>by
  rcases BY hv with⟨i,t,rfl,rfl⟩ | ⟨x,t,rfl,rfl⟩
  ·exact wpAny_pyHash_int h
  ·exact wpAny_pyHash_str h
 eqBool:=fun hu hv h=>by
  rcases BY hu with⟨i,t,rfl,rfl⟩ | ⟨x,t,rfl,rfl⟩
  ·rcases BY hv with⟨j,u,rfl,rfl⟩ | ⟨y,u,rfl,rfl⟩
   ·rw[Pi]at h;exact wpAny_eqBool_int h
   ·rw[Pk]at h;exact SeqAt.EqAt.int_str i t y u _ _ _ _ h
  ·rcases BY hv with⟨j,u,rfl,rfl⟩ | ⟨y,u,rfl,rfl⟩
   ·rw[Pl]at h;exact SeqAt.EqAt.str_int x t j u _ _ _ _ h
   ·rw[Pj]at h;exact wpAny_eqBool_str h
 «strs»:=fun k x t v h=>by
  rcases BY h with⟨i,u,rfl,e⟩ | ⟨y,u,rfl,e⟩
  ·exact nomatch e
  ·injection e with e1 _
   subst e1
   cases v <;> rfl
theorem JP (prog:Program)(w:World)(i:Int)(t:Tok):(BR prog w).is (.inl i) (.int i t)=true:=L3 i t
theorem JQ (prog:Program)(w:World)(x:Str)(t:Tok):(BR prog w).is (.inr x) (.str x t)=true:=L4 x t
inductive V where
 | non | bl (b:Bool) | int (i:Int) | str (x:Str) | byt (b:Array UInt8) | flt (b:UInt64) | ref (a:Addr) | ty (n:String)
 deriving DecidableEq
def Am:V→Value→Prop
 | .non,u=>u=Value.none
 | .bl b,u=>u=Value.bool b
 | .int i,u=>∃ t,u=Value.int i t
 | .str x,u=>∃ t,u=Value.str x t
 | .byt b,u=>∃ t,u=Value.bytes b t
 | .flt b,u=>∃ t,u=Value.float b t
 | .ref a,u=>u=Value.ref a
 | .ty n,u=>u=Value.type n
abbrev A2:List V→List Value→Prop:=Paired Am
theorem A2.length {xs:List V}{us:List Value}(r:A2 xs us):xs.length=us.length:=Paired.length r
theorem A2.get:∀{xs:List V} {us:List Value} {i:Nat} {x:V},A2 xs us→xs[i]?=some x→∃ u,us[i]?=some u∧Am x u:=by
 intro A B j x h
 induction h generalizing j with
 | nil=>
  intro e
  simp at e
 | cons r t ih=>
  intro e
  cases j with
  | zero=>
   simp at e
   subst e
   exact⟨_,rfl,r⟩
  | succ j=>
   obtain⟨y,h1,h2⟩:=ih (by simpa using e)
   exact⟨y,by simpa using h1,h2⟩
theorem A2.set {x:V}{u:Value}(r:Am x u):∀{xs:List V} {us:List Value} (i:Nat),A2 xs us→A2 (xs.set i x) (us.set i u)
 | _,_,_,.nil=>.nil
 | _,_,0,.cons _ t=>.cons r t
 | _,_,i+1,.cons q t=>.cons q (A2.set r i t)
theorem A2.append:∀{xs ys:List V} {us ws:List Value},A2 xs us→A2 ys ws→A2 (xs++ys) (us++ws):=by
 intro A B C D h g
 induction h with
 | nil=>exact g
 | cons r t ih=>exact .cons r ih
def Fg:Option V→Option Value→Prop
 | some v,some u=>Am v u
 | none,none=>True
 | _,_=>False
def KV {κ:Type}:List (κ×V)→List (κ×Value)→Prop:=Paired fun(p:κ×V) (q:κ×Value)=>p.1=q.1∧Am p.2 q.2
def kV:BF→V
 | .inl i=>.int i
 | .inr x=>.str x
inductive HO where
 | lst (xs:List V)
 | tup (xs:List V)
 | dK (kvs:List (BF×V)) | dT (kvs:List (List BF×V))
 | set (S:Int→Bool) (n:Nat)
 | ins (C dx:Addr) (fs:List (Str×V))
 | own (x:Addr)
 | xd (fs:List (Str×V))
 | met (f x:Addr)
 | rng (lo hi:Int)
 | frz (o:Obj) (u:HO)
 | tbl (ps:Array Value)
 | ext (φ:Heap→Prop)
abbrev Hp:=Addr→Option HO
def upd (H:Hp)(a:Addr)(o:HO):Hp:=fun b=>if b=a then some o else H b
theorem AD {H:Hp}{a:Addr}{o:HO}:upd H a o a=some o:=by unfold upd;rw[if_pos rfl]
theorem AT {H:Hp}{a b:Addr}{o:HO}(h:b≠a):upd H a o b=H b:=by unfold upd;rw[if_neg h]
theorem GN {H:Hp}{a:Addr}{o u:HO}:upd (upd H a o) a u=upd H a u:=by
 funext b;unfold upd;split <;> rfl
theorem DB {H:Hp}{a b:Addr}{o u:HO}(h:H a=some o)(h':H b=some u)(d:o≠u):a≠b:=by
 intro e;subst e;rw[h]at h';exact d (Option.some.inj h')
theorem Aa {H:Hp}{a b:Addr}{o:HO}(h:H a=some o)(h':H b=none):a≠b:=by
 intro e;subst e;rw[h]at h';cases h'
section
variable (P:Program)(w:World)
def BI (H:Hp)(h:Heap)(a:Addr):HO→Prop
 | .lst xs=>xs.length≤sizeLine∧∃(its:List Value) (n:Nat),A2 xs its∧h.get? a=some { cls:=.type "list",data:=.seq its.toArray n }
 | .tup xs=>xs.length≤sizeLine∧∃ its:List Value,A2 xs its∧IsTup h a its.toArray
 | .dK kvs=>kvs.length≤sizeLine∧(a==sysModules)=false∧∃ vs,KV kvs vs∧h.DictOf (BR P w) a vs
 | .dT kvs=>kvs.length≤sizeLine∧(a==sysModules)=false∧∃ xs:List (List BF×Addr×Value),
  Paired (fun(p:List BF×V) (q:List BF×Addr×Value)=>p.1=q.1∧H q.2.1=some (.tup (p.1.map kV))∧Am p.2 q.2.2) kvs xs∧
  ∃ o es ep,h.get? a=some o∧o.ExactDict∧o.data=.dict es ep∧es.toList=xs.map (entryOfKey (tupleKind (BR P w)))∧(xs.map (·.1)).Nodup
 | .set S n=>h.SetOf (intKind P w) a S n
 | .ins C dx fs=>H dx=some (.own a)∧fs.length≤1000∧dx≠a∧h.get? a=some (PySem.W.instObj C dx)∧
  ∃ mA,h.Ns1 dx mA∧(∀ f,Fg (fs.lookup f) (mA f))∧PySem.Within mA (fs.map (·.1))
 | .own _=>∃ o,h.get? a=some o
 | .xd fs=>∃ mA,h.Ns1 a mA∧∀ f,Fg (fs.lookup f) (mA f)
 | .rng lo hi=>∃ t u v,h.get? a=some { cls:=.type "range",data:=.fields #[.int lo t,.int hi u,.int 1 v] }
 | .frz o u=>h.get? a=some o∧BI H h a u
 | .tbl ps=>h.get? a=some { cls:=.none,data:=.fields ps }
 | .met f x=>h.get? a=some (PySem.W.methodObj (.ref f) (.ref x))
 | .ext φ=>φ h∧(∃ o,h.get? a=some o)∧∀ h1 h2:Heap,φ h1→(∀ o,h1.get? a=some o→h2.get? a=some o)→φ h2
def Ej (H:Hp)(h:Heap):Prop:=∀ a o,H a=some o→BI P w H h a o
end
section
variable {P:Program}{w:World}{H H':Hp}{h h':Heap}{a:Addr}{o:HO}
theorem BI.lt (x:BI P w H h a o):a<h.objs.size:=by
 cases o with
 | lst xs=>obtain⟨_,_,_,_,e⟩:=x;exact Heap.lt_size e
 | tup xs=>obtain⟨_,_,_,p⟩:=x;exact p.lt
 | dK kvs=>obtain⟨_,_,_,_,o,_,_,e,_⟩:=x;exact Heap.lt_size e
 | dT kvs=>obtain⟨_,_,_,_,o,_,_,e,_⟩:=x;exact Heap.lt_size e
 | set S n=>obtain⟨o,_,_,_,e,_⟩:=x;exact Heap.lt_size e
 | ins C dx fs=>obtain⟨_,_,_,e,_⟩:=x;exact Heap.lt_size e
 | own y=>obtain⟨_,e⟩:=x;exact Heap.lt_size e
 | xd fs=>obtain⟨_,⟨_,_,_,e,_⟩,_⟩:=x;exact Heap.lt_size e
 | rng lo hi=>obtain⟨_,_,_,e⟩:=x;exact Heap.lt_size e
 | frz ob u=>obtain⟨e,_⟩:=x;exact Heap.lt_size e
 | tbl ps=>exact Heap.lt_size (show h.get? a=some _ from x)
 | met f y=>exact Heap.lt_size (show h.get? a=some _ from x)
 | ext φ=>obtain⟨_,⟨_,e⟩,_⟩:=x;exact Heap.lt_size e
theorem Paired.mapP {α β:Type}{F G:α→β→Prop}:∀{l₁:List α} {l₂:List β},Paired F l₁ l₂→(∀ a b,F a b→G a b)→Paired G l₁ l₂:=by
 intro A B h f
 induction h with
 | nil=>exact .nil
 | cons r t ih=>exact .cons (f _ _ r) ih
theorem Paired.imp' {α β:Type}{F G:α→β→Prop}(f:∀ a b,F a b→G a b){l₁:List α}{l₂:List β}(r:Paired F l₁ l₂):Paired G l₁ l₂:=Paired.mapP r f
theorem BI.stay (x:BI P w H h a o)(k:∀ b u,(b=a∨H b=some (.own a))→h.get? b=some u→h'.get? b=some u)
 (ho:∀ b,H b=some (.own a)→H' b=some (.own a)) (ht:∀ b xs,H b=some (.tup xs)→H' b=some (.tup xs)):BI P w H' h' a o:=by
 induction o with
 | lst xs=>obtain⟨z,its,n,r,e⟩:=x;exact⟨z,its,n,r,k _ _ (.inl rfl) e⟩
 | tup xs=>obtain⟨z,its,r,ob,e,c⟩:=x;exact⟨z,its,r,ob,k _ _ (.inl rfl) e,c⟩
 | dK kvs=>obtain⟨z,y,vs,r,ob,es,ep,e,c⟩:=x;exact⟨z,y,vs,r,ob,es,ep,k _ _ (.inl rfl) e,c⟩
 | dT kvs=>
  obtain⟨z,y,xs,r,ob,es,ep,e,c⟩:=x
  exact⟨z,y,xs,Paired.mapP r fun p q z=>⟨z.1,ht _ _ z.2.1,z.2.2⟩,ob,es,ep,k _ _ (.inl rfl) e,c⟩
 | set S n=>obtain⟨ob,es,ep,t,e,c⟩:=x;exact⟨ob,es,ep,t,k _ _ (.inl rfl) e,c⟩
 | ins C dx fs=>
  obtain⟨d,z,ne,e,mA,⟨od,es,ep,e2,c⟩,r⟩:=x
  exact⟨ho _ d,z,ne,k _ _ (.inl rfl) e,mA,⟨od,es,ep,k _ _ (.inr d) e2,c⟩,r⟩
 | own y=>obtain⟨ob,e⟩:=x;exact⟨ob,k _ _ (.inl rfl) e⟩
 | xd fs=>obtain⟨mA,⟨od,es,ep,e,c⟩,r⟩:=x;exact⟨mA,⟨od,es,ep,k _ _ (.inl rfl) e,c⟩,r⟩
 | rng lo hi=>obtain⟨t,u,v,e⟩:=x;exact⟨t,u,v,k _ _ (.inl rfl) e⟩
 | frz ob u ih=>obtain⟨e,q⟩:=x;exact⟨k _ _ (.inl rfl) e,ih q⟩
 | tbl ps=>
  have e:h.get? a=some { cls:=.none,data:=.fields ps }:=x
  show h'.get? a=some { cls:=.none,data:=.fields ps }
  exact k a _ (.inl rfl) e
 | met f y=>
  have e:h.get? a=some (PySem.W.methodObj (.ref f) (.ref y)):=x
  show h'.get? a=some (PySem.W.methodObj (.ref f) (.ref y))
  exact k a _ (.inl rfl) e
 | ext φ=>obtain⟨p,⟨o,e⟩,st⟩:=x;exact⟨st _ _ p fun o q=>k _ _ (.inl rfl) q,⟨o,k _ _ (.inl rfl) e⟩,st⟩
theorem Ej.lt (x:Ej P w H h)(e:H a=some o):a<h.objs.size:=(x a o e).lt
theorem Ej.fresh (x:Ej P w H h)(e:h.objs.size≤a):H a=none:=by
 cases q:H a with
 | none=>rfl
 | some u=>exact absurd (Nat.lt_of_lt_of_le (x.lt q) e) (Nat.lt_irrefl _)
theorem Ej.kept (x:Ej P w H h)(k:∀ b u,h.get? b=some u→h'.get? b=some u):Ej P w H h':=fun a o e=>
 (x a o e).stay (fun b u _ q=>k b u q) (fun _ q=>q) fun _ _ q=>q
theorem Ej.laid (x:Ej P w H h)(k:∀ b u,h.get? b=some u→h'.get? b=some u)(hp:h.objs.size≤a)(new:BI P w (upd H a o) h' a o):Ej P w (upd H a o) h':=fun b u e=>by
 have hn:=x.fresh hp
 by_cases hb:b=a
 ·subst hb;rw[AD]at e;cases e;exact new
 ·rw[AT hb]at e
  exact(x b u e).stay (fun c v _ q=>k c v q) (fun c q=>by rw[AT (Aa q hn)];exact q) fun c xs q=>by rw[AT (Aa q hn)];exact q
end
def Rd (H:Hp)(a:Addr)(u:HO):Prop:=H a=some u∨∃ o,H a=some (.frz o u)
theorem Rd.ok {P:Program}{w:World}{H:Hp}{h:Heap}{a:Addr}{u:HO}(r:Rd H a u)(x:Ej P w H h):BI P w H h a u:=by
 rcases r with r | ⟨o,r⟩
 ·exact x a u r
 ·obtain⟨_,q⟩:=x a _ r
  exact q
def Q6:Option HO→Prop
 | some (.lst _)=>True
 | some (.dK _)=>True
 | some (.dT _)=>True
 | some (.set _ _)=>True
 | some (.ins _ _ _)=>True
 | some (.ext _)=>True
 | _=>False
section
variable {P:Program}{w:World}{H:Hp}{h h':Heap}{x e:Addr}{o':HO}
theorem Ej.write (ok:Ej P w H h)(mu:Q6 (H x))(he:e=x∨H e=some (.own x))(k:∀ b u,b≠e→h.get? b=some u→h'.get? b=some u)(heo:∃ u,h'.get? e=some u)
 (new:BI P w (upd H x o') h' x o'):Ej P w (upd H x o') h':=fun b u q=>by
 have nown:∀ c y,H c=some (.own y)→c≠x:=fun c y r z=>by subst z;rw[r]at mu;exact mu
 have ntup:∀ c xs,H c=some (.tup xs)→c≠x:=fun c xs r z=>by subst z;rw[r]at mu;exact mu
 by_cases hb:b=x
 ·subst hb;rw[AD]at q;cases q;exact new
 ·rw[AT hb]at q
  by_cases hbe:b=e
  ·have q':H b=some (.own x):=by
    rcases he with z | z
    ·exact absurd (hbe.trans z) hb
    ·rw[hbe];exact z
   rw[q]at q';cases q'
   obtain⟨v,hv⟩:=heo
   exact⟨v,by rw[hbe];exact hv⟩
  ·refine(ok b u q).stay (fun c v hc r=>k c v ?_ r) (fun c r=>by rw[AT (nown c b r)];exact r) fun c xs r=>by rw[AT (ntup c xs r)];exact r
   rcases hc with rfl | hc
   ·exact hbe
   ·rintro rfl
    rcases he with z | z
    ·exact nown c b hc z
    ·rw[hc]at z;cases z;exact hb rfl
end
structure Un (fs ex:List Addr)(H H':Hp)(h h':Heap):Prop where
 keep:∀ b o,h.get? b=some o→H b=none→b∉fs→b∉ex→h'.get? b=some o
 slot:∀ b o,h.get? b=some o→H b=none→b∈fs→b∉ex→∃ sl,h'.get? b=some { o with slots:=sl }
 free:∀ b o,h.get? b=some o→H b=none→b∉ex→H' b=none
 there:∀ b o,h.get? b=some o→b∉ex→∃ o',h'.get? b=some o'
 tups:∀ b xs,H b=some (.tup xs)→H' b=some (.tup xs)
 frzs:∀ b o u,H b=some (.frz o u)→H' b=some (.frz o u)
 tbls:∀ b ps,H b=some (.tbl ps)→∃ more,H' b=some (.tbl (ps++more))
section
variable {fs fs' ex ex':List Addr}{H H1 H2:Hp}{h h1 h2 h':Heap}{a x e:Addr}{o:HO}
theorem Un.any (u:Un fs ex H H1 h h1){b:Addr}{ob:Obj}(q:h.get? b=some ob)(n:H b=none)(hx:b∉ex):∃ sl,h1.get? b=some { ob with slots:=sl }:=by
 by_cases hb:b∈fs
 ·exact u.slot b ob q n hb hx
 ·exact⟨ob.slots,u.keep b ob q n hb hx⟩
theorem Un.kept (k:∀ b u,h.get? b=some u→h'.get? b=some u):Un fs ex H H h h':=
 ⟨fun b ob q _ _ _=>k b ob q,fun b ob q _ _ _=>⟨ob.slots,k b ob q⟩,fun _ _ _ n _=>n,fun b ob q _=>⟨ob,k b ob q⟩,fun _ _ q=>q,fun _ _ _ q=>q,fun _ ps q=>⟨#[],by rw[q];simp⟩⟩
theorem Un.refl:Un fs ex H H h h:=Un.kept fun _ _ q=>q
theorem Un.laid (k:∀ b u,h.get? b=some u→h'.get? b=some u)(hp:h.objs.size≤a)(hn:H a=none):Un fs ex H (upd H a o) h h' where
 keep:=fun b u q _ _ _=>k b u q
 slot:=fun b u q _ _ _=>⟨u.slots,k b u q⟩
 free:=fun b u q n _=>by rw[AT (Nat.ne_of_lt (Nat.lt_of_lt_of_le (Heap.lt_size q) hp))];exact n
 there:=fun b u q _=>⟨u,k b u q⟩
 tups:=fun b xs q=>by rw[AT (Aa q hn)];exact q
 frzs:=fun b u xs q=>by rw[AT (Aa q hn)];exact q
 tbls:=fun b ps q=>⟨#[],by rw[AT (Aa q hn),q];simp⟩
theorem Un.write (mu:Q6 (H x))(he:e=x∨H e=some (.own x))(k:∀ b u,b≠e→h.get? b=some u→h'.get? b=some u)(heo:∃ u,h'.get? e=some u):Un fs ex H (upd H x o) h h':=by
 have hx:∀ b,H b=none→b≠x:=fun b n z=>by subst z;rw[n]at mu;exact mu
 have hb:∀ b,H b=none→b≠e:=fun b n z=>by
  subst z
  rcases he with r | r
  ·exact hx b n r
  ·rw[n]at r;cases r
 have hm:∀ b u,H b=some u→¬ Q6 (some u)→b≠x:=fun b u q nm z=>by subst z;rw[q]at mu;exact nm mu
 refine⟨fun b u q n _ _=>k b u (hb b n) q,fun b u q n _ _=>⟨u.slots,k b u (hb b n) q⟩,fun b u q n _=>by rw[AT (hx b n)];exact n,fun b u q _=>?_,
  fun b xs q=>by rw[AT (hm b _ q fun z=>z)];exact q,fun b u xs q=>by rw[AT (hm b _ q fun z=>z)];exact q,fun b ps q=>⟨#[],by rw[AT (hm b _ q fun z=>z),q];simp⟩⟩
 by_cases hbe:b=e
 ·subst hbe;exact heo
 ·exact⟨u,k b u hbe q⟩
end
def TC (h:Heap)(H:Hp):List Addr:=(List.range h.objs.size).filter fun a=>(H a).isSome
def F8 (h:Heap)(H:Hp):Heap:=PySem.W.hideAll h (TC h H)
theorem IB (h:Heap)(H:Hp):(F8 h H).objs.size=h.objs.size:=PySem.W.hideAll_size _ _
theorem JR {h:Heap}{H:Hp}{b:Addr}{o:Obj}(e:h.get? b=some o)(n:H b=none):(F8 h H).get? b=some o:=
 PySem.W.hideAll_get _ e fun hm=>by
  have q:(H b).isSome=true:=(List.mem_filter.mp hm).2
  rw[n]at q;simp at q
theorem LL {h:Heap}{H:Hp}{b:Addr}{o:Obj}(e:(F8 h H).get? b=some o):h.get? b=some o∧H b=none:=by
 have e':h.get? b=some o:=PySem.W.of_hideAll (TC h H) e
 refine⟨e',?_⟩
 cases q:H b with
 | none=>rfl
 | some x=>
  have hm:b∈TC h H:=List.mem_filter.mpr ⟨List.mem_range.mpr (Heap.lt_size e'),by simp[q]⟩
  have z:(F8 h H).get? b=none:=PySem.W.hideAll_none (TC h H) hm
  rw[z]at e;cases e
structure Mod (K:PySem.W.Frag)(mg:Str→Option Value)(base:Heap):Prop where
 kin:K.In base
 glob:base.Ns mainGlobals mg
 blt:∃ mb,base.Ns builtinsNs mb∧∀ x:Str,x≠"__name__"→mb x=bootBuiltins x
 nolimit:base.NoLimit
structure Cx where
 prog:Program
 w:World
 K:PySem.W.Frag
 mg:Str→Option Value
 base:Heap
 A:Around
 N:List Str
 s₀:Shared
 H₀:Hp
 env:Env
 outer:List Env
 stack:List Env
 ex:List Addr
 fn:Str→Bool
 calm:Bool
 pn:List (Addr×Obj)
 xe:Value→Shared→Prop
def Hg (l:List Env):List Addr:=l.filterMap (·.frame)
abbrev Cx.fs (X:Cx):List Addr:=Hg X.outer
def UM (sc:Scope)(x:Str):Prop:=sc.names.lookup x=some .local∨sc.names.lookup x=some .cell∨sc.names.lookup x=some .free
def TD (sc:Scope)(x:Str):Prop:=sc.names.lookup x=some .local∨sc.names.lookup x=some .cell
def Ta (env:Env)(h:Heap)(m:Str→Option Value)(x:Str)(u:Value):Prop:=
 (env.kindOf x=some .local∧m x=some u)∨((env.kindOf x=some .cell∨env.kindOf x=some .free)∧∃ c,env.cells.lookup x=some c∧h.IsCell c (some u))
structure Cx.Ok (X:Cx):Prop where
 mod:Mod X.K X.mg X.base
 kind:X.env.scope.kind=.function
 glob:X.env.globals=mainGlobals
 blt:X.env.builtins=builtinsNs
 above:X.s₀.heap.objs.size≤X.env.locals
 inj:∀ x y c,X.env.cells.lookup x=some c→X.env.cells.lookup y=some c→x=y
 has:∀ x,(X.env.kindOf x=some .cell∨X.env.kindOf x=some .free)→∃ c,X.env.cells.lookup x=some c
 cab:∀ x c,X.fn x=true→X.env.cells.lookup x=some c→X.s₀.heap.objs.size≤c
 hd:X.calm=true→X.A.handled=none
 frames:X.A.frames=some X.stack
 stk:X.stack=X.outer∨(X.stack=X.env::X.outer∧X.env.frame=some X.env.locals)
 exf:∀ b∈X.ex,b≠X.env.locals∧∀ x c,X.env.cells.lookup x=some c→c≠b
 bs:∀ b o,X.base.get? b=some o→X.s₀.heap.get? b=some o∧X.H₀ b=none
 bsz:X.base.objs.size≤X.s₀.heap.objs.size
 noex:∀ b o,X.base.get? b=some o→b∉X.ex
 exfs:∀ b∈X.ex,b∉X.fs
 funs:X.s₀.heap.FunFrames X.base X.outer
 frf:∀ b∈X.fs,X.H₀ b=none
structure Ah (X:Cx)(pins:List (Addr×Obj))(σ:List (Option V))(H:Hp)(s:Shared):Prop where
 ok:X.Ok
 os:s.os=X.s₀.os
 bare:AllBare s.gens
 base:Un X.fs X.ex X.H₀ H X.s₀.heap s.heap
 loc:∃ m,s.heap.Ns X.env.locals m∧∀(i:Nat) (x:Str) (v:V),X.N[i]?=some x→σ[i]?=some (some v)→UM X.env.scope x→∃ u,Am v u∧Ta X.env s.heap m x u
 cell:∀ x c,X.env.cells.lookup x=some c→∃ v,s.heap.IsCell c v
 free:H X.env.locals=none
 freeC:∀ x c,X.env.cells.lookup x=some c→H c=none
 pin:∀ p∈X.pn++pins,s.heap.get? p.1=some p.2∧H p.1=none∧p.1≠X.env.locals∧p.1∉X.fs∧∀ v,p.2.data≠.cell v
 hok:Ej X.prog X.w H s.heap
 len:σ.length=X.N.length
section
variable {X:Cx}{pins:List (Addr×Obj)}{σ:List (Option V)}{H H':Hp}{s:Shared}{h':Heap}
theorem Cx.Ok.nofr (ok:X.Ok){b:Addr}{o:Obj}(e:X.base.get? b=some o):b∉X.fs:=fun hb=>by
 have:=(ok.funs.mem hb).1
 rw[e]at this;cases this
theorem Ah.bs (I:Ah X pins σ H s):∀ b o,X.base.get? b=some o→s.heap.get? b=some o∧H b=none:=fun b o e=>
 ⟨I.base.keep b o (I.ok.bs b o e).1 (I.ok.bs b o e).2 (I.ok.nofr e) (I.ok.noex b o e),I.base.free b o (I.ok.bs b o e).1 (I.ok.bs b o e).2 (I.ok.noex b o e)⟩
theorem Ah.bk (I:Ah X pins σ H s):∀ b o,X.base.get? b=some o→s.heap.get? b=some o:=fun b o e=>(I.bs b o e).1
theorem Ah.mod (I:Ah X pins σ H s):Mod X.K X.mg X.base:=I.ok.mod
theorem Ah.kIn (I:Ah X pins σ H s):X.K.In s.heap:=I.ok.mod.kin.keeps I.bk
theorem Ah.lt (I:Ah X pins σ H s):X.env.locals<s.heap.objs.size:=by
 obtain⟨_,hn,_⟩:=I.loc
 exact hn.lt
theorem Ah.sz (I:Ah X pins σ H s):X.s₀.heap.objs.size≤s.heap.objs.size:=Nat.le_trans I.ok.above (Nat.le_of_lt I.lt)
theorem Ah.nofs (I:Ah X pins σ H s){a:Addr}(h:s.heap.objs.size≤a):a∉X.fs:=fun hb=>by
 obtain⟨_,o,ho,_⟩:=I.ok.funs.mem hb
 exact absurd (Nat.lt_of_lt_of_le (Heap.lt_size ho) (Nat.le_trans I.sz h)) (Nat.lt_irrefl _)
theorem Ah.cne (I:Ah X pins σ H s):∀ x c,X.env.cells.lookup x=some c→c≠X.env.locals:=fun x c e z=>by
 obtain⟨v,o,ho,hd⟩:=I.cell x c e
 obtain⟨m,⟨o',es,ep,ho',hd',_⟩,_⟩:=I.loc
 rw[z,ho']at ho;cases ho;rw[hd']at hd;cases hd
theorem Ah.funs (I:Ah X pins σ H s):s.heap.FunFrames X.base X.outer:=by
 have all:∀(l:List Env),(∀ b∈Hg l,b∈X.fs)→X.s₀.heap.FunFrames X.base l→s.heap.FunFrames X.base l:=by
  intro l
  induction l with
  | nil=>intro _ _;trivial
  | cons env r ih=>
   intro hs hl
   obtain⟨hk,⟨L,o,hf,hn,ho,hd⟩,hr⟩:=hl
   have hL:L∈X.fs:=hs L (by unfold Hg;rw[List.filterMap_cons,hf];exact List.mem_cons_self)
   obtain⟨sl,e⟩:=I.base.slot L o ho (I.ok.frf L hL) hL fun z=>I.ok.exfs L z hL
   exact⟨hk,⟨L,_,hf,hn,e,hd⟩,ih (fun b hb=>hs b (by unfold Hg;rw[List.filterMap_cons,hf];exact List.mem_cons_of_mem _ hb)) hr⟩
 exact all X.outer (fun _ hb=>hb) I.ok.funs
theorem Ah.stack (I:Ah X pins σ H s):s.heap.FunFrames X.base X.stack:=by
 rcases I.ok.stk with e | ⟨e,hf⟩
 ·rw[e];exact I.funs
 ·rw[e]
  obtain⟨m,hn,_⟩:=I.loc
  refine .cons (by rw[I.ok.kind];decide) hf hn ?_ I.funs
  exact Heap.get?_none_of_le (Nat.le_trans I.ok.bsz I.ok.above)
theorem Ah.stkSub (I:Ah X pins σ H s):∀ b∈Hg X.stack,b∈X.env.locals::X.fs:=fun b hb=>by
 rcases I.ok.stk with e | ⟨e,hf⟩
 ·rw[e]at hb;exact List.mem_cons_of_mem _ hb
 ·rw[e]at hb
  unfold Hg at hb
  rw[List.filterMap_cons,hf]at hb
  exact hb
theorem Ah.stkFree (I:Ah X pins σ H s):∀ b∈Hg X.stack,H b=none:=fun b hb=>by
 rcases List.mem_cons.mp (I.stkSub b hb)with e | hb
 ·rw[e];exact I.free
 ·obtain⟨_,o,ho,_⟩:=I.ok.funs.mem hb
  exact I.base.free b o ho (I.ok.frf b hb) fun z=>I.ok.exfs b z hb
theorem Ah.step {g':Array GenState}{t':Nat}{d':Drawn}{ch:List Addr}(I:Ah X pins σ H s)
 (hch:∀ b∈ch,(b∈X.ex∨X.s₀.heap.objs.size≤b)∧b≠X.env.locals∧(∀ x c,X.env.cells.lookup x=some c→c≠b)∧∀ p∈X.pn++pins,p.1≠b)
 (keep:∀ b o,b≠X.env.locals→b∉X.fs→b∉ch→s.heap.get? b=some o→H b=none→h'.get? b=some o)
 (slot:∀ b o,b≠X.env.locals→b∈X.fs→b∉ch→s.heap.get? b=some o→H b=none→∃ sl,h'.get? b=some { o with slots:=sl }) (free:∀ b o,b∉ch→s.heap.get? b=some o→H b=none→H' b=none)
 (there:∀ b o,b∉ch→s.heap.get? b=some o→∃ o',h'.get? b=some o')
 (tups:∀ b xs,H b=some (.tup xs)→H' b=some (.tup xs)) (frzs:∀ b o u,H b=some (.frz o u)→H' b=some (.frz o u)) (tbls:∀ b ps,H b=some (.tbl ps)→∃ more,H' b=some (.tbl (ps++more)))
 (ns:∀ m,s.heap.Ns X.env.locals m→h'.Ns X.env.locals m) (hok:Ej X.prog X.w H' h') (hg:AllBare g'):
 Ah X pins σ H' { s with heap:=h',gens:=g',drawn:=d',toks:=t' }:=by
 have neL:∀ b o,X.s₀.heap.get? b=some o→b≠X.env.locals:=fun b o e=>Nat.ne_of_lt (Nat.lt_of_lt_of_le (Heap.lt_size e) I.ok.above)
 have neC:∀ b o,X.s₀.heap.get? b=some o→b∉X.ex→b∉ch:=fun b o e hx hb=>by
  rcases(hch b hb).1 with z | z
  ·exact hx z
  ·exact absurd (Nat.lt_of_lt_of_le (Heap.lt_size e) z) (Nat.lt_irrefl _)
 have cellK:∀ x c,X.env.cells.lookup x=some c→∀ v,s.heap.IsCell c v→h'.IsCell c v:=fun x c e v ⟨o,ho,hd⟩=>by
  have nch:c∉ch:=fun z=>(hch c z).2.2.1 x c e rfl
  by_cases hc:c∈X.fs
  ·obtain⟨sl,q⟩:=slot c o (I.cne x c e) hc nch ho (I.freeC x c e)
   exact⟨_,q,hd⟩
  ·exact⟨o,keep c o (I.cne x c e) hc nch ho (I.freeC x c e),hd⟩
 refine⟨I.ok,I.os,hg,⟨fun b o e n hb hx=>?_,fun b o e n hb hx=>?_,fun b o e n hx=>?_,fun b o e hx=>?_,fun b xs e=>tups b xs (I.base.tups b xs e),fun b o xs e=>frzs b o xs (I.base.frzs b o xs e),fun b ps e=>?_⟩,?_,fun x c e=>?_,?_,fun x c e=>?_,fun p hp=>?_,hok,I.len⟩
 ·exact keep b o (neL b o e) hb (neC b o e hx) (I.base.keep b o e n hb hx) (I.base.free b o e n hx)
 ·obtain⟨sl,e1⟩:=I.base.slot b o e n hb hx
  obtain⟨sl',e2⟩:=slot b _ (neL b o e) hb (neC b o e hx) e1 (I.base.free b o e n hx)
  exact⟨sl',e2⟩
 ·obtain⟨o',e1⟩:=I.base.there b o e hx
  exact free b o' (neC b o e hx) e1 (I.base.free b o e n hx)
 ·obtain⟨o',e1⟩:=I.base.there b o e hx
  exact there b o' (neC b o e hx) e1
 ·obtain⟨m1,e1⟩:=I.base.tbls b ps e
  obtain⟨m2,e2⟩:=tbls b _ e1
  exact⟨m1++m2,by rw[e2,Array.append_assoc]⟩
 ·obtain⟨m,hn,hl⟩:=I.loc
  refine⟨m,ns m hn,fun i x v e1 e2 e3=>?_⟩
  obtain⟨u,r,l⟩:=hl i x v e1 e2 e3
  refine⟨u,r,?_⟩
  rcases l with l | ⟨k,c,e,z⟩
  ·exact .inl l
  ·exact .inr ⟨k,c,e,cellK x c e _ z⟩
 ·obtain⟨v,z⟩:=I.cell x c e
  exact⟨v,cellK x c e v z⟩
 ·obtain⟨m,⟨o,_,_,ho,_⟩,_⟩:=I.loc
  exact free _ o (fun z=>(hch _ z).2.1 rfl) ho I.free
 ·obtain⟨v,o,ho,hd⟩:=I.cell x c e
  exact free c o (fun z=>(hch c z).2.2.1 x c e rfl) ho (I.freeC x c e)
 ·obtain⟨e,n,ne,nf,d⟩:=I.pin p hp
  have nch:p.1∉ch:=fun z=>(hch p.1 z).2.2.2 p hp rfl
  exact⟨keep p.1 p.2 ne nf nch e n,free p.1 p.2 nch e n,ne,nf,d⟩
theorem Ah.un {t':Nat}(I:Ah X pins σ H s)(u:Un X.fs [] H H' s.heap h')(hok:Ej X.prog X.w H' h'):Ah X pins σ H' { s with heap:=h',toks:=t' }:=by
 obtain⟨m,⟨o,es,ep,ho,r⟩,_⟩:=id I.loc
 obtain⟨sl,hL⟩:=u.any ho I.free (by simp)
 exact I.step (g':=s.gens) (d':=s.drawn) (ch:=[]) (fun _ z=>nomatch z) (fun b o _ hb _ e n=>u.keep b o e n hb (by simp)) (fun b o _ hb _ e n=>u.slot b o e n hb (by simp)) (fun b o _ e n=>u.free b o e n (by simp)) (fun b o _ e=>u.there b o e (by simp)) u.tups u.frzs u.tbls (fun m' hm=>by
  obtain⟨o',es',ep',ho',r'⟩:=hm
  rw[ho]at ho';cases ho'
  exact⟨_,es',ep',hL,r'⟩) hok I.bare
theorem Ah.call {g':Array GenState}{t':Nat}{d':Drawn}{ch:List Addr}(I:Ah X pins σ H s)(u:Un (Hg X.stack) ch H H' s.heap h')(hok:Ej X.prog X.w H' h')(hg:AllBare g')
 (hch:∀ b∈ch,(b∈X.ex∨X.s₀.heap.objs.size≤b)∧b≠X.env.locals∧(∀ x c,X.env.cells.lookup x=some c→c≠b)∧∀ p∈X.pn++pins,p.1≠b):
 Ah X pins σ H' { s with heap:=h',gens:=g',drawn:=d',toks:=t' }:=by
 obtain⟨m,⟨o,es,ep,ho,r⟩,_⟩:=id I.loc
 obtain⟨sl,hL⟩:=u.any ho I.free fun z=>(hch _ z).2.1 rfl
 exact I.step (ch:=ch) hch (fun b o hL hb hc e n=>u.keep b o e n (fun z=>(List.mem_cons.mp (I.stkSub b z)).elim hL hb) hc) (fun b o _ _ hc e n=>u.any e n hc) (fun b o hc e n=>u.free b o e n hc) (fun b o hc e=>u.there b o e hc) u.tups u.frzs u.tbls (fun m' hm=>by
  obtain⟨o',es',ep',ho',r'⟩:=hm
  rw[ho]at ho';cases ho'
  exact⟨_,es',ep',hL,r'⟩) hok hg
theorem Ah.turned {t':Nat}{it:Addr}(I:Ah X pins σ H s)(k:∀ b o,b≠it→s.heap.get? b=some o→h'.get? b=some o)(hn:H it=none)(hL:it≠X.env.locals)
 (h1:it∈X.ex∨X.s₀.heap.objs.size≤it) (h2:∀ x c,X.env.cells.lookup x=some c→c≠it) (h3:∀ p∈X.pn++pins,p.1≠it):Ah X pins σ H { s with heap:=h',toks:=t' }:=by
 have nit:∀ b u,H b=some u→b≠it:=fun b u e z=>by rw[z,hn]at e;cases e
 refine I.step (g':=s.gens) (d':=s.drawn) (ch:=[it]) (fun b hb=>?_) (fun b o _ _ hc e _=>k b o (fun z=>hc (by simp[z])) e) (fun b o _ _ hc e _=>⟨o.slots,k b o (fun z=>hc (by simp[z])) e⟩) (fun _ _ _ _ n=>n)
  (fun b o hc e=>⟨o,k b o (fun z=>hc (by simp[z])) e⟩) (fun _ _ e=>e) (fun _ _ _ e=>e) (fun b ps e=>⟨#[],by rw[e];simp⟩) (fun m hm=>?_) (fun b u e=>?_) I.bare
 ·have e:b=it:=by simpa using hb
  subst e
  exact⟨h1,hL,h2,h3⟩
 ·obtain⟨o,es,ep,ho,r⟩:=hm
  exact⟨o,es,ep,k _ o (Ne.symm hL) ho,r⟩
 ·refine(I.hok b u e).stay (fun c v hc q=>k c v ?_ q) (fun _ q=>q) fun _ _ q=>q
  rcases hc with z | z
  ·rw[z];exact nit b u e
  ·exact nit c _ z
theorem Ah.tok (I:Ah X pins σ H s)(t:Nat):Ah X pins σ H { s with toks:=t }:=I.un (h':=s.heap) (t':=t) Un.refl I.hok
theorem Ah.kept {t':Nat}(I:Ah X pins σ H s)(k:∀ b u,s.heap.get? b=some u→h'.get? b=some u):Ah X pins σ H { s with heap:=h',toks:=t' }:=I.un (Un.kept k) (I.hok.kept k)
theorem Ah.laid {a:Addr}{o:HO}{t':Nat}(I:Ah X pins σ H s)(k:∀ b u,s.heap.get? b=some u→h'.get? b=some u)(hp:s.heap.objs.size≤a)(new:BI X.prog X.w (upd H a o) h' a o):
 Ah X pins σ (upd H a o) { s with heap:=h',toks:=t' }:=I.un (Un.laid k hp (I.hok.fresh hp)) (I.hok.laid k hp new)
theorem Ah.write {x e:Addr}{o:HO}{t':Nat}(I:Ah X pins σ H s)(mu:Q6 (H x))(he:e=x∨H e=some (.own x))(k:∀ b u,b≠e→s.heap.get? b=some u→h'.get? b=some u)(heo:∃ u,h'.get? e=some u)
 (new:BI X.prog X.w (upd H x o) h' x o):Ah X pins σ (upd H x o) { s with heap:=h',toks:=t' }:=I.un (Un.write mu he k heo) (I.hok.write mu he k heo new)
theorem Ah.pins_of {pins':List (Addr×Obj)}(I:Ah X pins σ H s)(h:∀ p∈pins',s.heap.get? p.1=some p.2∧H p.1=none∧p.1≠X.env.locals∧p.1∉X.fs∧∀ v,p.2.data≠.cell v):Ah X pins' σ H s:=
 ⟨I.ok,I.os,I.bare,I.base,I.loc,I.cell,I.free,I.freeC,fun p hp=>(List.mem_append.mp hp).elim (fun z=>I.pin p (List.mem_append_left _ z)) (h p),I.hok,I.len⟩
theorem JS {N:List Str}(hN:N.Nodup){i j:Nat}{x:Str}(a:N[i]?=some x)(b:N[j]?=some x):i=j:=by
 obtain⟨h1,e1⟩:=List.getElem?_eq_some_iff.mp a
 obtain⟨h2,e2⟩:=List.getElem?_eq_some_iff.mp b
 exact(List.getElem_inj hN).mp (e1.trans e2.symm)
theorem IC {M:Model}{A:Around}{E:Value→Shared→Prop}{i:Nat}{x:Str}{v:V}{u:Value}{Q:Unit→Shared→Prop}(I:Ah X pins σ H s)(hN:X.N.Nodup)(hi:X.N[i]?=some x)(hx:TD X.env.scope x)(r:Am v u)
 (h:∀ s',Ah X pins (σ.set i (some v)) H s'→(∃ a,Heap.SameBut a s.heap s'.heap∧(a=X.env.locals∨X.env.cells.lookup x=some a))→Q () s') (hf:X.fn x=true∨X.env.scope.names.lookup x=some .local:=by first | exact .inl rfl | exact .inr rfl | assumption):wpAny M A (storeName X.env x u) Q E s:=by
 obtain⟨m,hn,hl⟩:=id I.loc
 have hcls:(X.env.scope.kind==.class||(X.env.scope.kind==.module&&X.env.locals != X.env.globals))=false:=by rw[I.ok.kind];rfl
 have hiσ:i<σ.length:=by rw[I.len];exact(List.getElem?_eq_some_iff.mp hi).1
 have cne:=I.cne
 have tracked:∀{a:Addr} {h':Heap},(∃ o,s.heap.get? a=some o∧H a=none)→Heap.SameBut a s.heap h'→Ej X.prog X.w H h':=fun {a h'} ha hs b ob e=>by
  obtain⟨_,_,hfree⟩:=ha
  refine(I.hok b ob e).stay (fun c w' hc q=>(hs.2 c ?_).trans q) (fun _ q=>q) fun _ _ q=>q
  rintro rfl
  rcases hc with rfl | hc
  ·rw[hfree]at e;cases e
  ·rw[hfree]at hc;cases hc
 rcases hx with hk | hk
 ·refine wpAny_storeName_local hk hn (fun h' hn' hs=>?_) hcls
  obtain⟨oL,_,_,hoL,_⟩:=id hn
  refine h _ ⟨I.ok,I.os,I.bare,⟨fun b o e n hb hx=>?_,fun b o e n hb hx=>?_,I.base.free,fun b o e hx=>?_,I.base.tups,I.base.frzs,I.base.tbls⟩,⟨_,hn',fun j y v' e1 e2 e3=>?_⟩,fun y c e=>?_,I.free,I.freeC,fun p hp=>?_,tracked ⟨oL,hoL,I.free⟩ hs,by simpa using I.len⟩ ⟨_,hs,.inl rfl⟩
  ·exact(hs.2 b (Nat.ne_of_lt (Nat.lt_of_lt_of_le (Heap.lt_size e) I.ok.above))).trans (I.base.keep b o e n hb hx)
  ·obtain⟨sl,e1⟩:=I.base.slot b o e n hb hx
   exact⟨sl,(hs.2 b (Nat.ne_of_lt (Nat.lt_of_lt_of_le (Heap.lt_size e) I.ok.above))).trans e1⟩
  ·obtain⟨o',e1⟩:=I.base.there b o e hx
   exact⟨o',(hs.2 b (Nat.ne_of_lt (Nat.lt_of_lt_of_le (Heap.lt_size e) I.ok.above))).trans e1⟩
  ·by_cases hj:j=i
   ·subst hj
    rw[hi]at e1;cases e1
    rw[List.getElem?_set_self hiσ]at e2
    cases e2
    exact⟨u,r,.inl ⟨hk,by simp⟩⟩
   ·rw[List.getElem?_set_ne (Ne.symm hj)]at e2
    obtain⟨u',r',q⟩:=hl j y v' e1 e2 e3
    refine⟨u',r',?_⟩
    rcases q with⟨k,e⟩ | ⟨k,c,e,z⟩
    ·refine .inl ⟨k,?_⟩
     have:y≠x:=fun e=>hj (JS hN e1 (e▸hi))
     simp[this,e]
    ·exact .inr ⟨k,c,e,z.sameBut hs (cne y c e)⟩
  ·obtain⟨w',z⟩:=I.cell y c e
   exact⟨w',z.sameBut hs (cne y c e)⟩
  ·obtain⟨e,n,ne,nf,d⟩:=I.pin p hp
   exact⟨(hs.2 p.1 ne).trans e,n,ne,nf,d⟩
 ·have hfn:X.fn x=true:=by
   rcases hf with z | z
   ·exact z
   ·rw[z]at hk;cases hk
  obtain⟨c,hc⟩:=I.ok.has x (.inl hk)
  obtain⟨w',z⟩:=I.cell x c hc
  refine wpAny_storeName_cell I.ok.kind hk hc z (fun h' hc' hs=>?_)
  obtain⟨oc,hoc,hocd⟩:=id z
  refine h { s with heap:=h' } ⟨I.ok,I.os,I.bare,⟨fun b o e n hb hx=>?_,fun b o e n hb hx=>?_,I.base.free,fun b o e hx=>?_,I.base.tups,I.base.frzs,I.base.tbls⟩,⟨m,hn.sameBut hs (Ne.symm (cne x c hc)),fun j y v' e1 e2 e3=>?_⟩,fun y c' e=>?_,I.free,I.freeC,fun p hp=>?_,tracked ⟨oc,hoc,I.freeC x c hc⟩ hs,by simpa using I.len⟩ ⟨c,hs,.inr hc⟩
  ·exact(hs.2 b (Nat.ne_of_lt (Nat.lt_of_lt_of_le (Heap.lt_size e) (I.ok.cab x c hfn hc)))).trans (I.base.keep b o e n hb hx)
  ·obtain⟨sl,e1⟩:=I.base.slot b o e n hb hx
   exact⟨sl,(hs.2 b (Nat.ne_of_lt (Nat.lt_of_lt_of_le (Heap.lt_size e) (I.ok.cab x c hfn hc)))).trans e1⟩
  ·obtain⟨o',e1⟩:=I.base.there b o e hx
   exact⟨o',(hs.2 b (Nat.ne_of_lt (Nat.lt_of_lt_of_le (Heap.lt_size e) (I.ok.cab x c hfn hc)))).trans e1⟩
  ·by_cases hj:j=i
   ·subst hj
    rw[hi]at e1;cases e1
    rw[List.getElem?_set_self hiσ]at e2
    cases e2
    exact⟨u,r,.inr ⟨.inl hk,c,hc,hc'⟩⟩
   ·rw[List.getElem?_set_ne (Ne.symm hj)]at e2
    obtain⟨u',r',q⟩:=hl j y v' e1 e2 e3
    refine⟨u',r',?_⟩
    rcases q with q | ⟨k,c',e,z'⟩
    ·exact .inl q
    ·refine .inr ⟨k,c',e,z'.sameBut hs ?_⟩
     rintro rfl
     exact hj (JS hN e1 (I.ok.inj _ _ _ e hc▸hi))
  ·by_cases hcc:c'=c
   ·subst hcc;exact⟨_,hc'⟩
   ·obtain⟨w2,z2⟩:=I.cell y c' e
    exact⟨w2,z2.sameBut hs hcc⟩
  ·obtain⟨e,n,ne,nf,d⟩:=I.pin p hp
   refine⟨(hs.2 p.1 ?_).trans e,n,ne,nf,d⟩
   intro q
   rw[q,hoc]at e
   have q':oc=p.2:=Option.some.inj e
   exact d w' (by rw[← q'];exact hocd)
theorem JT {M:Model}{A:Around}{E:Value→Shared→Prop}{i:Nat}{x:Str}{v:V}{u:Value}{Q:Unit→Shared→Prop}(I:Ah X pins σ H s)(hN:X.N.Nodup)(hi:X.N[i]?=some x)(hx:TD X.env.scope x)(r:Am v u)
 (h:∀ s',Ah X pins (σ.set i (some v)) H s'→Q () s') (hf:X.fn x=true∨X.env.scope.names.lookup x=some .local:=by first | exact .inl rfl | exact .inr rfl | assumption):wpAny M A (storeName X.env x u) Q E s:=
 IC I hN hi hx r (fun s' I' _=>h s' I') hf
theorem Ah.call' {s':Shared}{ch:List Addr}(I:Ah X pins σ H s)(ho:s'.os=s.os)(u:Un (Hg X.stack) ch H H' s.heap s'.heap)(hok:Ej X.prog X.w H' s'.heap)(hg:AllBare s'.gens)
 (hch:∀ b∈ch,(b∈X.ex∨X.s₀.heap.objs.size≤b)∧b≠X.env.locals∧(∀ x c,X.env.cells.lookup x=some c→c≠b)∧∀ p∈X.pn++pins,p.1≠b):Ah X pins σ H' s':=by
 obtain⟨h',g',d',t',o'⟩:=s'
 have e:o'=s.os:=ho
 subst e
 exact I.call (g':=g') (t':=t') (d':=d') u hok hg hch
end
abbrev XK:=Value→Option Addr→Hp→Prop
abbrev St:=List (Option V)
abbrev VK:=V→Hp→Prop
abbrev TE:=St→Hp→VK→Prop
abbrev TT:=St→Hp→(Bool→Hp→Prop)→Prop
abbrev TA:=St→Hp→(List V→Hp→Prop)→Prop
structure Gb where
 nx:St→Hp→Prop
 rt:VK
 bk:St→Hp→Prop:=fun _ _=>False
 ct:St→Hp→Prop:=fun _ _=>False
abbrev TS:=Gb→St→Hp→Prop
def EP (X:Cx)(pins:List (Addr×Obj))(σ:St)(Q:VK)(u:Value)(s':Shared):Prop:=∃ v H',Ah X pins σ H' s'∧Am v u∧Q v H'
def TP (X:Cx)(pins:List (Addr×Obj))(σ:St)(Q:Bool→Hp→Prop)(b:Bool)(s':Shared):Prop:=∃ H',Ah X pins σ H' s'∧Q b H'
def AP (X:Cx)(pins:List (Addr×Obj))(σ:St)(Q:List V→Hp→Prop)(us:List Value)(s':Shared):Prop:=∃ vs H',Ah X pins σ H' s'∧A2 vs us∧Q vs H'
def SP (X:Cx)(pins:List (Addr×Obj))(D:Gb)(f:Flow)(s':Shared):Prop:=
 match f with
 | .next=>∃ σ' H',Ah X pins σ' H' s'∧D.nx σ' H'
 | .brk=>∃ σ' H',Ah X pins σ' H' s'∧D.bk σ' H'
 | .cont=>∃ σ' H',Ah X pins σ' H' s'∧D.ct σ' H'
 | .ret u=>∃ v σ' H',Ah X pins σ' H' s'∧Am v u∧D.rt v H'
def PE (X:Cx)(e:Expr)(t:TE):Prop:=
 ∀(pins:List (Addr×Obj)) (s:Shared) (σ:St) (H:Hp) (Q:VK),Ah X pins σ H s→t σ H Q→wpAny (model X.prog X.w) X.A (eval e X.env) (EP X pins σ Q) X.xe s
def PT (X:Cx)(e:Expr)(t:TT):Prop:=
 ∀(pins:List (Addr×Obj)) (s:Shared) (σ:St) (H:Hp) (Q:Bool→Hp→Prop),Ah X pins σ H s→t σ H Q→wpAny (model X.prog X.w) X.A (isTrue e X.env (eval e X.env)) (TP X pins σ Q) X.xe s
def PW (X:Cx)(e:Expr)(t:TT):Prop:=
 ∀(whole:Sem Value) (pins:List (Addr×Obj)) (s:Shared) (σ:St) (H:Hp) (Q:Bool→Hp→Prop),Ah X pins σ H s→t σ H Q→wpAny (model X.prog X.w) X.A (isTrue e X.env whole) (TP X pins σ Q) X.xe s
theorem PW.pt {X:Cx}{e:Expr}{t:TT}(h:PW X e t):PT X e t:=h _
def PA (X:Cx)(es:List Expr)(t:TA):Prop:=
 ∀(pos:Pos) (pins:List (Addr×Obj)) (s:Shared) (σ:St) (H:Hp) (Q:List V→Hp→Prop),Ah X pins σ H s→t σ H Q→wpAny (model X.prog X.w) X.A (spliced (backTo pos (starEach es X.env))) (AP X pins σ Q) X.xe s
def PS (X:Cx)(st:Stmt)(t:TS):Prop:=
 ∀(pins:List (Addr×Obj)) (s:Shared) (σ:St) (H:Hp) (D:Gb),Ah X pins σ H s→t D σ H→wpAny (model X.prog X.w) X.A (exec st X.env) (SP X pins D) X.xe s
def JU (X:Cx)(st:List Stmt)(t:TS):Prop:=
 ∀(pins:List (Addr×Obj)) (s:Shared) (σ:St) (H:Hp) (D:Gb),Ah X pins σ H s→t D σ H→wpAny (model X.prog X.w) X.A (execs st X.env) (SP X pins D) X.xe s
theorem BZ {α:Type}{t:Sem α}{Q Q':α→Shared→Prop}{M:Model}{A:Around}{E:Value→Shared→Prop}{s:Shared}(h:wpAny M A t Q E s)(hQ:∀ a s,Q a s→Q' a s):wpAny M A t Q' E s:=wpAny_mono h hQ fun _ _ x=>x
section
variable {X:Cx}
def Pm (i:Nat):TE:=fun σ H Q=>∃ v,σ[i]?=some (some v)∧Q v H
def tC (v:V):TE:=fun _ H Q=>Q v H
theorem Pn {i:Nat}{x:Str}{pos:Pos}(hN:X.N[i]?=some x)(hv:UM X.env.scope x)(hd:(x==("__debug__":Str))=false:=by decide)(hcd:(x==("__classdict__":Str))=false:=by decide):PE X (.Name x pos) (Pm i):=by
 intro pins s σ H Q I h
 obtain⟨v,e,h⟩:=h
 obtain⟨m,hn,hl⟩:=I.loc
 obtain⟨u,r,l⟩:=hl i x v hN e hv
 have fin:EP X pins σ Q u s:=⟨v,H,I,r,h⟩
 rcases l with⟨hk,hm⟩ | ⟨hk,c,hc,hcell⟩
 ·exact wpAny_Name (wpAny_loadName_local I.ok.kind hk hn hm fin) hd
 ·rcases hk with hk | hk
  ·exact wpAny_Name (wpAny_loadName_cell I.ok.kind hk hc hcell fin) hd
  ·exact wpAny_Name (wpAny_loadName_free I.ok.kind hk hc hcell fin hcd) hd
theorem AC {i j pos}:PE X (.Constant (.int i) j pos) (tC (.int i)):=fun _ _ _ H _ I h=>wpAny_Constant_int ⟨.int i,H,I.tok _,⟨_,rfl⟩,h⟩
theorem BV {b j pos}:PE X (.Constant (.bool b) j pos) (tC (.bl b)):=fun _ _ _ H _ I h=>Constant_bool ⟨.bl b,H,I,rfl,h⟩
theorem Da {j pos}:PE X (.Constant .none j pos) (tC .non):=fun _ _ _ H _ I h=>Constant_none ⟨.non,H,I,rfl,h⟩
theorem AU {x j pos}:PE X (.Constant (.str x) j pos) (tC (.str x)):=fun _ _ _ H _ I h=>Calls.Constant_str ⟨.str x,H,I.tok _,⟨_,rfl⟩,h⟩
def Gl (X:Cx)(x:Str):Prop:=X.env.kindOf x=some .globalImplicit
theorem FB {E:Value→Shared→Prop}{pins:List (Addr×Obj)}{s:Shared}{σ:St}{H:Hp}{x:Str}{u:Value}{pos:Pos}{Q:Value→Shared→Prop}(I:Ah X pins σ H s)(hg:Gl X x)(hm:X.mg x=some u)(h:Q u s)
 (hd:(x==("__debug__":Str))=false:=by decide):wpAny (model X.prog X.w) X.A (eval (.Name x pos) X.env) Q E s:=
 Calls.Name_function_global I.ok.kind hg (Calls.loadGlobal_global (by rw[I.ok.glob];exact I.mod.glob.keeps I.bk) hm h) hd
theorem DJ {E:Value→Shared→Prop}{pins:List (Addr×Obj)}{s:Shared}{σ:St}{H:Hp}{x:Str}{u:Value}{pos:Pos}{Q:Value→Shared→Prop}(I:Ah X pins σ H s)(hg:Gl X x)(hm:X.mg x=none)(hv:bootBuiltins x=some u)(h:Q u s)
 (hn:x≠"__name__":=by decide) (hd:(x==("__debug__":Str))=false:=by decide):wpAny (model X.prog X.w) X.A (eval (.Name x pos) X.env) Q E s:=by
 obtain⟨mb,h1,h2⟩:=I.mod.blt
 exact Calls.Name_function_global I.ok.kind hg (Calls.loadGlobal_builtin (by rw[I.ok.glob];exact I.mod.glob.keeps I.bk) hm (by rw[I.ok.blt];exact h1.keeps I.bk) ((h2 x hn).trans hv) h) hd
theorem LM {x:Str}{v:V}{u:Value}{pos:Pos}(hg:Gl X x)(hm:X.mg x=some u)(r:Am v u)(hd:(x==("__debug__":Str))=false:=by decide):PE X (.Name x pos) (tC v):=
 fun _ _ _ H _ I h=>FB I hg hm ⟨v,H,I,r,h⟩ hd
theorem OC {x:Str}{v:V}{u:Value}{pos:Pos}(hg:Gl X x)(hm:X.mg x=none)(hv:bootBuiltins x=some u)(r:Am v u)(hn:x≠"__name__":=by decide)(hd:(x==("__debug__":Str))=false:=by decide):PE X (.Name x pos) (tC v):=
 fun _ _ _ H _ I h=>DJ I hg hm hv ⟨v,H,I,r,h⟩ hn hd
variable {a b:Expr}{ta tb:TE}{pos:Pos}
def tB (t:TE):TT:=fun σ H Q=>t σ H fun x H1=>∃ c,x=.bl c∧Q c H1
theorem Av {e:Expr}{t:TE}(h:PE X e t)(he:∀ whole,isTrue e X.env whole=(do let v ← whole;standAt e.pos;holding [v] (truthy v)):=by intro _;rfl):PT X e (tB t):=by
 intro pins s σ H Q I hw
 refine isTrue_plain (BZ (h pins s σ H _ I hw) fun v s1 zq=>?_) (he _)
 obtain⟨x,H1,I1,r1,q1⟩:=zq
 obtain⟨d,rfl,q⟩:=q1
 cases r1
 exact wpAny_truthy_bool ⟨H1,I1,q⟩
variable {tA tB':TT}{rest:List Expr}
def Tb (t u:TT):TT:=fun σ H Q=>t σ H fun c H1=>if c=true then u σ H1 Q else Q false H1
def Ub (t u:TT):TT:=fun σ H Q=>t σ H fun c H1=>if c=true then Q true H1 else u σ H1 Q
def Tc (t:TT):TT:=fun σ H Q=>t σ H fun c H1=>Q (!c) H1
theorem Ib (ha:PT X a tA):PW X (.BoolOp .And [a] pos) tA:=by
 intro wh pins s σ H Q I h
 refine isTrue_and (BZ (ha pins s σ H Q I h) fun c s1 e=>?_)
 cases c with
 | true=>exact isTrue_and_nil e
 | false=>exact e
theorem Ba (ha:PT X a tA):PW X (.BoolOp .Or [a] pos) tA:=by
 intro wh pins s σ H Q I h
 refine isTrue_or (BZ (ha pins s σ H Q I h) fun c s1 e=>?_)
 cases c with
 | false=>exact isTrue_or_nil e
 | true=>exact e
theorem KQ (ha:PT X a tA)(hb:PW X (.BoolOp .And (b::rest) pos) tB'):PW X (.BoolOp .And (a::b::rest) pos) (Tb tA tB'):=by
 intro wh pins s σ H Q I h
 refine isTrue_and (BZ (ha pins s σ H _ I h) fun c s1 zq=>?_)
 obtain⟨H1,I1,q1⟩:=zq
 cases c with
 | true=>exact hb wh pins s1 σ H1 Q I1 q1
 | false=>exact⟨H1,I1,q1⟩
theorem Bg (ha:PT X a tA)(hb:PW X (.BoolOp .Or (b::rest) pos) tB'):PW X (.BoolOp .Or (a::b::rest) pos) (Ub tA tB'):=by
 intro wh pins s σ H Q I h
 refine isTrue_or (BZ (ha pins s σ H _ I h) fun c s1 zq=>?_)
 obtain⟨H1,I1,q1⟩:=zq
 cases c with
 | true=>exact⟨H1,I1,q1⟩
 | false=>exact hb wh pins s1 σ H1 Q I1 q1
theorem A7 (ha:PT X a tA):PT X (.UnaryOp .Not a pos) (Tc tA):=by
 intro pins s σ H Q I h
 exact isTrue_not (ha pins s σ H (fun c H1=>Q (!c) H1) I h)
def Q7 (ta tb:TE):TE:=fun σ H Q=>ta σ H fun x H1=>∃ c,x=.bl c∧if c=true then tb σ H1 Q else Q (.bl false) H1
def Td (ta tb:TE):TE:=fun σ H Q=>ta σ H fun x H1=>∃ c,x=.bl c∧if c=true then Q (.bl true) H1 else tb σ H1 Q
def Q8 (ta:TE):TE:=fun σ H Q=>ta σ H fun x H1=>∃ c,x=.bl c∧Q (.bl (!c)) H1
theorem Aw {op}{t:TE}(h:PE X a t):PE X (.BoolOp op [a] pos) t:=fun pins s σ H Q I hw=>BoolOp_one (h pins s σ H Q I hw)
theorem Aj (ha:PE X a ta)(hb:PE X (.BoolOp .And (b::rest) pos) tb):PE X (.BoolOp .And (a::b::rest) pos) (Q7 ta tb):=by
 intro pins s σ H Q I h
 refine BoolOp_and (BZ (ha pins s σ H _ I h) fun v s1 zq=>?_)
 obtain⟨x,H1,I1,r1,q1⟩:=zq
 obtain⟨c,rfl,q1⟩:=q1
 cases r1
 refine wpAny_truthy_bool ?_
 cases c with
 | true=>exact hb pins s1 σ H1 Q I1 q1
 | false=>exact⟨.bl false,H1,I1,rfl,q1⟩
theorem PD (ha:PE X a ta)(hb:PE X (.BoolOp .Or (b::rest) pos) tb):PE X (.BoolOp .Or (a::b::rest) pos) (Td ta tb):=by
 intro pins s σ H Q I h
 refine BoolOp_or (BZ (ha pins s σ H _ I h) fun v s1 zq=>?_)
 obtain⟨x,H1,I1,r1,q1⟩:=zq
 obtain⟨c,rfl,q1⟩:=q1
 cases r1
 refine wpAny_truthy_bool ?_
 cases c with
 | false=>exact hb pins s1 σ H1 Q I1 q1
 | true=>exact⟨.bl true,H1,I1,rfl,q1⟩
theorem KR (ha:PE X a ta):PE X (.UnaryOp .Not a pos) (Q8 ta):=by
 intro pins s σ H Q I h
 refine UnaryOp_ (BZ (ha pins s σ H _ I h) fun v s1 zq=>?_)
 obtain⟨x,H1,I1,r1,q1⟩:=zq
 obtain⟨c,rfl,q1⟩:=q1
 cases r1
 exact not_of (wpAny_truthy_bool ⟨.bl (!c),H1,I1,rfl,q1⟩)
end
def A3 (K:PySem.W.Frag)(H:Hp)(a:Addr)(xs:List V):Prop:=
 Rd H a (.lst xs)∨
  ∃(o:Obj) (its:Array Value) (n:Nat),K.lookup a=some o∧o.cls=.type "list"∧o.dict=none∧o.data=.seq its n∧its.size≤sizeLine∧A2 xs its.toList
def Ao (K:PySem.W.Frag)(H:Hp)(a:Addr)(xs:List V):Prop:=
 Rd H a (.tup xs)∨
  ∃(o:Obj) (its:Array Value) (n:Nat),K.lookup a=some o∧o.cls=.type "tuple"∧o.data=.seq its n∧its.size≤sizeLine∧A2 xs its.toList
def Te:Value→Option V
 | .none=>some .non
 | .bool b=>some (.bl b)
 | .int i _=>some (.int i)
 | .str x _=>some (.str x)
 | .bytes b _=>some (.byt b)
 | .float b _=>some (.flt b)
 | .ref a=>some (.ref a)
 | .type n=>some (.ty n)
 | _=>none
theorem Am.abs {x:V}{u:Value}(r:Am x u):Te u=some x:=by
 cases x with
 | non=>cases r;rfl
 | bl _=>cases r;rfl
 | int _=>obtain⟨t,rfl⟩:=r;rfl
 | str _=>obtain⟨t,rfl⟩:=r;rfl
 | byt _=>obtain⟨t,rfl⟩:=r;rfl
 | flt _=>obtain⟨t,rfl⟩:=r;rfl
 | ref _=>cases r;rfl
 | ty _=>cases r;rfl
theorem Am.inj {x y:V}{u:Value}(r:Am x u)(q:Am y u):x=y:=Option.some.inj (r.abs.symm.trans q.abs)
theorem A2.inj:∀{xs ys:List V} {us:List Value},A2 xs us→A2 ys us→xs=ys:=by
 intro A B C h g
 induction h generalizing B with
 | nil=>
  cases g
  rfl
 | cons r t ih=>
  cases g with
  | cons r' t'=>rw[r.inj r',ih t']
section
variable {X:Cx}{pins:List (Addr×Obj)}{σ:St}{H:Hp}{s:Shared}{a:Addr}{xs ys:List V}
theorem A3.of {K:PySem.W.Frag}(h:H a=some (.lst xs)):A3 K H a xs:=.inl (.inl h)
theorem Ao.of {K:PySem.W.Frag}(h:H a=some (.tup xs)):Ao K H a xs:=.inl (.inl h)
theorem Ah.list (I:Ah X pins σ H s)(h:A3 X.K H a xs):∃ its:List Value,A2 xs its∧PlainL s.heap a its.toArray∧xs.length≤sizeLine:=by
 rcases h with h | ⟨o,its,n,hk,hc,hd,hs,hz,r⟩
 ·obtain⟨z,its,n,r,e⟩:=h.ok I.hok
  exact⟨its,r,⟨_,n,e,rfl,rfl,rfl⟩,z⟩
 ·refine⟨its.toList,r,⟨o,n,I.kIn a o hk,hc,hd,by simpa using hs⟩,?_⟩
  have e:=r.length
  simp only[Array.length_toList]at e
  omega
theorem Ah.tuple (I:Ah X pins σ H s)(h:Ao X.K H a xs):∃ its:List Value,A2 xs its∧IsTup s.heap a its.toArray∧xs.length≤sizeLine:=by
 rcases h with h | ⟨o,its,n,hk,hc,hs,hz,r⟩
 ·obtain⟨z,its,r,p⟩:=h.ok I.hok
  exact⟨its,r,p,z⟩
 ·refine⟨its.toList,r,⟨o,I.kIn a o hk,hc,n,by simpa using hs⟩,?_⟩
  have e:=r.length
  simp only[Array.length_toList]at e
  omega
theorem Ah.list_inj (I:Ah X pins σ H s)(h:A3 X.K H a xs)(h':A3 X.K H a ys):xs=ys:=by
 obtain⟨its,r,⟨o,n,e,_,_,d⟩,_⟩:=I.list h
 obtain⟨its',r',⟨o',n',e',_,_,d'⟩,_⟩:=I.list h'
 rw[e]at e';cases e'
 rw[d]at d'
 injection d' with d1 _
 have:its=its':=by simpa using congrArg Array.toList d1
 subst this
 exact r.inj r'
theorem Ah.tuple_inj (I:Ah X pins σ H s)(h:Ao X.K H a xs)(h':Ao X.K H a ys):xs=ys:=by
 obtain⟨its,r,⟨o,e,_,n,d⟩,_⟩:=I.tuple h
 obtain⟨its',r',⟨o',e',_,n',d'⟩,_⟩:=I.tuple h'
 rw[e]at e';cases e'
 rw[d]at d'
 injection d' with d1 _
 have:its=its':=by simpa using congrArg Array.toList d1
 subst this
 exact r.inj r'
end
abbrev Cx.wish (X:Cx)(E:Value→Shared→Prop):Cx:={ X with xe:=E }
abbrev Cx.nox (X:Cx):Cx:=X.wish fun _ _=>False
theorem Cx.Ok.wish {X:Cx}(ok:X.Ok)(E:Value→Shared→Prop):(X.wish E).Ok:=
 ⟨ok.mod,ok.kind,ok.glob,ok.blt,ok.above,ok.inj,ok.has,ok.cab,ok.hd,ok.frames,ok.stk,ok.exf,ok.bs,ok.bsz,ok.noex,ok.exfs,ok.funs,ok.frf⟩
theorem Cx.Ok.unwish {X:Cx}{E:Value→Shared→Prop}(ok:(X.wish E).Ok):X.Ok:=
 ⟨ok.mod,ok.kind,ok.glob,ok.blt,ok.above,ok.inj,ok.has,ok.cab,ok.hd,ok.frames,ok.stk,ok.exf,ok.bs,ok.bsz,ok.noex,ok.exfs,ok.funs,ok.frf⟩
section
variable {X:Cx}{pins:List (Addr×Obj)}{σ:St}{H:Hp}{s:Shared}{E:Value→Shared→Prop}
theorem Ah.wish (I:Ah X pins σ H s)(E:Value→Shared→Prop):Ah (X.wish E) pins σ H s:=⟨I.ok.wish E,I.os,I.bare,I.base,I.loc,I.cell,I.free,I.freeC,I.pin,I.hok,I.len⟩
theorem Ah.unwish (I:Ah (X.wish E) pins σ H s):Ah X pins σ H s:=⟨I.ok.unwish,I.os,I.bare,I.base,I.loc,I.cell,I.free,I.freeC,I.pin,I.hok,I.len⟩
theorem SP.unwish {D:Gb}{f:Flow}{s':Shared}(h:SP (X.wish E) pins D f s'):SP X pins D f s':=by
 cases f with
 | next=>obtain⟨σ',H',I,q⟩:=h;exact⟨σ',H',I.unwish,q⟩
 | brk=>obtain⟨σ',H',I,q⟩:=h;exact⟨σ',H',I.unwish,q⟩
 | cont=>obtain⟨σ',H',I,q⟩:=h;exact⟨σ',H',I.unwish,q⟩
 | ret u=>obtain⟨v,σ',H',I,r,q⟩:=h;exact⟨v,σ',H',I.unwish,r,q⟩
theorem JU.nox {st:List Stmt}{t:TS}(h:JU X.nox st t):JU X st t:=fun pins s σ H D I hw=>
 wpAny_mono (h pins s σ H D (I.wish _) hw) (fun _ _ q=>q.unwish) fun _ _ z=>False.elim z
end
section
variable {X:Cx}{st:Stmt}{rest:List Stmt}{t u:TS}{e:Expr}{te:TE}{pos:Pos}
def Q9:TS:=fun D σ H=>D.nx σ H
def RA (t u:TS):TS:=fun D σ H=>t { D with nx:=u D } σ H
theorem AR:JU X [] Q9:=fun _ _ σ H _ I h=>wpAny_execs_nil ⟨σ,H,I,h⟩
theorem AF (h1:PS X st t)(h2:JU X rest u):JU X (st::rest) (RA t u):=by
 intro pins s σ H D I h
 refine wpAny_execs_cons (BZ (h1 pins s σ H { D with nx:=u D } I h) fun f s1 q=>?_)
 cases f with
 | next=>
  obtain⟨σ',H',I',q⟩:=q
  exact h2 pins s1 σ' H' D I' q
 | ret v=>exact q
 | brk=>exact q
 | cont=>exact q
theorem AG (h1:PS X st t):JU X [st] t:=by
 intro pins s σ H D I h
 refine wpAny_execs_cons (BZ (h1 pins s σ H D I h) fun f s1 q=>?_)
 cases f with
 | next=>exact wpAny_execs_nil q
 | ret v=>exact q
 | brk=>exact q
 | cont=>exact q
theorem Ah.quiet {pins:List (Addr×Obj)}{σ:St}{H:Hp}{s:Shared}(I:Ah X pins σ H s):interactive X.env=false:=by simp[interactive,I.ok.kind]
def RB (te:TE):TS:=fun D σ H=>te σ H fun _ H1=>D.nx σ H1
theorem EV (he:PE X e te)(hs:swapsWith e none pos.line X.env=pure false:=by rfl):PS X (.Expr e pos) (RB te):=by
 intro pins s σ H D I h
 exact wpAny_Expr_any (BZ (he pins s σ H _ I h) fun v s1 ⟨x,H1,I1,r1,q1⟩=>⟨σ,H1,I1,q1⟩) I.quiet hs
def Tf (te:TE):TS:=fun D σ H=>te σ H D.rt
theorem AJ (he:PE X e te):PS X (.Return (some e) pos) (Tf te):=by
 intro pins s σ H D I h
 exact wpAny_Return_some (BZ (he pins s σ H _ I h) fun v s1 ⟨x,H1,I1,r1,q1⟩=>⟨x,σ,H1,I1,r1,q1⟩)
def Tg (c:TT)(t u:TS):TS:=fun D σ H=>c σ H fun b H1=>if b=true then t D σ H1 else u D σ H1
theorem Af {c:Expr}{a b:List Stmt}{tc:TT}(hc:PT X c tc)(ha:JU X a t)(hb:JU X b u):PS X (.If c a b pos) (Tg tc t u):=by
 intro pins s σ H D I h
 refine wpAny_If (BZ (hc pins s σ H _ I h) fun d s1 zq=>?_)
 obtain⟨H1,I1,q1⟩:=zq
 cases d with
 | true=>exact ha pins s1 σ H1 D I1 q1
 | false=>exact hb pins s1 σ H1 D I1 q1
def Po:TS:=fun _ _ _=>False
theorem Dw:PS X st Po:=fun _ _ _ _ _ _ h=>h.elim
end
abbrev TG:=V→St→Hp→(St→Hp→Prop)→Prop
abbrev OD:=List V→St→Hp→(St→Hp→Prop)→Prop
def PG (X:Cx)(target:Expr)(t:TG):Prop:=
 ∀(pins:List (Addr×Obj)) (s:Shared) (σ:St) (H:Hp) (v:V) (u:Value) (Q:St→Hp→Prop),Ah X pins σ H s→Am v u→t v σ H Q→
  wpAny (model X.prog X.w) X.A (assign target X.env u) (fun _ s'=>∃ σ' H',Ah X pins σ' H' s'∧Q σ' H') X.xe s
def Qz (X:Cx)(ts:List Expr)(t:OD):Prop:=
 ∀(pins:List (Addr×Obj)) (s:Shared) (σ:St) (H:Hp) (vs:List V) (us:List Value) (Q:St→Hp→Prop),Ah X pins σ H s→A2 vs us→t vs σ H Q→
  wpAny (model X.prog X.w) X.A (assignInOrder ((assignEach ts X.env).map (·.2)) us) (fun _ s'=>∃ σ' H',Ah X pins σ' H' s'∧Q σ' H') X.xe s
abbrev Ic:=V→V→V→Hp→(Hp→Prop)→Prop
def RC (X:Cx)(t:Ic):Prop:=
 ∀(pins:List (Addr×Obj)) (s:Shared) (σ:St) (H:Hp) (o i v:V) (ov iv u:Value) (Q:Hp→Prop),Ah X pins σ H s→Am o ov→Am i iv→Am v u→t o i v H Q→
  wpAny (model X.prog X.w) X.A (setItem ov iv u) (fun _ s'=>∃ H',Ah X pins σ H' s'∧Q H') X.xe s
section
variable {X:Cx}{pos:Pos}
def DU (i:Nat):TG:=fun v σ H Q=>Q (σ.set i (some v)) H
theorem Be {i:Nat}{x:Str}(hN:X.N.Nodup)(hi:X.N[i]?=some x)(hx:TD X.env.scope x)(hf:X.fn x=true∨X.env.scope.names.lookup x=some .local:=by first | exact .inl rfl | exact .inr rfl | assumption):PG X (.Name x pos) (DU i):=by
 intro pins s σ H v u Q I r h
 exact wpAny_assign_Name (JT I hN hi hx r (fun s' I'=>⟨_,H,I',h⟩) hf)
def OE:OD:=fun vs σ H Q=>vs=[]∧Q σ H
def Gc (t:TG)(u:OD):OD:=fun vs σ H Q=>∃ v r,vs=v::r∧t v σ H fun σ' H'=>u r σ' H' Q
theorem Id:Qz X [] OE:=by
 intro pins s σ H vs us Q I r h
 obtain⟨e,h⟩:=h
 subst e
 cases r
 exact assignInOrder_nil ⟨σ,H,I,h⟩
theorem Ci {e:Expr}{es:List Expr}{t:TG}{u:OD}(h1:PG X e t)(h2:Qz X es u)
 (hs:(assignEach (e::es) X.env).map (·.2)=assign e X.env::(assignEach es X.env).map (·.2):=by rfl):Qz X (e::es) (Gc t u):=by
 intro pins s σ H vs us Q I r h
 obtain⟨v,vr,e1,h⟩:=h
 subst e1
 cases r with
 | cons r rr=>
  rw[hs]
  refine assignInOrder_cons (BZ (h1 pins s σ H _ _ _ I r h) fun _ s1 zq=>?_)
  obtain⟨σ1,H1,I1,q1⟩:=zq
  exact h2 pins s1 σ1 H1 _ _ Q I1 rr q1
def OF (K:PySem.W.Frag)(n:Nat)(t:OD):TG:=fun v σ H Q=>∃ a xs,v=.ref a∧Ao K H a xs∧xs.length=n∧t xs σ H Q
theorem Mi {es:List Expr}{k:Nat}{t:OD}{n:Nat}(hc:X.calm=true)(h:Qz X es t)
 (hn:(assignEach es X.env).length=n:=by rfl) (hst:(assignEach es X.env).findIdx? (·.1)=none:=by rfl):PG X (.Tuple es k pos) (OF X.K n t):=by
 intro pins s σ H v u Q I r hw
 obtain⟨a,xs,e1,hq,hl,hw⟩:=hw
 subst e1
 cases r
 obtain⟨its,rv,ht,hz⟩:=I.tuple hq
 refine assign_Tuple_tuple (I.ok.hd hc) ht (by simp[hn,← hl,rv.length]) hst fun h' hx=>?_
 have I1:Ah X pins σ H { s with heap:=h' }:=I.kept (t':=s.toks) fun b o e=>hx b o (Nat.ne_of_lt (Heap.lt_size e)) e
 exact h pins _ σ H xs _ Q I1 (by simpa using rv) hw
def Th (to ti:TE)(t:Ic):TG:=fun v σ H Q=>to σ H fun o H1=>ti σ H1 fun i H2=>t o i v H2 fun H3=>Q σ H3
theorem Mj {o i:Expr}{to ti:TE}{t:Ic}(ho:PE X o to)(hi:PE X i ti)(hs:RC X t)
 (ha:∀ v,assign (.Subscript o i pos) X.env v=(do
  let ov ← holding [v] (eval o X.env)
  let iv ← holding [v,ov] (eval i X.env)
  standAt pos
  holding [v,ov,iv] (setItem ov iv v)
  release [v,ov,iv] []):=by intro _;rfl):PG X (.Subscript o i pos) (Th to ti t):=by
 intro pins s σ H v u Q I r h
 rw[ha]
 refine wpAny_bind (wpAny_holding (BZ (ho pins s σ H _ I h) fun ov s1 zq=>?_))
 obtain⟨x,H1,I1,r1,q1⟩:=zq
 refine wpAny_bind (wpAny_holding (BZ (hi pins s1 σ H1 _ I1 q1) fun iv s2 zq=>?_))
 obtain⟨y,H2,I2,r2,q2⟩:=zq
 refine wpAny_bind (wpAny_standAt (wpAny_bind (wpAny_holding (BZ (hs pins s2 σ H2 x y v ov iv u _ I2 r1 r2 r q2) fun _ s3 zq=>?_))))
 obtain⟨H3,I3,q3⟩:=zq
 exact wpAny_release ⟨σ,H3,I3,q3⟩
def Pp (te:TE)(g:TG):TS:=fun D σ H=>te σ H fun x H1=>g x σ H1 D.nx
theorem KS {tg e:Expr}{te:TE}{g:TG}(he:PE X e te)(hg:PG X tg g)(hs:swapsWithSole [tg] e pos.line X.env=pure false:=by rfl)(hw:swappedStores [tg] e X.env=pure none:=by rfl)
 (h1:(assignEach [tg] X.env).map (·.2)=[assign tg X.env]:=by rfl):PS X (.Assign [tg] e pos) (Pp te g):=by
 intro pins s σ H D I h
 refine wpAny_Assign_stores (BZ (he pins s σ H _ I h) fun v s1 zq=>?_) hs hw
 obtain⟨x,H1,I1,r1,q1⟩:=zq
 rw[h1]
 exact BZ (hg pins s1 σ H1 x v _ I1 r1 q1) fun _ s2 q=>q
theorem Al {i:Nat}{x:Str}{e:Expr}{te:TE}{pos':Pos}(hN:X.N.Nodup)(hi:X.N[i]?=some x)(hx:TD X.env.scope x)(he:PE X e te)(hs:swapsWith e (some (.Name x pos')) pos.line X.env=pure false:=by rfl)(hf:X.fn x=true∨X.env.scope.names.lookup x=some .local:=by first | exact .inl rfl | exact .inr rfl | assumption):
 PS X (.Assign [.Name x pos'] e pos) (Pp te (DU i)):=by
 intro pins s σ H D I h
 refine wpAny_Assign_Name (BZ (he pins s σ H _ I h) fun v s1 zq=>?_) hs
 obtain⟨y,H1,I1,r1,q1⟩:=zq
 exact JT I1 hN hi hx r1 (fun s2 I2=>⟨_,H1,I2,q1⟩) hf
end
section
variable {X:Cx}{pos:Pos}
def Mk (c:TT)(tb:TS):TS:=fun D σ H=>∃ W:Nat→St→Hp→Prop,(∃ m,W m σ H)∧∀ m σ H,W m σ H→
 c σ H fun b H1=>if b=true then ∃ N:St→Hp→Prop,(∀ σ' H',N σ' H'→∃ m',m'<m∧W m' σ' H')∧tb { D with nx:=N,ct:=N,bk:=D.nx } σ H1 else D.nx σ H1
theorem Gd {c:Expr}{body:List Stmt}{tc:TT}{tb:TS}(hp:PassesOwn (model X.prog X.w) X.A X.env X.xe)(hc:PT X c tc)(hb:JU X body tb):PS X (.While c body [] pos) (Mk tc tb):=by
 intro pins s σ H D I h
 obtain⟨W,⟨m0,w0⟩,turn⟩:=h
 refine wpAny_While (codeAny_whileLoop (fun n s'=>∃ σ' H',Ah X pins σ' H' s'∧W n σ' H') ?_ m0 ⟨σ,H,I,w0⟩)
 rintro n s1 ⟨σ1,H1,I1,w1⟩
 refine wpAny_passesOwn hp (BZ (hc pins s1 σ1 H1 _ I1 (turn n σ1 H1 w1)) fun b s2 zq=>?_)
 obtain⟨H2,I2,q2⟩:=zq
 cases b with
 | true=>
  obtain⟨N,hN,q2⟩:=q2
  rw[if_pos rfl]
  refine wpAny_passesOwn hp (BZ (hb pins s2 σ1 H2 _ I2 q2) fun f s3 q3=>?_)
  cases f with
  | next=>
   obtain⟨σ3,H3,I3,n3⟩:=q3
   obtain⟨m',hm,w3⟩:=hN σ3 H3 n3
   exact⟨m',hm,σ3,H3,I3,w3⟩
  | cont=>
   obtain⟨σ3,H3,I3,n3⟩:=q3
   obtain⟨m',hm,w3⟩:=hN σ3 H3 n3
   exact⟨m',hm,σ3,H3,I3,w3⟩
  | brk=>exact q3
  | ret v=>exact q3
 | false=>
  rw[if_neg Bool.false_ne_true]
  exact wpAny_execs_nil ⟨σ1,H2,I2,q2⟩
end
structure It where
 go:Nat→Hp→Prop
 yld:Nat→Hp→V→Hp→Prop
 stop:Nat→Hp→Prop
def Cz (X:Cx)(pins:List (Addr×Obj))(H:Hp)(b:Addr):Prop:=
 H b=none∧b≠X.env.locals∧b∉X.fs∧(b∈X.ex∨X.s₀.heap.objs.size≤b)∧(∀ x c,X.env.cells.lookup x=some c→c≠b)∧∀ p∈X.pn++pins,p.1≠b
theorem Ah.fpOk {X:Cx}{pins:List (Addr×Obj)}{σ:St}{H H':Hp}{s:Shared}{b:Addr}(I:Ah X pins σ H s)(hb:s.heap.objs.size≤b)(hn:H' b=none):Cz X pins H' b:=by
 refine⟨hn,Nat.ne_of_gt (Nat.lt_of_lt_of_le I.lt hb),I.nofs hb,.inr (Nat.le_trans I.sz hb),fun x c e z=>?_,fun p hp z=>?_⟩
 ·obtain⟨v,q⟩:=I.cell x c e
  exact absurd (Nat.lt_of_lt_of_le q.lt (by rw[z];exact hb)) (Nat.lt_irrefl _)
 ·exact absurd (Nat.lt_of_lt_of_le (Heap.lt_size (I.pin p hp).1) (by rw[z];exact hb)) (Nat.lt_irrefl _)
structure KU (P:Program)(w:World)(K:PySem.W.Frag)(tg:Expr)(J:It)(fp:List Addr)(it:Addr)(tn:Nat→Heap→Prop):Prop where
 mem:it∈fp
 obj:∀ i h,tn i h→∀ b∈fp,∃ o,h.get? b=some o∧∀ v,o.data≠.cell v
 keep:∀ i h h',tn i h→(∀ b∈fp,∀ o,h.get? b=some o→h'.get? b=some o)→tn i h'
 item:∀(X:Cx),X.prog=P→X.w=w→X.K=K→X.calm=true→∀(i:Nat) (pins:List (Addr×Obj)) (s:Shared) (σ:St) (H:Hp) (E:Value→Shared→Prop),Ah X pins σ H s→(∀ b∈fp,Cz X pins H b)→tn i s.heap→J.go i H→
  wpAny (model P w) X.A (pyNext (.ref it)) (fun r s1=>∃ u,r=some u∧
   wpAny (model P w) X.A (letOwnedTupleGo tg (.ref it) u) (fun _ s2=>∃ x H',Ah X pins σ H' s2∧Am x u∧J.yld i H x H'∧tn (i+1) s2.heap∧∀ b∈fp,H' b=none) E s1) E s
 done:∀(X:Cx),X.prog=P→X.w=w→X.K=K→X.calm=true→∀(i:Nat) (pins:List (Addr×Obj)) (s:Shared) (σ:St) (H:Hp) (E:Value→Shared→Prop),Ah X pins σ H s→(∀ b∈fp,Cz X pins H b)→tn i s.heap→J.stop i H→
  wpAny (model P w) X.A (pyNext (.ref it)) (fun r s1=>r=none∧Ah X pins σ H s1) E s
 self:∀(A:Around) (i:Nat) (s:Shared) (Q:Value→Shared→Prop) (E:Value→Shared→Prop),tn i s.heap→Q (.ref it) s→wpAny (model P w) A (pyIter (.ref it)) Q E s
abbrev TI:=St→Hp→(It→Hp→Prop)→Prop
def UN (X:Cx)(pins:List (Addr×Obj))(σ:St)(tg:Expr)(R:It→Hp→Prop)(itv:Value)(s2:Shared):Prop:=
 ∃(it:Addr) (fp:List Addr) (tn:Nat→Heap→Prop) (J:It) (H':Hp),itv=.ref it∧Ah X pins σ H' s2∧KU X.prog X.w X.K tg J fp it tn∧tn 0 s2.heap∧(∀ b∈fp,Cz X pins H' b)∧R J H'
def PI (X:Cx)(tg iter:Expr)(wi:TI):Prop:=
 ∀(pins:List (Addr×Obj)) (s:Shared) (σ:St) (H:Hp) (R:It→Hp→Prop),Ah X pins σ H s→wi σ H R→
  wpAny (model X.prog X.w) X.A (eval iter X.env) (fun v s1=>wpAny (model X.prog X.w) X.A (pyIter v) (UN X pins σ tg R) X.xe s1) X.xe s
theorem JV {M:Model}{A:Around}{E:Value→Shared→Prop}{s:Shared}{tg:Expr}{it:Addr}{u:Value}{o:Obj}{n:String}{vs:Array Value}{Q:Unit→Shared→Prop}(ho:s.heap.get? it=some o)(hc:o.cls=.type n)(hd:o.data=.fields vs)
 (hn:["enumerate","zip","dict_itemiterator","dict_reverseitemiterator","odict_iterator","itertools.zip_longest","itertools.pairwise"].contains n=false) (hQ:Q () s):wpAny M A (letOwnedTupleGo tg (.ref it) u) Q E s:=by
 unfold letOwnedTupleGo
 cases tg <;> first
  | exact wpAny_pure hQ
  | (cases u <;> first
   | exact wpAny_pure hQ
   | (refine wpAny_bind (wpAny_load ho ?_)
      rw[hc,hd]
      show wpAny M A (if(["enumerate","zip","dict_itemiterator","dict_reverseitemiterator","odict_iterator","itertools.zip_longest","itertools.pairwise"].contains n&&vs[0]?==some (rawInt _))=true then _ else _) Q E s
      rw[if_neg (by intro h;rw[hn,Bool.false_and]at h;cases h)]
      exact wpAny_pure hQ))
def RD (K:PySem.W.Frag)(a:Addr):It:=
 ⟨fun i H=>∃ xs x,A3 K H a xs∧xs[i]?=some x,fun i H x H'=>H'=H∧∀ xs,A3 K H a xs→xs[i]?=some x,fun i H=>∃ xs,A3 K H a xs∧xs.length≤i⟩
def RE (K:PySem.W.Frag)(a:Addr):It:=
 ⟨fun i H=>∃ xs x,Ao K H a xs∧xs[i]?=some x,fun i H x H'=>H'=H∧∀ xs,Ao K H a xs→xs[i]?=some x,fun i H=>∃ xs,Ao K H a xs∧xs.length≤i⟩
def Q0 (lo:Int)(n:Nat):It:=⟨fun i _=>i<n,fun i H x H'=>H'=H∧x=.int (lo+i),fun i _=>n≤i⟩
theorem ID {P:Program}{w:World}{K:PySem.W.Frag}{tg:Expr}(a it:Addr):KU P w K tg (RD K a) [it] it (fun i h=>h.IsListIter it a i) where
 mem:=by simp
 obj:=fun i h st b hb=>by
  have e:b=it:=by simpa using hb
  subst e
  obtain⟨o,e,c,d⟩:=st
  exact⟨o,e,fun v z=>by rw[d]at z;cases z⟩
 keep:=fun i h h' st k=>st.at fun o e=>k it (by simp) o e
 item:=by
  intro X hP hw hK hc i pins s σ H E I hf st hg
  subst hP hw hK
  obtain⟨xs,x,hq,hx⟩:=hg
  obtain⟨its,rv,p,hz⟩:=I.list hq
  obtain⟨u,hu,ru⟩:=rv.get hx
  obtain⟨f0,f1,f2,f3,f4,f5⟩:=hf it (by simp)
  refine wpAny_pyNext_list_item st p.isList (x:=u) (by simpa using hu) fun h' st' sb=>?_
  have I1:Ah X pins σ H { s with heap:=h' }:=I.turned (t':=s.toks) (fun b o hb e=>(sb.2 b hb).trans e) f0 f1 f3 f4 f5
  obtain⟨o,e,c,d⟩:=id st'
  exact⟨u,rfl,JV (s:={ s with heap:=h' }) e c d (by decide) ⟨x,H,I1,ru,⟨rfl,fun ys hy=>by rw[I.list_inj hy hq];exact hx⟩,st',fun b hb=>(hf b hb).1⟩⟩
 done:=by
  intro X hP hw hK hc i pins s σ H E I hf st hg
  subst hP hw hK
  obtain⟨xs,hq,hx⟩:=hg
  obtain⟨its,rv,p,hz⟩:=I.list hq
  obtain⟨f0,f1,f2,f3,f4,f5⟩:=hf it (by simp)
  have hl:=rv.length
  exact wpAny_pyNext_list_end (I.ok.hd hc) st p.isList (by simp;omega) fun h' eb=>⟨rfl,I.turned (t':=s.toks) (fun b o hb e=>eb b o hb e) f0 f1 f3 f4 f5⟩
 self:=fun _ _ _ _ _ st h=>wpAny_pyIter_listiter st h
theorem Ge {P:Program}{w:World}{K:PySem.W.Frag}{tg:Expr}(a it:Addr):KU P w K tg (RE K a) [it] it (fun i h=>h.IsTupleIter it a i) where
 mem:=by simp
 obj:=fun i h st b hb=>by
  have e:b=it:=by simpa using hb
  subst e
  obtain⟨o,e,c,d⟩:=st
  exact⟨o,e,fun v z=>by rw[d]at z;cases z⟩
 keep:=fun i h h' st k=>st.at fun o e=>k it (by simp) o e
 item:=by
  intro X hP hw hK hc i pins s σ H E I hf st hg
  subst hP hw hK
  obtain⟨xs,x,hq,hx⟩:=hg
  obtain⟨its,rv,p,hz⟩:=I.tuple hq
  obtain⟨u,hu,ru⟩:=rv.get hx
  obtain⟨f0,f1,f2,f3,f4,f5⟩:=hf it (by simp)
  refine wpAny_pyNext_tuple_item st (show s.heap.IsTuple a its.toArray from p) (x:=u) (by simpa using hu) fun h' st' sb=>?_
  have I1:Ah X pins σ H { s with heap:=h' }:=I.turned (t':=s.toks) (fun b o hb e=>(sb.2 b hb).trans e) f0 f1 f3 f4 f5
  obtain⟨o,e,c,d⟩:=id st'
  exact⟨u,rfl,JV (s:={ s with heap:=h' }) e c d (by decide) ⟨x,H,I1,ru,⟨rfl,fun ys hy=>by rw[I.tuple_inj hy hq];exact hx⟩,st',fun b hb=>(hf b hb).1⟩⟩
 done:=by
  intro X hP hw hK hc i pins s σ H E I hf st hg
  subst hP hw hK
  obtain⟨xs,hq,hx⟩:=hg
  obtain⟨its,rv,p,hz⟩:=I.tuple hq
  obtain⟨f0,f1,f2,f3,f4,f5⟩:=hf it (by simp)
  have hl:=rv.length
  exact wpAny_pyNext_tuple_end (I.ok.hd hc) st (show s.heap.IsTuple a its.toArray from p) (by simp;omega) fun h' eb=>⟨rfl,I.turned (t':=s.toks) (fun b o hb e=>eb b o hb e) f0 f1 f3 f4 f5⟩
 self:=fun _ _ _ _ _ st h=>wpAny_pyIter_tupleiter st h
theorem KW {P:Program}{w:World}{K:PySem.W.Frag}{tg:Expr}(it:Addr)(lo:Int)(n:Nat):KU P w K tg (Q0 lo n) [it] it (fun i h=>IsRangeIter h it (lo+(i:Nat)*1) ((n:Int)-(i:Nat)) 1) where
 mem:=by simp
 obj:=fun i h st b hb=>by
  have e:b=it:=by simpa using hb
  subst e
  exact⟨_,st,fun v z=>by
   have z':Data.fields _=Data.cell v:=z
   cases z'⟩
 keep:=fun i h h' st k=>k it (by simp) _ st
 item:=by
  intro X hP hw hK hc i pins s σ H E I hf st hg
  subst hP hw hK
  obtain⟨f0,f1,f2,f3,f4,f5⟩:=hf it (by simp)
  have W:=Walks.range (prog:=X.prog) (w:=X.w) (I.ok.hd hc) it lo 1 n
  refine W.item i s _ _ hg st fun v h' tk hv st' kk=>?_
  obtain⟨t,rfl⟩:=hv
  have I1:Ah X pins σ H { s with heap:=h',toks:=tk }:=I.turned (fun b o hb e=>kk b o (by simpa using hb) e) f0 f1 f3 f4 f5
  refine⟨_,rfl,JV (s:={ s with heap:=h',toks:=tk }) (n:="range_iterator") st' rfl rfl (by decide) ⟨.int (lo+i),H,I1,⟨t,?_⟩,⟨rfl,rfl⟩,st',fun b hb=>(hf b hb).1⟩⟩
  rw[Int.mul_one]
 done:=by
  intro X hP hw hK hc i pins s σ H E I hf st hg
  subst hP hw hK
  obtain⟨f0,f1,f2,f3,f4,f5⟩:=hf it (by simp)
  exact wpAny_pyNext_range_end (I.ok.hd hc) st (by have:n≤i:=hg;omega) fun h' eb=>⟨rfl,I.turned (t':=s.toks) (fun b o hb e=>eb b o hb e) f0 f1 f3 f4 f5⟩
 self:=fun _ _ _ _ _ st h=>wpAny_pyIter_rangeiter st h
section
variable {X:Cx}{tg:Expr}
def RF (K:PySem.W.Frag)(tl:TE):TI:=fun σ H R=>tl σ H fun x H1=>∃ a,x=.ref a∧(∃ xs,A3 K H1 a xs)∧R (RD K a) H1
def Ti (K:PySem.W.Frag)(tl:TE):TI:=fun σ H R=>tl σ H fun x H1=>∃ a,x=.ref a∧(∃ xs,Ao K H1 a xs)∧R (RE K a) H1
theorem CB {l:Expr}{tl:TE}(hl:PE X l tl):PI X tg l (RF X.K tl):=by
 intro pins s σ H R I h
 refine BZ (hl pins s σ H _ I h) fun v s1 zq=>?_
 obtain⟨x,H1,I1,r1,q1⟩:=zq
 obtain⟨a,e,⟨xs,hq⟩,q⟩:=q1
 subst e
 cases r1
 obtain⟨its,rv,p,hz⟩:=I1.list hq
 refine wpAny_pyIter_list p.isList ?_
 refine⟨s1.heap.objs.size,[s1.heap.objs.size],_,_,H1,rfl,I1.kept (t':=s1.toks) fun b o e=>Heap.get?_push_of_some _ e,ID a _,⟨_,Heap.get?_push_size _ rfl,rfl,rfl⟩,fun b hb=>?_,q⟩
 have e:b=s1.heap.objs.size:=by simpa using hb
 subst e
 exact I1.fpOk (Nat.le_refl _) (I1.hok.fresh (Nat.le_refl _))
theorem Ml {l:Expr}{tl:TE}(hl:PE X l tl):PI X tg l (Ti X.K tl):=by
 intro pins s σ H R I h
 refine BZ (hl pins s σ H _ I h) fun v s1 zq=>?_
 obtain⟨x,H1,I1,r1,q1⟩:=zq
 obtain⟨a,e,⟨xs,hq⟩,q⟩:=q1
 subst e
 cases r1
 obtain⟨its,rv,p,hz⟩:=I1.tuple hq
 refine wpAny_pyIter_tuple (show s1.heap.IsTuple a its.toArray from p) ?_
 refine⟨s1.heap.objs.size,[s1.heap.objs.size],_,_,H1,rfl,I1.kept (t':=s1.toks) fun b o e=>Heap.get?_push_of_some _ e,Ge a _,⟨_,Heap.get?_push_size _ rfl,rfl,rfl⟩,fun b hb=>?_,q⟩
 have e:b=s1.heap.objs.size:=by simpa using hb
 subst e
 exact I1.fpOk (Nat.le_refl _) (I1.hok.fresh (Nat.le_refl _))
theorem Mm {pins:List (Addr×Obj)}{σ:St}{H:Hp}{s:Shared}{R:It→Hp→Prop}{E:Value→Shared→Prop}{lo hi:Int}{t u v:Tok}{tk:Nat}(I:Ah X pins σ H s)(h1:-(2 ^ 62)≤lo)(h2:lo<2 ^ 62)(h3:-(2 ^ 62)≤hi)(h4:hi<2 ^ 62)
 (q:R (Q0 lo (hi-lo).toNat) H):wpAny (model X.prog X.w) X.A (pyIter (.ref s.heap.objs.size)) (UN X pins σ tg R) E { s with heap:=s.heap.push { cls:=.type "range",data:=.fields #[.int lo t,.int hi u,.int 1 v] },toks:=tk }:=by
 refine wpAny_pyIter_range (IsRange.new ..) (small_one h1 h2 h3 h4) ?_
 have I1:Ah X pins σ H { s with heap:=s.heap.push { cls:=.type "range",data:=.fields #[.int lo t,.int hi u,.int 1 v] },toks:=tk }:=I.kept fun b o e=>Heap.get?_push_of_some _ e
 refine⟨(s.heap.push { cls:=.type "range",data:=.fields #[.int lo t,.int hi u,.int 1 v] }).objs.size,[(s.heap.push { cls:=.type "range",data:=.fields #[.int lo t,.int hi u,.int 1 v] }).objs.size],_,_,H,rfl,
  I1.kept (t':=tk) fun b o e=>Heap.get?_push_of_some _ e,KW _ lo (hi-lo).toNat,?_,fun b hb=>?_,q⟩
 ·have e1:lo+((0:Nat):Int)*1=lo:=by simp
  have e2:(((hi-lo).toNat:Nat):Int)-((0:Nat):Int)=Builtin.Range.rangeSize lo hi 1:=by rw[rangeSize_one];split <;> omega
  show IsRangeIter _ _ (lo+((0:Nat):Int)*1) ((((hi-lo).toNat:Nat):Int)-((0:Nat):Int)) 1
  rw[e1,e2]
  exact Heap.get?_push_size _ rfl
 ·have e:b=(s.heap.push { cls:=.type "range",data:=.fields #[.int lo t,.int hi u,.int 1 v] }).objs.size:=by simpa using hb
  subst e
  exact I1.fpOk (Nat.le_refl _) (I1.hok.fresh (Nat.le_refl _))
def RG (ta:TA):TI:=fun σ H R=>ta σ H fun vs H1=>∃ j:Int,vs=[.int j]∧-(2 ^ 62)≤j∧j<2 ^ 62∧R (Q0 0 j.toNat) H1
theorem EW {a:Expr}{ta:TA}{p pos:Pos}(hg:Gl X "range")(hm:X.mg "range"=none)(ha:PA X [a] ta)(hs:starEach [a] X.env=[(false,eval a X.env)]:=by rfl):PI X tg (.Call (.Name "range" p) [a] [] pos) (RG ta):=by
 intro pins s σ H R I h
 refine Call_ (DJ I hg hm boot_range (PyProof.Rows.callWith_type1 (BZ (ha pos pins s σ H _ I h) fun us s1 zq=>?_) hs rfl))
 obtain⟨vs,H1,I1,r1,q1⟩:=zq
 obtain⟨j,e,q1,q2,q⟩:=q1
 subst e
 cases r1 with
 | cons r rr=>
  cases rr
  obtain⟨t,rfl⟩:=r
  exact call_range_1 (Mm I1 (by omega) (by omega) q1 q2 (by simpa using q))
def Tj (wi:TI)(g:TG)(tb:TS):TS:=fun D σ H=>wi σ H fun J H1=>∃ W:Nat→Nat→St→Hp→Prop,(∃ m,W 0 m σ H1)∧∀ i m σ H,W i m σ H→
 (J.stop i H∧D.nx σ H)∨(J.go i H∧∃ N:St→Hp→Prop,(∀ σ' H',N σ' H'→∃ m',m'<m∧W (i+1) m' σ' H')∧∀ x H',J.yld i H x H'→g x σ H' fun σ2 H2=>tb { D with nx:=N,ct:=N,bk:=D.nx } σ2 H2)
def Fh (fp:List Addr)(h:Heap):List (Addr×Obj):=fp.filterMap fun b=>(h.get? b).map fun o=>(b,o)
theorem CQ {fp:List Addr}{h:Heap}{b:Addr}{o:Obj}(hb:b∈fp)(e:h.get? b=some o):(b,o)∈Fh fp h:=List.mem_filterMap.mpr ⟨b,hb,by rw[e];rfl⟩
theorem L5 {fp:List Addr}{h:Heap}{p:Addr×Obj}(hp:p∈Fh fp h):p.1∈fp∧h.get? p.1=some p.2:=by
 obtain⟨b,hb,e⟩:=List.mem_filterMap.mp hp
 cases q:h.get? b with
 | none=>rw[q]at e;cases e
 | some o=>
  rw[q]at e
  have e':(b,o)=p:=Option.some.inj e
  subst e'
  exact⟨hb,q⟩
theorem Ah.pinned {pins:List (Addr×Obj)}{σ:St}{H:Hp}{s:Shared}{fp:List Addr}(I:Ah X pins σ H s)(hf:∀ b∈fp,Cz X pins H b)(ho:∀ b∈fp,∃ o,s.heap.get? b=some o∧∀ v,o.data≠.cell v):Ah X (pins++Fh fp s.heap) σ H s:=
 I.pins_of fun p hp=>(List.mem_append.mp hp).elim (fun z=>I.pin p (List.mem_append_right _ z)) fun z=>by
  obtain⟨hb,e⟩:=L5 z
  obtain⟨f0,f1,f2,_⟩:=hf p.1 hb
  obtain⟨o,e',d⟩:=ho p.1 hb
  rw[e]at e';cases e'
  exact⟨e,f0,f1,f2,d⟩
theorem Ah.unpinned {pins pl:List (Addr×Obj)}{σ:St}{H:Hp}{s:Shared}(I:Ah X (pins++pl) σ H s):Ah X pins σ H s:=I.pins_of fun p hp=>I.pin p (List.mem_append_right _ (List.mem_append_left _ hp))
theorem Dx {iter:Expr}{body:List Stmt}{wi:TI}{g:TG}{tb:TS}{pos:Pos}(hp:PassesOwn (model X.prog X.w) X.A X.env X.xe)(hc:X.calm=true)(hi:PI X tg iter wi)(hg:PG X tg g)(hb:JU X body tb)
 (hs:∀ x,foldedSetIterable iter X.env x=pure x:=by intro _;rfl):PS X (.For tg iter body [] pos) (Tj wi g tb):=by
 intro pins s σ H D I h
 refine wpAny_For (BZ (hi pins s σ H _ I h) fun v s1 h1=>BZ h1 fun itv s2 h2=>?_) hs
 obtain⟨it,fp,tn,J,H2,e,I2,T,st2,f2,W,⟨m0,w0⟩,turn⟩:=h2
 subst e
 have stat:∀{H':Hp},(∀ b∈fp,H' b=none)→∀ b∈fp,Cz X pins H' b:=fun hn b hb=>⟨hn b hb,(f2 b hb).2⟩
 refine codeAny_forLoop_any (fun n s'=>∃ i σ' H',Ah X pins σ' H' s'∧tn i s'.heap∧(∀ b∈fp,H' b=none)∧W i n σ' H') ?_ m0 ⟨0,σ,H2,I2,st2,fun b hb=>(f2 b hb).1,w0⟩
 rintro n s3 ⟨i,σ3,H3,I3,st3,fr3,w3⟩
 rcases turn i n σ3 H3 w3 with⟨stop,qn⟩ | ⟨go,N,hN,step⟩
 ·refine wpAny_passesOwn hp (BZ (T.done X rfl rfl rfl hc i pins s3 σ3 H3 X.xe I3 (stat fr3) st3 stop) fun r s4 zq=>?_)
  obtain⟨hr,I4⟩:=zq
  subst hr
  exact wpAny_execs_nil ⟨σ3,H3,I4,qn⟩
 ·refine wpAny_passesOwn hp (BZ (T.item X rfl rfl rfl hc i pins s3 σ3 H3 X.xe I3 (stat fr3) st3 go) fun r s4 zq=>?_)
  obtain⟨u,hr,h4⟩:=zq
  subst hr
  refine wpAny_passesOwn hp (BZ h4 fun _ s5 zq=>?_)
  obtain⟨x,H5,I5,r5,y5,st5,fr5⟩:=zq
  have I5':=I5.pinned (stat fr5) (T.obj _ _ st5)
  refine wpAny_passesOwn hp (BZ (hg _ s5 σ3 H5 x u _ I5' r5 (step x H5 y5)) fun _ s6 zq=>?_)
  obtain⟨σ6,H6,I6,q6⟩:=zq
  refine wpAny_passesOwn hp (BZ (hb _ s6 σ6 H6 _ I6 q6) fun f s7 q7=>?_)
  have again:∀{σ7:St} {H7:Hp},Ah X (pins++Fh fp s5.heap) σ7 H7 s7→N σ7 H7→∃ m,m<n∧∃ i σ' H',Ah X pins σ' H' s7∧tn i s7.heap∧(∀ b∈fp,H' b=none)∧W i m σ' H':=fun {σ7 H7} I7 n7=>by
   obtain⟨m',hm,w7⟩:=hN σ7 H7 n7
   refine⟨m',hm,i+1,σ7,H7,I7.unpinned,T.keep _ _ _ st5 fun b hb o e=>(I7.pin (b,o) (List.mem_append_right _ (List.mem_append_right _ (CQ hb e)))).1,fun b hb=>?_,w7⟩
   obtain⟨o,e,d⟩:=T.obj _ _ st5 b hb
   exact(I7.pin (b,o) (List.mem_append_right _ (List.mem_append_right _ (CQ hb e)))).2.1
  cases f with
  | next=>obtain⟨σ7,H7,I7,n7⟩:=q7;exact again I7 n7
  | cont=>obtain⟨σ7,H7,I7,n7⟩:=q7;exact again I7 n7
  | brk=>obtain⟨σ7,H7,I7,q7⟩:=q7;exact⟨σ7,H7,I7.unpinned,q7⟩
  | ret v=>obtain⟨x7,σ7,H7,I7,r7,q7⟩:=q7;exact⟨x7,σ7,H7,I7.unpinned,r7,q7⟩
end
theorem Dy {K:PySem.W.Frag}{a:Addr}{xs:List V}{g:TG}{tb:TS}{D:Gb}{σ:St}{H:Hp}(Pv:Nat→St→Hp→Prop)(h0:Pv 0 σ H)(hl:∀ i σ H,i≤xs.length→Pv i σ H→A3 K H a xs)
 (hs:∀ i x σ H,xs[i]?=some x→Pv i σ H→g x σ H fun σ2 H2=>tb { D with nx:=Pv (i+1),ct:=Pv (i+1),bk:=D.nx } σ2 H2) (hd:∀ σ H,Pv xs.length σ H→D.nx σ H):
 ∃ W:Nat→Nat→St→Hp→Prop,(∃ m,W 0 m σ H)∧∀ i m σ H,W i m σ H→
  ((RD K a).stop i H∧D.nx σ H)∨((RD K a).go i H∧∃ N:St→Hp→Prop,(∀ σ' H',N σ' H'→∃ m',m'<m∧W (i+1) m' σ' H')∧∀ x H',(RD K a).yld i H x H'→g x σ H' fun σ2 H2=>tb { D with nx:=N,ct:=N,bk:=D.nx } σ2 H2):=by
 refine⟨fun i m σ H=>m=xs.length-i∧i≤xs.length∧Pv i σ H,⟨xs.length,by simp,Nat.zero_le _,h0⟩,?_⟩
 rintro i m σ H ⟨rfl,hi,p⟩
 have q:=hl i σ H hi p
 by_cases hlt:i<xs.length
 ·refine .inr ⟨⟨xs,xs[i],q,by simp[hlt]⟩,Pv (i+1),fun σ' H' p'=>⟨xs.length-(i+1),by omega,rfl,hlt,p'⟩,fun x H' y=>?_⟩
  obtain⟨e,y⟩:=y
  subst e
  exact hs i x σ _ (y xs q) p
 ·have e:i=xs.length:=by omega
  subst e
  exact .inl ⟨⟨xs,q,Nat.le_refl _⟩,hd σ H p⟩
theorem OG {K:PySem.W.Frag}{a:Addr}{xs:List V}{g:TG}{tb:TS}{D:Gb}{σ:St}{H:Hp}(Pv:Nat→St→Hp→Prop)(h0:Pv 0 σ H)(hl:∀ i σ H,i≤xs.length→Pv i σ H→Ao K H a xs)
 (hs:∀ i x σ H,xs[i]?=some x→Pv i σ H→g x σ H fun σ2 H2=>tb { D with nx:=Pv (i+1),ct:=Pv (i+1),bk:=D.nx } σ2 H2) (hd:∀ σ H,Pv xs.length σ H→D.nx σ H):
 ∃ W:Nat→Nat→St→Hp→Prop,(∃ m,W 0 m σ H)∧∀ i m σ H,W i m σ H→
  ((RE K a).stop i H∧D.nx σ H)∨((RE K a).go i H∧∃ N:St→Hp→Prop,(∀ σ' H',N σ' H'→∃ m',m'<m∧W (i+1) m' σ' H')∧∀ x H',(RE K a).yld i H x H'→g x σ H' fun σ2 H2=>tb { D with nx:=N,ct:=N,bk:=D.nx } σ2 H2):=by
 refine⟨fun i m σ H=>m=xs.length-i∧i≤xs.length∧Pv i σ H,⟨xs.length,by simp,Nat.zero_le _,h0⟩,?_⟩
 rintro i m σ H ⟨rfl,hi,p⟩
 have q:=hl i σ H hi p
 by_cases hlt:i<xs.length
 ·refine .inr ⟨⟨xs,xs[i],q,by simp[hlt]⟩,Pv (i+1),fun σ' H' p'=>⟨xs.length-(i+1),by omega,rfl,hlt,p'⟩,fun x H' y=>?_⟩
  obtain⟨e,y⟩:=y
  subst e
  exact hs i x σ _ (y xs q) p
 ·have e:i=xs.length:=by omega
  subst e
  exact .inl ⟨⟨xs,q,Nat.le_refl _⟩,hd σ H p⟩
theorem L6 {lo:Int}{n:Nat}{g:TG}{tb:TS}{D:Gb}{σ:St}{H:Hp}(Pv:Nat→St→Hp→Prop)(h0:Pv 0 σ H)
 (hs:∀ i σ H,i<n→Pv i σ H→g (.int (lo+i)) σ H fun σ2 H2=>tb { D with nx:=Pv (i+1),ct:=Pv (i+1),bk:=D.nx } σ2 H2) (hd:∀ σ H,Pv n σ H→D.nx σ H):
 ∃ W:Nat→Nat→St→Hp→Prop,(∃ m,W 0 m σ H)∧∀ i m σ H,W i m σ H→
  ((Q0 lo n).stop i H∧D.nx σ H)∨((Q0 lo n).go i H∧∃ N:St→Hp→Prop,(∀ σ' H',N σ' H'→∃ m',m'<m∧W (i+1) m' σ' H')∧∀ x H',(Q0 lo n).yld i H x H'→g x σ H' fun σ2 H2=>tb { D with nx:=N,ct:=N,bk:=D.nx } σ2 H2):=by
 refine⟨fun i m σ H=>m=n-i∧i≤n∧Pv i σ H,⟨n,by simp,Nat.zero_le _,h0⟩,?_⟩
 rintro i m σ H ⟨rfl,hi,p⟩
 by_cases hlt:i<n
 ·refine .inr ⟨hlt,Pv (i+1),fun σ' H' p'=>⟨n-(i+1),by omega,rfl,hlt,p'⟩,fun x H' y=>?_⟩
  obtain⟨e,y⟩:=y
  subst e y
  exact hs i σ _ hlt p
 ·have e:i=n:=by omega
  subst e
  exact .inl ⟨Nat.le_refl _,hd σ H p⟩
theorem Mn {c:TT}{tb:TS}{D:Gb}{σ:St}{H:Hp}(Pv:St→Hp→Prop)(μ:St→Hp→Nat)(h0:Pv σ H)
 (hs:∀ σ H,Pv σ H→c σ H fun b H1=>if b=true then tb { D with nx:=fun σ' H'=>Pv σ' H'∧μ σ' H'<μ σ H,ct:=fun σ' H'=>Pv σ' H'∧μ σ' H'<μ σ H,bk:=D.nx } σ H1 else D.nx σ H1)
 (mono:∀ σ H Q Q',(∀ b H1,Q b H1→Q' b H1)→c σ H Q→c σ H Q'):Mk c tb D σ H:=by
 refine⟨fun m σ H=>m=μ σ H∧Pv σ H,⟨_,rfl,h0⟩,?_⟩
 rintro m σ H ⟨rfl,p⟩
 refine mono σ H _ _ (fun b H1 q=>?_) (hs σ H p)
 cases b with
 | true=>exact⟨_,fun σ' H' ⟨p',l⟩=>⟨_,l,rfl,p'⟩,q⟩
 | false=>exact q
abbrev R2:=V→V→Hp→VK→Prop
def EX (X:Cx)(f:Value→Value→Sem Value)(r:R2):Prop:=
 ∀(pins:List (Addr×Obj)) (s:Shared) (σ:St) (H:Hp) (x y:V) (v u:Value) (Q:VK),Ah X pins σ H s→Am x v→Am y u→r x y H Q→
  wpAny (model X.prog X.w) X.A (f v u) (EP X pins σ Q) X.xe s
def Tk (X:Cx)(f:Value→Sem Value)(r:V→Hp→VK→Prop):Prop:=
 ∀(pins:List (Addr×Obj)) (s:Shared) (σ:St) (H:Hp) (x:V) (v:Value) (Q:VK),Ah X pins σ H s→Am x v→r x H Q→
  wpAny (model X.prog X.w) X.A (f v) (EP X pins σ Q) X.xe s
def CC (X:Cx)(f:Value)(r:List V→Hp→VK→Prop):Prop:=
 ∀(pins:List (Addr×Obj)) (s:Shared) (σ:St) (H:Hp) (xs:List V) (us:List Value) (Q:VK),Ah X pins σ H s→A2 xs us→r xs H Q→
  wpAny (model X.prog X.w) X.A (call f us) (EP X pins σ Q) X.xe s
def RH (r:R2)(ta tb:TE):TE:=fun σ H Q=>ta σ H fun x H1=>tb σ H1 fun y H2=>r x y H2 Q
def Uc (r:V→Hp→VK→Prop)(ta:TE):TE:=fun σ H Q=>ta σ H fun x H1=>r x H1 Q
def rI (C:Int→Int→Prop)(g:Int→Int→V):R2:=fun x y H Q=>∃ i j,x=.int i∧y=.int j∧C i j∧Q (g i j) H
def PH (g:Int→Int→V):R2:=fun x y H Q=>∃ i j,x=.int i∧y=.int j∧Q (g i j) H
def rU (g:Int→V):V→Hp→VK→Prop:=fun x H Q=>∃ i,x=.int i∧Q (g i) H
section
variable {X:Cx}{a b c:Expr}{ta tb tc:TE}{pos:Pos}
theorem Pq (ha:PE X a ta)(hb:PE X b tb){pins:List (Addr×Obj)}{s:Shared}{σ:St}{H:Hp}{R:V→V→Hp→Prop}(I:Ah X pins σ H s)
 (h:ta σ H fun x H1=>tb σ H1 fun y H2=>R x y H2) {Q:Value→Shared→Prop} {f:Value→Value→Sem Value}
 (hf:∀ v u s2 x y H2,Ah X pins σ H2 s2→Am x v→Am y u→R x y H2→wpAny (model X.prog X.w) X.A (f v u) Q X.xe s2):
 wpAny (model X.prog X.w) X.A (eval a X.env) (fun v s₁=>wpAny (model X.prog X.w) X.A (eval b X.env) (fun u s₂=>wpAny (model X.prog X.w) X.A (f v u) Q X.xe s₂) X.xe s₁) X.xe s:=by
 refine BZ (ha pins s σ H _ I h) fun v s1 zq=>?_
 obtain⟨x,H1,I1,r1,q1⟩:=zq
 refine BZ (hb pins s1 σ H1 _ I1 q1) fun u s2 zq=>?_
 obtain⟨y,H2,I2,r2,q2⟩:=zq
 exact hf v u s2 x y H2 I2 r1 r2 q2
theorem A4 {op:Operator}{r:R2}(ho:EX X (binaryOp op) r)(ha:PE X a ta)(hb:PE X b tb):PE X (.BinOp a op b pos) (RH r ta tb):=by
 intro pins s σ H Q I h
 exact wpAny_BinOp (Pq ha hb I h fun v u s2 x y H2 I2 rx ry q=>ho pins s2 σ H2 x y v u Q I2 rx ry q)
theorem RI {op:UnaryOp}{r:V→Hp→VK→Prop}(ho:Tk X (unaryOp op) r)(ha:PE X a ta):PE X (.UnaryOp op a pos) (Uc r ta):=by
 intro pins s σ H Q I h
 exact UnaryOp_ (BZ (ha pins s σ H _ I h) fun v s1 ⟨x,H1,I1,r1,q1⟩=>ho pins s1 σ H1 x v Q I1 r1 q1)
theorem RJ {f:Value→Value→Sem Value}{C:Int→Int→Prop}{g:Int→Int→Int}
 (rule:∀(i j:Int) (t u:Tok) (s:Shared) (Q:Value→Shared→Prop) (E:Value→Shared→Prop),C i j→Q (.int (g i j) s.toks) { s with toks:=s.toks+1 }→wpAny (model X.prog X.w) X.A (f (.int i t) (.int j u)) Q E s):
 EX X f (rI C fun i j=>.int (g i j)):=by
 intro pins s σ H x y v u Q I rx ry h
 obtain⟨i,j,rfl,rfl,hc,q⟩:=h
 obtain⟨t,rfl⟩:=rx
 obtain⟨t',rfl⟩:=ry
 exact rule i j t t' s _ _ hc ⟨.int (g i j),H,I.tok _,⟨_,rfl⟩,q⟩
theorem RK {f:Value→Value→Sem Value}{g:Int→Int→Int}
 (rule:∀(i j:Int) (t u:Tok) (s:Shared) (Q:Value→Shared→Prop) (E:Value→Shared→Prop),Q (.int (g i j) s.toks) { s with toks:=s.toks+1 }→wpAny (model X.prog X.w) X.A (f (.int i t) (.int j u)) Q E s):
 EX X f (PH fun i j=>.int (g i j)):=by
 intro pins s σ H x y v u Q I rx ry h
 obtain⟨i,j,rfl,rfl,q⟩:=h
 obtain⟨t,rfl⟩:=rx
 obtain⟨t',rfl⟩:=ry
 exact rule i j t t' s _ _ ⟨.int (g i j),H,I.tok _,⟨_,rfl⟩,q⟩
theorem OH {f:Value→Value→Sem Value}{g:Int→Int→Bool}
 (rule:∀(i j:Int) (t u:Tok) (s:Shared) (Q:Value→Shared→Prop) (E:Value→Shared→Prop),Q (.bool (g i j)) s→wpAny (model X.prog X.w) X.A (f (.int i t) (.int j u)) Q E s):
 EX X f (PH fun i j=>.bl (g i j)):=by
 intro pins s σ H x y v u Q I rx ry h
 obtain⟨i,j,rfl,rfl,q⟩:=h
 obtain⟨t,rfl⟩:=rx
 obtain⟨t',rfl⟩:=ry
 exact rule i j t t' s _ _ ⟨.bl (g i j),H,I,rfl,q⟩
def Tl (i j:Int):Prop:=0<j∧j<1073741824
def Tm (i j:Int):Prop:=0≤j∧j≤1000000∧i.natAbs<2 ^ 64
theorem B3:EX X (binaryOp .Add) (PH fun i j=>.int (i+j)):=RK fun _ _ _ _ _ _ _ q=>add_int q
theorem Gf:EX X (binaryOp .Sub) (PH fun i j=>.int (i-j)):=RK fun _ _ _ _ _ _ _ q=>sub_int q
theorem FC:EX X (binaryOp .FloorDiv) (rI Tl fun i j=>.int (i / j)):=RJ fun i j _ _ _ _ _ hc q=>by
 have h1:(0:Int)<j:=hc.1
 have h2:j<1073741824:=hc.2
 exact floordiv_int (by omega) (by rw[Int.fdiv_eq_ediv_of_nonneg i (by omega)];exact q) (.inl (PyProof.noPylong_small (by omega)))
theorem CS:EX X (binaryOp .Mod) (rI (fun _ j=>0<j) fun i j=>.int (i%j)):=RJ fun i j _ _ _ _ _ hc q=>by
 have h1:(0:Int)<j:=hc
 exact mod_int' (by omega) (by rw[Int.fmod_eq_emod_of_nonneg i (by omega)];exact q)
theorem Mo:EX X (binaryOp .Pow) (rI Tm fun i j=>.int (i ^ j.toNat)):=RJ fun _ _ _ _ _ _ _ hc q=>pow_int_small hc.1 hc.2.1 hc.2.2 q
theorem Ud {f:Value→Sem Value}{g:Int→Int}
 (rule:∀(i:Int) (t:Tok) (s:Shared) (Q:Value→Shared→Prop) (E:Value→Shared→Prop),Q (.int (g i) s.toks) { s with toks:=s.toks+1 }→wpAny (model X.prog X.w) X.A (f (.int i t)) Q E s):
 Tk X f (rU fun i=>.int (g i)):=by
 intro pins s σ H x v Q I rx h
 obtain⟨i,rfl,q⟩:=h
 obtain⟨t,rfl⟩:=rx
 exact rule i t s _ _ ⟨.int (g i),H,I.tok _,⟨_,rfl⟩,q⟩
theorem Ps:Tk X (unaryOp .USub) (rU fun i=>.int (-i)):=Ud fun _ _ _ _ _ q=>neg_int q
end
def RL:V→V→Bool
 | .non,.non=>true | .non,.int _=>true | .int _,.non=>true | .non,.bl _=>true | .bl _,.non=>true | .non,.str _=>true | .str _,.non=>true
 | .int _,.int _=>true | .bl _,.bl _=>true | .str _,.str _=>true | .byt _,.byt _=>true
 | .int _,.str _=>true | .str _,.int _=>true | .bl _,.str _=>true | .str _,.bl _=>true
 | _,_=>false
def Ue:R2:=fun x y H Q=>RL x y=true∧Q (.bl (decide (x=y))) H
def Uf:R2:=fun x y H Q=>RL x y=true∧Q (.bl (!decide (x=y))) H
theorem LN {i j:Int}:decide (V.int i=V.int j)=(i==j):=by
 rw[Bool.eq_iff_iff]
 simp
theorem Mp {i j:Bool}:decide (V.bl i=V.bl j)=(i==j):=by
 rw[Bool.eq_iff_iff]
 simp
theorem LO {i j:Str}:decide (V.str i=V.str j)=(i==j):=by
 rw[Bool.eq_iff_iff]
 simp
theorem LP {i j:Array UInt8}:decide (V.byt i=V.byt j)=(i.toList==j.toList):=by
 rw[Bool.eq_iff_iff]
 cases i
 cases j
 simp
section
variable {X:Cx}{a b c:Expr}{ta tb tc:TE}{pos:Pos}
theorem BA {pins:List (Addr×Obj)}{σ:St}{H:Hp}{s:Shared}{Q:VK}{k k':Bool}(I:Ah X pins σ H s)(q:Q (.bl k) H)(e:k=k'):EP X pins σ Q (.bool k') s:=by
 subst e
 exact⟨.bl k,H,I,rfl,q⟩
theorem An:EX X (compareOp .Eq) Ue:=by
 intro pins s σ H x y v u Q I rx ry h
 obtain⟨hs,q⟩:=h
 cases x with
 | non=>
  cases rx
  cases y with
  | non=>cases ry;exact PySem.EqNone.eq_none_none (BA I q (by simp))
  | bl j=>cases ry;exact PySem.EqNone.eq_none_bool (BA I q (by simp))
  | int j=>obtain⟨t',rfl⟩:=ry;exact PySem.EqNone.eq_none_int (BA I q (by simp))
  | str j=>obtain⟨t',rfl⟩:=ry;exact PySem.EqNone.eq_none_str (BA I q (by simp))
  | _=>exact absurd (show false=true from hs) Bool.false_ne_true
 | bl i=>
  cases rx
  cases y with
  | non=>cases ry;exact PySem.EqNone.eq_bool_none (BA I q (by simp))
  | bl j=>cases ry;exact eq_bool (BA I q Mp)
  | str j=>obtain⟨t',rfl⟩:=ry;exact PySem.EqMixed.eq_bool_str (BA I q (by simp))
  | _=>exact absurd (show false=true from hs) Bool.false_ne_true
 | int i=>
  obtain⟨t,rfl⟩:=rx
  cases y with
  | non=>cases ry;exact PySem.EqNone.eq_int_none (BA I q (by simp))
  | int j=>obtain⟨t',rfl⟩:=ry;exact eq_int (BA I q LN)
  | str j=>obtain⟨t',rfl⟩:=ry;exact PySem.EqMixed.eq_int_str (BA I q (by simp))
  | _=>exact absurd (show false=true from hs) Bool.false_ne_true
 | str i=>
  obtain⟨t,rfl⟩:=rx
  cases y with
  | non=>cases ry;exact PySem.EqNone.eq_str_none (BA I q (by simp))
  | bl j=>cases ry;exact PySem.EqMixed.eq_str_bool (BA I q (by simp))
  | int j=>obtain⟨t',rfl⟩:=ry;exact PySem.EqMixed.eq_str_int (BA I q (by simp))
  | str j=>obtain⟨t',rfl⟩:=ry;exact eq_str (BA I q LO)
  | _=>exact absurd (show false=true from hs) Bool.false_ne_true
 | byt i=>
  obtain⟨t,rfl⟩:=rx
  cases y with
  | byt j=>obtain⟨t',rfl⟩:=ry;exact PySem.W.eq_bytes (BA I q LP)
  | _=>exact absurd (show false=true from hs) Bool.false_ne_true
 | _=>cases y <;> exact absurd (show false=true from hs) Bool.false_ne_true
theorem FD:EX X (compareOp .NotEq) Uf:=by
 intro pins s σ H x y v u Q I rx ry h
 obtain⟨hs,q⟩:=h
 cases x with
 | non=>
  cases rx
  cases y with
  | non=>cases ry;exact PySem.EqNone.ne_none_none (BA I q (by simp))
  | bl j=>cases ry;exact PySem.EqNone.ne_none_bool (BA I q (by simp))
  | int j=>obtain⟨t',rfl⟩:=ry;exact PySem.EqNone.ne_none_int (BA I q (by simp))
  | str j=>obtain⟨t',rfl⟩:=ry;exact PySem.EqNone.ne_none_str (BA I q (by simp))
  | _=>exact absurd (show false=true from hs) Bool.false_ne_true
 | bl i=>
  cases rx
  cases y with
  | non=>cases ry;exact PySem.EqNone.ne_bool_none (BA I q (by simp))
  | bl j=>cases ry;exact ne_bool (BA I q (congrArg not Mp))
  | str j=>obtain⟨t',rfl⟩:=ry;exact PySem.EqMixed.ne_bool_str (BA I q (by simp))
  | _=>exact absurd (show false=true from hs) Bool.false_ne_true
 | int i=>
  obtain⟨t,rfl⟩:=rx
  cases y with
  | non=>cases ry;exact PySem.EqNone.ne_int_none (BA I q (by simp))
  | int j=>obtain⟨t',rfl⟩:=ry;exact ne_int (BA I q (congrArg not LN))
  | str j=>obtain⟨t',rfl⟩:=ry;exact PySem.EqMixed.ne_int_str (BA I q (by simp))
  | _=>exact absurd (show false=true from hs) Bool.false_ne_true
 | str i=>
  obtain⟨t,rfl⟩:=rx
  cases y with
  | non=>cases ry;exact PySem.EqNone.ne_str_none (BA I q (by simp))
  | bl j=>cases ry;exact PySem.EqMixed.ne_str_bool (BA I q (by simp))
  | int j=>obtain⟨t',rfl⟩:=ry;exact PySem.EqMixed.ne_str_int (BA I q (by simp))
  | str j=>obtain⟨t',rfl⟩:=ry;exact ne_str (BA I q (congrArg not LO))
  | _=>exact absurd (show false=true from hs) Bool.false_ne_true
 | byt i=>
  obtain⟨t,rfl⟩:=rx
  cases y with
  | byt j=>obtain⟨t',rfl⟩:=ry;exact PySem.W.ne_bytes (BA I q (congrArg not LP))
  | _=>exact absurd (show false=true from hs) Bool.false_ne_true
 | _=>cases y <;> exact absurd (show false=true from hs) Bool.false_ne_true
theorem Dv:EX X (compareOp .Lt) (PH fun i j=>.bl (decide (i<j))):=OH fun _ _ _ _ _ _ _ q=>lt_int q
theorem DC:EX X (compareOp .LtE) (PH fun i j=>.bl (decide (i≤j))):=OH fun _ _ _ _ _ _ _ q=>le_int q
theorem Gg:EX X (compareOp .Gt) (PH fun i j=>.bl (decide (j<i))):=OH fun _ _ _ _ _ _ _ q=>gt_int q
theorem RM:EX X (compareOp .GtE) (PH fun i j=>.bl (decide (j≤i))):=OH fun _ _ _ _ _ _ _ q=>ge_int q
theorem L7:EX X (compareOp .In) (fun x y H Q=>∃ i j,x=.str i∧y=.str j∧Q (.bl (!(Builtin.Str.occurrences j i 0 j.length 1).isEmpty)) H):=by
 intro pins s σ H x y v u Q I rx ry h
 obtain⟨i,j,rfl,rfl,q⟩:=h
 obtain⟨t,rfl⟩:=rx
 obtain⟨t',rfl⟩:=ry
 exact in_str (BA I q rfl)
theorem Gh:EX X (compareOp .Is) (fun x y H Q=>y=.non∧Q (.bl (decide (x=.non))) H):=by
 intro pins s σ H x y v u Q I rx ry h
 obtain⟨rfl,q⟩:=h
 cases ry
 refine is_none_gen (BA I q ?_)
 cases x <;> first
  | (cases rx;rfl)
  | (obtain⟨t,rfl⟩:=rx;rfl)
theorem LQ:EX X (compareOp .IsNot) (fun x y H Q=>y=.non∧Q (.bl (!decide (x=.non))) H):=by
 intro pins s σ H x y v u Q I rx ry h
 obtain⟨rfl,q⟩:=h
 cases ry
 refine isnot_none_gen (BA I q ?_)
 cases x <;> first
  | (cases rx;rfl)
  | (obtain⟨t,rfl⟩:=rx;rfl)
theorem AN (b:Expr){op:CmpOp}(h:op≠.In:=by decide)(h2:op≠.NotIn:=by decide):behindInMarks op b=false:=by
 have e1:(op==CmpOp.In)=false:=by cases op <;> first | rfl | exact absurd rfl h
 have e2:(op==CmpOp.NotIn)=false:=by cases op <;> first | rfl | exact absurd rfl h2
 cases b <;> simp[behindInMarks,e1,e2]
theorem Ae {op:CmpOp}{r:R2}(ho:EX X (compareOp op) r)(ha:PE X a ta)(hb:PE X b tb)(hm:behindInMarks op b=false):PE X (.Compare a [op] [b] pos) (RH r ta tb):=by
 intro pins s σ H Q I h
 exact wpAny_Compare1 (Pq ha hb I h fun v u s2 x y H2 I2 rx ry q=>ho pins s2 σ H2 x y v u Q I2 rx ry q) hm
def RN (t:TE):TT:=fun σ H Q=>t σ H fun x H'=>∃ k,x=.bl k∧Q k H'
theorem AV {op:CmpOp}{r:R2}(ho:EX X (compareOp op) r)(ha:PE X a ta)(hb:PE X b tb)(hm:behindInMarks op b=false):PT X (.Compare a [op] [b] pos) (RN (RH r ta tb)):=by
 intro pins s σ H Q I h
 refine wpAny_isTrue_Compare1 (BZ (ha pins s σ H _ I h) fun v s1 ⟨x,H1,I1,r1,q1⟩=>BZ (hb pins s1 σ H1 _ I1 q1) fun u s2 ⟨y,H2,I2,r2,q2⟩=>
  BZ (ho pins s2 σ H2 x y v u _ I2 r1 r2 q2) fun c s3 ⟨z,H3,I3,r3,k,e,q3⟩=>?_) hm
 subst e
 cases r3
 exact wpAny_truthy_bool ⟨H3,I3,q3⟩
theorem Fi:(sizeLine:Nat)<2 ^ 63:=by rw[sizeLine_eq];decide
theorem Gi:EX X (binaryOp .Add) (fun x y H Q=>∃ i j,x=.str i∧y=.str j∧i.length+j.length≤sizeLine∧Q (.str (i++j)) H):=by
 intro pins s σ H x y v u Q I rx ry h
 obtain⟨i,j,rfl,rfl,hz,q⟩:=h
 obtain⟨t,rfl⟩:=rx
 obtain⟨t',rfl⟩:=ry
 exact add_str (fun t' tk=>⟨.str (i++j),H,I.tok _,⟨_,rfl⟩,q⟩) hz
theorem FE {x:V}{us:List Value}(r:A2 [x] us):∃ u,us=[u]∧Am x u:=by
 cases r with
 | cons r1 r2=>cases r2;exact⟨_,rfl,r1⟩
theorem LR {x y:V}{us:List Value}(r:A2 [x,y] us):∃ u w',us=[u,w']∧Am x u∧Am y w':=by
 cases r with
 | cons r1 r2=>
  cases r2 with
  | cons r3 r4=>cases r4;exact⟨_,_,rfl,r1,r3⟩
theorem Gj:CC X (.builtin "abs") (fun xs H Q=>∃ i,xs=[.int i]∧Q (.int (if i<0 then -i else i)) H):=by
 intro pins s σ H xs us Q I r h
 obtain⟨i,rfl,q⟩:=h
 obtain⟨u,rfl,t,rfl⟩:=FE r
 exact call_abs_int fun u tk=>⟨.int (if i<0 then -i else i),H,I.tok _,⟨_,rfl⟩,q⟩
theorem Fj (hc:X.calm=true):CC X (.builtin "min") (fun xs H Q=>∃ i j,xs=[.int i,.int j]∧Q (.int (if j<i then j else i)) H):=by
 intro pins s σ H xs us Q I r h
 obtain⟨i,j,rfl,q⟩:=h
 obtain⟨u,w',rfl,⟨t,rfl⟩,⟨t',rfl⟩⟩:=LR r
 refine min_two_ints (I.ok.hd hc) fun h' tk k=>⟨_,H,I.kept k,?_,q⟩
 by_cases hj:j<i
 ·rw[if_pos hj,if_pos hj];exact⟨_,rfl⟩
 ·rw[if_neg hj,if_neg hj];exact⟨_,rfl⟩
end
structure Pt (h:Heap)(x dx C:Addr)(mA:Str→Option Value):Prop where
 obj:h.get? x=some (PySem.W.instObj C dx)
 ns:h.Ns1 dx mA
 ne:dx≠x
theorem L8 {h:Heap}{dx:Addr}{mA:Str→Option Value}(n:h.Ns1 dx mA):∃ od,h.get? dx=some od∧∀ name,PySem.W.lookIn name od=some (mA name):=by
 obtain⟨o,es,ep,ho,hd,hk,_,hm⟩:=n
 refine⟨o,ho,fun name=>?_⟩
 have e:=hm name
 unfold nsFind findBy at e
 rw[← Array.find?_toList]at e
 unfold PySem.W.lookIn
 rw[hd]
 dsimp only
 split
 ·rename_i y q
  rw[q]at e
  exact congrArg some e
 ·rename_i q
  rw[q]at e
  have a:es.toList.any (·.refKey)=false:=by
   rw[List.any_eq_false]
   intro y hy
   obtain⟨z,t,hkey⟩:=hk y (Array.mem_toList_iff.mp hy)
   simp[DictEntry.refKey,hkey]
  have a':¬ es.toList.any (·.refKey)=true:=by rw[a];exact Bool.false_ne_true
  rw[if_neg a']
  exact congrArg some e
theorem Pt.look {h:Heap}{x dx C:Addr}{mA:Str→Option Value}(I:Pt h x dx C mA):∃ od,PySem.W.InstAt h x (PySem.W.instObj C dx) C (some od)∧∀ name,PySem.W.lookIn name od=some (mA name):=
 let ⟨od,ho,hl⟩:=L8 I.ns
 ⟨od,⟨I.obj,rfl,rfl,ho⟩,hl⟩
theorem Fg.some_of {v:V}{o:Option Value}(r:Fg (some v) o):∃ u,o=some u∧Am v u:=by
 cases o with
 | none=>exact(show False from r).elim
 | some u=>exact⟨u,rfl,r⟩
section
variable {P:Program}{w:World}{H H':Hp}{h h':Heap}{a C dx:Addr}{fs fs':List (Str×V)}
theorem OI (hok:Ej P w H h)(e:H a=some (.ins C dx fs)):∃ mA,Pt h a dx C mA∧(∀ f,Fg (fs.lookup f) (mA f))∧PySem.Within mA (fs.map (·.1))∧fs.length≤1000∧H dx=some (.own a):=by
 obtain⟨d,z,ne,ob,mA,n,r,q⟩:=(show BI P w H h a (.ins C dx fs)from hok a _ e)
 exact⟨mA,⟨ob,n,ne⟩,r,q,z,d⟩
end
structure Tn (K:PySem.W.Frag)(C:Addr):Prop where
 pg:PySem.W.plainGet K C Str.empty=true
 hd:PySem.W.hasDictIn K C=true
 po:PySem.W.plainOver K C=true
 sa:PySem.W.findIn K (.ref C) "__setattr__"=some (some (.builtin "object.__setattr__"))
theorem Tn.get {K:PySem.W.Frag}{C:Addr}(c:Tn K C)(f:Str):PySem.W.plainGet K C f=true:=c.pg
section
variable {X:Cx}{pins:List (Addr×Obj)}{σ:St}{H:Hp}{s:Shared}{A:Around}{E:Value→Shared→Prop}{Q:Value→Shared→Prop}{c:Value}{b:Bool}
inductive Fk (K:PySem.W.Frag)(H:Hp):V→Value→Prop where
 | non:Fk K H .non (.type "NoneType")
 | bl (x:Bool):Fk K H (.bl x) (.type "bool")
 | int (i:Int):Fk K H (.int i) (.type "int")
 | str (x:Str):Fk K H (.str x) (.type "str")
 | flt (x:UInt64):Fk K H (.flt x) (.type "float")
 | lst {a:Addr} {xs:List V} (e:H a=some (.lst xs)):Fk K H (.ref a) (.type "list")
 | frz {a:Addr} {o:Obj} {xs:List V} (e:H a=some (.frz o (.lst xs))):Fk K H (.ref a) (.type "list")
 | tup {a:Addr} {xs:List V} (e:H a=some (.tup xs)):Fk K H (.ref a) (.type "tuple")
 | dK {a:Addr} {kvs:List (BF×V)} (e:H a=some (.dK kvs)):Fk K H (.ref a) (.type "dict")
 | dT {a:Addr} {kvs:List (List BF×V)} (e:H a=some (.dT kvs)):Fk K H (.ref a) (.type "dict")
 | ins {a C dx:Addr} {fs:List (Str×V)} (e:H a=some (.ins C dx fs)) (cl:Tn K C) (ha:PySem.W.findIn K (.ref C) "__class__"=some (some (.builtin "object.__class__")))
  (hn:PySem.W.specialIn K (.builtin "object.__class__") "__get__"=some (some (.builtin "getset_descriptor.__get__"))) (htk:PySem.W.takesIn K (.builtin "object.__class__")=some true)
  (hm:PySem.W.mroIn K C (.type "object")=some true):Fk K H (.ref a) (.ref C)
theorem IE {x:V}{u t:Value}(I:Ah X pins σ H s)(rx:Am x u)(ty:Fk X.K H x t)(e:PySem.W.kitOne X.K t c=some b)(h:∀ tk,Q (.bool b) { s with toks:=tk }):
 wpAny (model X.prog X.w) A (call (.builtin "isinstance") [u,c]) Q E s:=by
 cases ty with
 | non=>cases (show u=Value.none from rx);exact PySem.W.kia_one PySem.W.kitx_none I.kIn True.intro e (fun z=>nomatch z) h
 | bl y=>cases (show u=Value.bool y from rx);exact PySem.W.kia_one PySem.W.kitx_bool I.kIn True.intro e (fun z=>nomatch z) h
 | int i=>obtain⟨t,q⟩:=(show ∃ t,u=Value.int i t from rx);cases q;exact PySem.W.kia_one PySem.W.kitx_int I.kIn True.intro e (fun z=>nomatch z) h
 | str y=>obtain⟨t,q⟩:=(show ∃ t,u=Value.str y t from rx);cases q;exact PySem.W.kia_one PySem.W.kitx_str I.kIn True.intro e (fun z=>nomatch z) h
 | flt y=>obtain⟨t,q⟩:=(show ∃ t,u=Value.float y t from rx);cases q;exact PySem.W.kia_one PySem.W.kitx_float I.kIn True.intro e (fun z=>nomatch z) h
 | @lst a xs ea=>
  cases (show u=Value.ref a from rx)
  obtain⟨_,_,n,_,h1⟩:=(show BI X.prog X.w H s.heap a (.lst xs)from I.hok a _ ea)
  exact PySem.W.kia_one PySem.W.kitx_list I.kIn ⟨_,h1,rfl⟩ e (fun z=>nomatch z) h
 | @frz a ob xs ea=>
  cases (show u=Value.ref a from rx)
  obtain⟨_,_,_,n,_,h1⟩:=(show BI X.prog X.w H s.heap a (.frz ob (.lst xs))from I.hok a _ ea)
  exact PySem.W.kia_one PySem.W.kitx_list I.kIn ⟨_,h1,rfl⟩ e (fun z=>nomatch z) h
 | @tup a xs ea=>
  cases (show u=Value.ref a from rx)
  obtain⟨_,_,_,p⟩:=(show BI X.prog X.w H s.heap a (.tup xs)from I.hok a _ ea)
  obtain⟨o,h1,h2,_⟩:=p
  exact PySem.W.kia_one PySem.W.kitx_tuple I.kIn ⟨o,h1,h2⟩ e (fun z=>nomatch z) h
 | @dK a kvs ea=>
  cases (show u=Value.ref a from rx)
  obtain⟨_,_,vs,_,p⟩:=(show BI X.prog X.w H s.heap a (.dK kvs)from I.hok a _ ea)
  obtain⟨o,es,ep,h1,h2,_⟩:=p
  exact PySem.W.kia_one PySem.W.kitx_dict I.kIn ⟨o,h1,h2.1⟩ e (fun z=>nomatch z) h
 | @dT a kvs ea=>
  cases (show u=Value.ref a from rx)
  obtain⟨_,_,xs,_,o,es,ep,h1,h2,_⟩:=(show BI X.prog X.w H s.heap a (.dT kvs)from I.hok a _ ea)
  exact PySem.W.kia_one PySem.W.kitx_dict I.kIn ⟨o,h1,h2.1⟩ e (fun z=>nomatch z) h
 | @ins a C dx fs ea cl ha hn htk hm=>
  cases (show u=Value.ref a from rx)
  obtain⟨mA,O,_⟩:=OI I.hok ea
  obtain⟨od,J,_⟩:=O.look
  exact PySem.W.kia_one (PySem.W.kitx_own (cl.get _) cl.hd ha hn htk hm) I.kIn J e (fun z=>nomatch z) h
end
structure Bx (k:Nat)(A:Around):Prop where
 hd:A.handled=none
 dp:A.depth+3*k+5<recursionLimit
 un:A.units+16*k+200<cLine
theorem Bx.mono {j k:Nat}{A:Around}(r:Bx k A)(h:j≤k):Bx j A:=⟨r.hd,by have:=r.dp;omega,by have:=r.un;omega⟩
theorem Bx.deeper {k:Nat}{A:Around}(r:Bx (k+1) A)(env:Env):Bx k (A.deeper env):=
 ⟨r.hd,by have:=r.dp;show A.depth+1+3*k+5<_;omega,by have:=r.un;show A.units+3+16*k+200<_;omega⟩
theorem Bx.in1 {k:Nat}{A:Around}(r:Bx (k+1) A):Bx k A.in1:=
 ⟨r.hd,by have:=r.dp;show A.depth+3*k+5<_;omega,by have:=r.un;show A.units+1+16*k+200<_;omega⟩
theorem Bx.depth {k:Nat}{A:Around}(r:Bx k A):A.depth<recursionLimit:=by have:=r.dp;omega
theorem Bx.units {k:Nat}{A:Around}(r:Bx k A):A.units+64<cLine:=by have:=r.un;omega
theorem Bx.units0 {k:Nat}{A:Around}(r:Bx k A):A.units<cLine:=by have:=r.un;omega
def Pu:TA:=fun _ H Q=>Q [] H
def Dz (ta:TE)(tr:TA):TA:=fun σ H Q=>ta σ H fun x H1=>tr σ H1 fun xs H2=>Q (x::xs) H2
section
variable {X:Cx}{e:Expr}{es:List Expr}{te:TE}{t:TA}{pos:Pos}
theorem AB:PA X [] Pu:=fun _ _ _ _ H Q I h=>Calls.spliced_nil ⟨[],H,I,.nil,h⟩
theorem CU (ha:PE X e te)(hr:PA X es t)(hs:starEach (e::es) X.env=(false,eval e X.env)::starEach es X.env:=by rfl):PA X (e::es) (Dz te t):=by
 intro pos pins s σ H Q I h
 rw[hs]
 show wpAny _ _ (spliced ((false,eval e X.env)::backTo pos (starEach es X.env))) _ _ s
 refine Calls.spliced_cons (BZ (ha pins s σ H _ I h) fun u s1 zq=>?_)
 obtain⟨x,H1,I1,r1,q1⟩:=zq
 exact BZ (hr pos pins s1 σ H1 _ I1 q1) fun us s2 ⟨xs,H2,I2,r2,q2⟩=>⟨x::xs,H2,I2,.cons r1 r2,q2⟩
def To (t:TA):TE:=fun σ H Q=>t σ H fun xs H1=>xs.length≤sizeLine∧∀ p,H1 p=none→Q (.ref p) (upd H1 p (.tup xs))
def Tp (t:TA):TE:=fun σ H Q=>t σ H fun xs H1=>xs.length≤sizeLine∧∀ p,H1 p=none→Q (.ref p) (upd H1 p (.lst xs))
theorem Ai {x1}(h:PA X es t):PE X (.Tuple es x1 pos) (To t):=by
 intro pins s σ H Q I hq
 refine wpAny_Tuple_spliced (BZ (h pos pins s σ H _ I hq) fun us s1 ⟨xs,H1,I1,r,z,q⟩=>⟨by rw[← r.length];exact z,?_⟩)
 have hf:H1 s1.heap.objs.size=none:=I1.hok.fresh (Nat.le_refl _)
 refine⟨.ref s1.heap.objs.size,upd H1 s1.heap.objs.size (.tup xs),I1.laid (t':=s1.toks) (fun b u e=>Heap.get?_push_of_some _ e) (Nat.le_refl _) ?_,rfl,q _ hf⟩
 exact⟨z,us,r,⟨_,Heap.get?_push_size _ rfl,rfl,_,rfl⟩⟩
theorem A8 (h:PA X es t):PE X (.List es pos) (Tp t):=by
 intro pins s σ H Q I hq
 refine wpAny_List_spliced (BZ (h pos pins s σ H _ I hq) fun us s1 ⟨xs,H1,I1,r,z,q⟩=>⟨by rw[← r.length];exact z,?_⟩)
 have hf:H1 s1.heap.objs.size=none:=I1.hok.fresh (Nat.le_refl _)
 refine⟨.ref s1.heap.objs.size,upd H1 s1.heap.objs.size (.lst xs),I1.laid (t':=s1.toks) (fun b u e=>Heap.get?_push_of_some _ e) (Nat.le_refl _) ?_,rfl,q _ hf⟩
 exact⟨z,us,0,r,Heap.get?_push_size _ rfl⟩
end
abbrev Sp:=List V→Hp→VK→XK→Prop
abbrev Mg:=List Env→Hp→Shared→XK→Value→Shared→Prop
structure JW (P:Program)(w:World)(K:PySem.W.Frag)(mg:Str→Option Value)(base:Heap)(A:Around)(outer:List Env)(s:Shared)(H:Hp):Prop where
 frames:A.frames=some outer
 mod:Mod K mg base
 bs:∀ b o,base.get? b=some o→s.heap.get? b=some o∧H b=none
 bsz:base.objs.size≤s.heap.objs.size
 funs:s.heap.FunFrames base outer
 frf:∀ b∈Hg outer,H b=none
 hok:Ej P w H s.heap
 bare:AllBare s.gens
def CE (outer:List Env)(P:Program)(w:World)(H:Hp)(s:Shared)(Q:VK)(u:Value)(s':Shared):Prop:=
 ∃ v H',s'.os=s.os∧AllBare s'.gens∧Un (Hg outer) [] H H' s.heap s'.heap∧Ej P w H' s'.heap∧Am v u∧Q v H'
def CR (CX:Mg)(outer:List Env)(P:Program)(w:World)(H:Hp)(s:Shared)(Q:VK)(E:XK)(r:Result)(s':Shared):Prop:=
 match r with
 | .ok (.ret u)=>CE outer P w H s Q u s'
 | .ok _=>False
 | .error e=>CX outer H s E e s'
structure Az (P:Program)(w:World)(K:PySem.W.Frag)(mg:Str→Option Value)(base:Heap)(CX:Mg)(k:Nat)(f:Addr)(fd:FuncData)(ps:List Str)(sp:Sp):Prop where
 len:∀ vs H Q E,sp vs H Q E→vs.length=ps.length
 run:∀(A:Around) (outer:List Env) (s:Shared) (H:Hp) (args:Args) (us:List Value) (vs:List V) (Q:VK) (E:XK),Bx k A→JW P w K mg base A outer s H→BindsTo s fd args (ps.zip us)→A2 vs us→sp vs H Q E→
  codeAny (model P w) A (.call (.ref f) args) (CR CX outer P w H s Q E) s
theorem Az.imp {P:Program}{w:World}{K:PySem.W.Frag}{mg:Str→Option Value}{base:Heap}{CX:Mg}{k:Nat}{f:Addr}{fd:FuncData}{ps:List Str}{sp sp':Sp}(F:Az P w K mg base CX k f fd ps sp)
 (h:∀ vs H Q E,sp' vs H Q E→sp vs H Q E):Az P w K mg base CX k f fd ps sp':=
 ⟨fun vs H Q E q=>F.len vs H Q E (h _ _ _ _ q),fun A outer s H args us vs Q E hr he hb hv hs=>F.run A outer s H args us vs Q E hr he hb hv (h _ _ _ _ hs)⟩
theorem JW.in1 {P:Program}{w:World}{K:PySem.W.Frag}{mg:Str→Option Value}{base:Heap}{A:Around}{outer:List Env}{s:Shared}{H:Hp}(e:JW P w K mg base A outer s H):
 JW P w K mg base A.in1 outer s H:=⟨e.frames,e.mod,e.bs,e.bsz,e.funs,e.frf,e.hok,e.bare⟩
section
variable {X:Cx}{pins:List (Addr×Obj)}{σ:St}{H:Hp}{s s':Shared}
theorem Ah.env0 (I:Ah X pins σ H s):JW X.prog X.w X.K X.mg X.base X.A X.stack s H:=
 ⟨I.ok.frames,I.ok.mod,I.bs,Nat.le_trans I.ok.bsz I.sz,I.stack,I.stkFree,I.hok,I.bare⟩
theorem Ah.after {Q:VK}{u:Value}(I:Ah X pins σ H s)(h:CE X.stack X.prog X.w H s Q u s'):EP X pins σ Q u s':=by
 obtain⟨v,H',os,bare,un,hok,r,q⟩:=h
 obtain⟨hh,g,d,t,os'⟩:=s'
 obtain rfl:os'=s.os:=os
 exact⟨v,H',I.call (h':=hh) (g':=g) (d':=d) (t':=t) (ch:=[]) un hok bare (fun b z=>absurd z (by simp)),r,q⟩
end
def PK (sp:Sp)(dvs:List V)(E:XK)(t:TA):TE:=fun σ H Q=>t σ H fun vs H1=>sp (vs++dvs) H1 Q E
def IF (K:PySem.W.Frag)(fd:FuncData)(ps:List Str)(ds:List Value):Prop:=
 ∀(s:Shared) (us:List Value),K.In s.heap→(us++ds).length=ps.length→BindsTo s fd ⟨us,[]⟩ (ps.zip (us++ds))
theorem IF.all {K:PySem.W.Frag}{fd:FuncData}{ps:List Str}(h:∀ us:List Value,us.length=ps.length→bindArgs fd ⟨us,[]⟩=pure (ps.zip us)):IF K fd ps []:=fun s us _ hl=>by
 rw[List.append_nil]at hl ⊢
 exact .of_eq (h us hl)
def KY (CX:Mg)(X:Cx)(E:XK):Prop:=∀(pins:List (Addr×Obj)) (σ:St) (H:Hp) (s:Shared) (e:Value) (s':Shared),Ah X pins σ H s→CX X.stack H s E e s'→X.xe e s'
section
variable {X:Cx}{CX:Mg}{k:Nat}{f C:Addr}{fd:FuncData}{ps:List Str}{sp:Sp}{dvs:List V}{ds:List Value}{E:XK}{x m:Str}{p pos apos:Pos}{e o:Expr}{es:List Expr}{ta:TE}{t:TA}
theorem Pw {pins:List (Addr×Obj)}{σ:St}{H:Hp}{s:Shared}{Q:VK}{us:List Value}{vs:List V}(F:Az X.prog X.w X.K X.mg X.base CX k f fd ps sp)(hr:Bx k X.A)(hb:IF X.K fd ps ds)(hd:A2 dvs ds)(hx:KY CX X E)
 (I:Ah X pins σ H s) (r:A2 vs us) (h:sp (vs++dvs) H Q E):wpAny (model X.prog X.w) X.A (call (.ref f) us) (EP X pins σ Q) X.xe s:=by
 have r2:A2 (vs++dvs) (us++ds):=r.append hd
 have hl:(us++ds).length=ps.length:=by rw[← r2.length];exact F.len _ _ _ _ h
 refine wpAny_call (codeAny_mono (F.run X.A X.stack s H ⟨us,[]⟩ (us++ds) (vs++dvs) Q E hr I.env0 (hb s us I.kIn hl) r2 h) fun r s' hq=>?_)
 cases r with
 | error e=>exact hx pins σ H s e s' I hq
 | ok fl=>
  cases fl with
  | ret u=>exact I.after hq
  | next=>exact False.elim hq
  | brk=>exact False.elim hq
  | cont=>exact False.elim hq
theorem OJ (F:Az X.prog X.w X.K X.mg X.base CX k f fd ps sp)(hr:Bx k X.A)(hg:Gl X x)(hm:X.mg x=some (.ref f))(hk:PySem.W.keepIn X.K (.ref f)=true)(hb:IF X.K fd ps ds)(hd:A2 dvs ds)(hx:KY CX X E)
 (ha:PA X (e::es) t) (hdb:(x==("__debug__":Str))=false:=by decide) (he:starEach (e::es) X.env=(false,eval e X.env)::starEach es X.env:=by rfl) (hpl:(backTo pos (starEach es X.env)).any (·.1)=false:=by rfl):
 PE X (.Call (.Name x p) (e::es) [] pos) (PK sp dvs E t):=by
 intro pins s σ H Q I h
 refine wpAny_Call_Name_kw (FB I hg hm ?_ hdb)
 refine PySem.W.callWith_K (h₀:=X.base) I.ok.mod.kin hk (BZ (ha pos pins s σ H _ I h) fun us s1 ⟨vs,H1,I1,r,q⟩=>⟨I1.kIn,?_⟩) he hpl
 exact Pw F hr hb hd hx I1 r q
end
structure AZ (N P:List Str)(sc:Scope):Prop where
 kind:sc.kind=.function
 co:sc.isCoroutine=false
 gen:sc.isGenerator=false
 nd:N.Nodup
 pre:N.take P.length=P
 par:∀ x∈P,sc.names.lookup x=some .local∨sc.names.lookup x=some .cell
 nofree:∀ y∈sc.names,y.2≠.free
theorem IG {kindOf:Str→Option NameKind}{x:Str}:∀{binds:List (Str×Value)} {m:Str→Option Value},(∀ v,(x,v)∉binds)→bindL kindOf binds m x=m x
 | [],_,_=>rfl
 | (n,v)::r,m,h=>by
  unfold bindL
  rw[IG fun w hw=>h w (List.mem_cons_of_mem _ hw)]
  split
  ·have:x≠n:=by rintro rfl;exact h v List.mem_cons_self
   simp[this]
  ·rfl
theorem IH {kindOf:Str→Option NameKind}{x:Str}:∀{binds:List (Str×Value)} {m:Str→Option Value},(∀ v,(x,v)∉binds)→bindC kindOf binds m x=m x
 | [],_,_=>rfl
 | (n,v)::r,m,h=>by
  unfold bindC
  rw[IH fun w hw=>h w (List.mem_cons_of_mem _ hw)]
  split
  ·rfl
  ·have:x≠n:=by rintro rfl;exact h v List.mem_cons_self
   simp[this]
theorem II {kindOf:Str→Option NameKind}{x:Str}{v:Value}:∀{P:List Str} {vs:List Value} {i:Nat} {m:Str→Option Value},P.Nodup→P[i]?=some x→vs[i]?=some v→kindOf x=some .local→
 bindL kindOf (P.zip vs) m x=some v
 | [],_,_,_,_,h,_,_=>by simp at h
 | _::_,[],_,_,_,_,h,_=>by simp at h
 | p::P,w::vs,0,m,nd,h1,h2,hk=>by
  simp at h1 h2;subst h1;subst h2
  show bindL kindOf ((p,w)::P.zip vs) m p=_
  unfold bindL
  rw[IG fun v hv=>(List.nodup_cons.mp nd).1 (List.of_mem_zip hv).1,if_pos hk]
  simp
 | p::P,w::vs,i+1,m,nd,h1,h2,hk=>by
  show bindL kindOf ((p,w)::P.zip vs) m x=_
  unfold bindL
  exact II (i:=i) (List.nodup_cons.mp nd).2 (by simpa using h1) (by simpa using h2) hk
theorem IJ {kindOf:Str→Option NameKind}{x:Str}{v:Value}:∀{P:List Str} {vs:List Value} {i:Nat} {m:Str→Option Value},P.Nodup→P[i]?=some x→vs[i]?=some v→kindOf x≠some .local→
 bindC kindOf (P.zip vs) m x=some v
 | [],_,_,_,_,h,_,_=>by simp at h
 | _::_,[],_,_,_,_,h,_=>by simp at h
 | p::P,w::vs,0,m,nd,h1,h2,hk=>by
  simp at h1 h2;subst h1;subst h2
  show bindC kindOf ((p,w)::P.zip vs) m p=_
  unfold bindC
  rw[IH fun v hv=>(List.nodup_cons.mp nd).1 (List.of_mem_zip hv).1,if_neg hk]
  simp
 | p::P,w::vs,i+1,m,nd,h1,h2,hk=>by
  show bindC kindOf ((p,w)::P.zip vs) m x=_
  unfold bindC
  exact IJ (i:=i) (List.nodup_cons.mp nd).2 (by simpa using h1) (by simpa using h2) hk
def EA (N:List Str)(vs:List V):St:=vs.map some++List.replicate (N.length-vs.length) none
def Gk (CX:Mg)(P:Program)(w:World)(K:PySem.W.Frag)(mg:Str→Option Value)(base:Heap)(N:List Str)(qual:Str)(scope:Scope)(f:Addr)(cd:Value)(A:Around)(outer:List Env)(s:Shared)(H:Hp)(E:XK):Cx where
 prog:=P
 w:=w
 K:=K
 mg:=mg
 base:=base
 A:=A.deeper (envOfC qual scope s.heap.objs.size f cd)
 N:=N
 s₀:=s
 H₀:=H
 env:=envOfC qual scope s.heap.objs.size f cd
 outer:=outer
 stack:=envOfC qual scope s.heap.objs.size f cd::outer
 ex:=[]
 calm:=true
 fn:=fun _=>true
 pn:=[]
 xe:=fun e s'=>wpAny (model P w) (A.deeper (envOfC qual scope s.heap.objs.size f cd)) (leaving (envOfC qual scope s.heap.objs.size f cd) e) (fun _ s''=>CX outer H s E e s'') (fun e' s''=>CX outer H s E e' s'') s'
theorem JX {sc:Scope}{n:Nat}{x:Str}(h:sc.names.lookup x=some .cell):∃ c,(cellsFrom n sc.names []).lookup x=some c:=by
 have q:=PySem.W.cellsFrom_some sc.names n [] (.inl h)
 exact Option.isSome_iff_exists.mp q
theorem L9 {CX:Mg}{P:Program}{w:World}{K:PySem.W.Frag}{mg:Str→Option Value}{base:Heap}{N ps:List Str}{qual:Str}{scope:Scope}{f:Addr}{cd:Value}{A:Around}{outer:List Env}{s s1:Shared}{H:Hp}{E:XK}{us:List Value}{vs:List V}
 (S:AZ N ps scope) (hd:A.handled=none) (e0:JW P w K mg base A outer s H) (hl:vs.length=ps.length) (r:A2 vs us)
 (x:InCallC s s.heap.objs.size (bindL (envOfC qual scope s.heap.objs.size f cd).kindOf (ps.zip us) fun _=>none) (cellsFrom (s.heap.objs.size+1) scope.names []) (bindC (envOfC qual scope s.heap.objs.size f cd).kindOf (ps.zip us) fun _=>none) s1):
 Ah (Gk CX P w K mg base N qual scope f cd A outer s H E) [] (EA N vs) H s1:=by
 have hpl:ps.length≤N.length:=by have:=congrArg List.length S.pre;rw[List.length_take]at this;omega
 obtain⟨h1,tk,rfl,hk⟩:=x.done
 have noA:∀ b:Addr,b∉(Gk CX P w K mg base N qual scope f cd A outer s H E).ex:=fun b z=>absurd (show b∈([]:List Addr)from z) (by simp)
 refine⟨⟨e0.mod,S.kind,rfl,rfl,Nat.le_refl _,fun y z c h1 h2=>?_,fun y hy=>?_,fun y c _ h=>?_,fun _=>hd,Around.frames_deeper e0.frames,.inr ⟨rfl,rfl⟩,fun b z=>absurd z (noA b),e0.bs,e0.bsz,fun b _ _=>noA b,fun b z=>absurd z (noA b),e0.funs,e0.frf⟩,
  rfl,e0.bare,Un.kept hk,⟨_,x.toInCall.ns,fun i y v h1 h2 h3=>?_⟩,fun y c h=>⟨_,x.cell y c h⟩,e0.hok.fresh (Nat.le_refl _),fun y c h=>?_,fun p hp=>absurd (show p∈([]:List (Addr×Obj))from hp) (by simp),e0.hok.kept hk,?_⟩
 ·exact name_of_addr x.apart (PySem.mem_of_lookup h1) (PySem.mem_of_lookup h2)
 ·have hy:scope.names.lookup y=some .cell∨scope.names.lookup y=some .free:=hy
  rcases hy with hy | hy
  ·exact JX hy
  ·exact absurd rfl (S.nofree _ (PySem.mem_of_lookup hy))
 ·exact Nat.le_of_lt (x.above y c (PySem.mem_of_lookup h))
 ·have hi:i<vs.length:=by
   unfold EA at h2
   by_cases hi:i<vs.length
   ·exact hi
   ·rw[List.getElem?_append_right (by simpa using hi)]at h2
    rw[List.getElem?_replicate]at h2
    split at h2 <;> cases h2
  have ha:vs[i]?=some v:=by
   unfold EA at h2
   rw[List.getElem?_append_left (by simpa using hi),List.getElem?_map]at h2
   cases e:vs[i]? with
   | none=>rw[e]at h2;cases h2
   | some a=>rw[e]at h2;cases h2;rfl
  obtain⟨u,hu,rv⟩:=r.get ha
  have hp:ps[i]?=some y:=by
   rw[← S.pre,List.getElem?_take_of_lt (by omega)];exact h1
  have ndP:ps.Nodup:=by rw[← S.pre];exact S.nd.sublist (List.take_sublist _ _)
  refine⟨u,rv,?_⟩
  rcases S.par y (List.mem_of_getElem? hp)with k | k
  ·exact .inl ⟨k,II ndP hp hu k⟩
  ·obtain⟨c,e⟩:=JX (n:=s.heap.objs.size+1) k
   refine .inr ⟨.inl k,c,e,?_⟩
   have q:=x.cell y c e
   rw[IJ ndP hp hu (by show scope.names.lookup y≠_;rw[k];decide)]at q
   exact q
 ·exact e0.hok.fresh (Nat.le_of_lt (x.above y c (PySem.mem_of_lookup h)))
 ·unfold EA
  show _=N.length
  rw[List.length_append,List.length_map,List.length_replicate]
  omega
theorem PL {CX:Mg}{P:Program}{w:World}{K:PySem.W.Frag}{mg:Str→Option Value}{base:Heap}{k:Nat}{f:Addr}{name qual:Str}{params:Arguments}{body:List Stmt}{scope:Scope}{dV kV doc pm cdv ct oc:Value}{an od:Option Addr}
 {osl:Array (Option Value)} {N ps:List Str} {sp:Sp} (lk:K.lookup f=some ⟨oc,od,.func (PySem.W.fnOf name qual params body scope dV kV doc pm an cdv ct),osl⟩) (hcd:PySem.W.codeIn K cdv qual=true) (S:AZ N ps scope)
 (len:∀ vs H Q E,sp vs H Q E→vs.length=ps.length)
 (hbody:∀(A:Around) (outer:List Env) (s:Shared) (H:Hp) (vs:List V) (Q:VK) (E:XK),Bx k (A.deeper (envOfC qual scope s.heap.objs.size f cdv))→sp vs H Q E→
  ∃ t,JU (Gk CX P w K mg base N qual scope f cdv A outer s H E) body t∧t { nx:=fun _ H'=>Q .non H',rt:=Q } (EA N vs) H):
 Az P w K mg base CX (k+1) f (PySem.W.fnOf name qual params body scope dV kV doc pm an cdv ct) ps sp:=by
 refine⟨len,fun A outer s H args us vs Q E hr e0 hb r hsp=>?_⟩
 have hl:=len _ _ _ _ hsp
 have KX:K.In s.heap:=e0.mod.kin.keeps fun b o e=>(e0.bs b o e).1
 have lim:s.heap.NoLimit:=e0.mod.nolimit.keeps fun b o e=>(e0.bs b o e).1
 have hkind:∀ y∈ps.zip us,scope.names.lookup y.1=some .local∨(scope.names.lookup y.1=some .cell∧((cellsFrom (s.heap.objs.size+1) scope.names []).lookup y.1).isSome=true):=fun⟨n,v⟩ hy=>by
  rcases S.par n (List.of_mem_zip hy).1 with q | q
  ·exact .inl q
  ·exact .inr ⟨q,PySem.W.cellsFrom_some _ _ _ (.inl q)⟩
 refine codeAny_call_function hr.depth (KX _ _ lk) rfl S.co S.gen rfl (PySem.W.codeRec_of KX hcd) (hb _ _ _ _ ?_)
 refine wpAny_newFunctionEnv_cells S.kind hkind fun env he s1 x=>?_
 subst he
 refine⟨lim.keeps x.toInCall.keep,codeAny_func ?_⟩
 obtain⟨t,ht,hq⟩:=hbody A outer s H vs Q E (hr.deeper _) hsp
 have I:Ah (Gk CX P w K mg base N qual scope f cdv A outer s H E) [] (EA N vs) H s1:=L9 S hr.hd e0 hl r x
 refine wpAny_mono (ht [] s1 (EA N vs) H _ I hq) (fun fl s' hs=>?_) fun e s' hs=>hs
 have fin:∀{σ':St} {H':Hp} {v:V} {u:Value},Ah (Gk CX P w K mg base N qual scope f cdv A outer s H E) [] σ' H' s'→Am v u→Q v H'→CE outer P w H s Q u s':=
  fun {σ' H' v u} J rv q=>⟨v,H',J.os,J.bare,J.base,J.hok,rv,q⟩
 cases fl with
 | ret u=>
  obtain⟨v,σ',H',J,rv,q⟩:=hs
  exact fin J rv q
 | next=>
  obtain⟨σ',H',J,q⟩:=hs
  exact fin (v:=V.non) (u:=Value.none) J rfl q
 | brk=>
  obtain⟨_,_,_,q⟩:=hs
  exact False.elim q
 | cont=>
  obtain⟨_,_,_,q⟩:=hs
  exact False.elim q
section
variable {X:Cx}{x:Str}{p pos:Pos}{e:Expr}{es:List Expr}{t:TA}{id T:String}{r:List V→Hp→VK→Prop}
def UO (r:List V→Hp→VK→Prop)(t:TA):TE:=fun σ H Q=>t σ H fun vs H1=>r vs H1 Q
theorem AK (hc:CC X (.builtin id) r)(hg:Gl X x)(hm:X.mg x=none)(hv:bootBuiltins x=some (.builtin id))(ha:PA X (e::es) t)(hn:x≠"__name__":=by decide)(hdb:(x==("__debug__":Str))=false:=by decide)
 (he:starEach (e::es) X.env=(false,eval e X.env)::starEach es X.env:=by rfl) (hpl:(backTo pos (starEach es X.env)).any (·.1)=false:=by rfl):PE X (.Call (.Name x p) (e::es) [] pos) (UO r t):=by
 intro pins s σ H Q I h
 refine wpAny_Call_Name_kw (DJ I hg hm hv ?_ hn hdb)
 exact PyProof.Rows.callWith_builtin1 (BZ (ha pos pins s σ H _ I h) fun us s1 ⟨vs,H1,I1,r1,q1⟩=>hc pins s1 σ H1 vs us Q I1 r1 q1) he hpl
theorem BH (hc:CC X (.type T) r)(hg:Gl X x)(hm:X.mg x=none)(hv:bootBuiltins x=some (.type T))(ha:PA X (e::es) t)(hn:x≠"__name__":=by decide)(hdb:(x==("__debug__":Str))=false:=by decide)
 (he:starEach (e::es) X.env=(false,eval e X.env)::starEach es X.env:=by rfl) (hpl:(backTo pos (starEach es X.env)).any (·.1)=false:=by rfl):PE X (.Call (.Name x p) (e::es) [] pos) (UO r t):=by
 intro pins s σ H Q I h
 refine wpAny_Call_Name_kw (DJ I hg hm hv ?_ hn hdb)
 exact PyProof.Rows.callWith_type1 (BZ (ha pos pins s σ H _ I h) fun us s1 ⟨vs,H1,I1,r1,q1⟩=>hc pins s1 σ H1 vs us Q I1 r1 q1) he hpl
end
end L2
namespace HT
open PySem PyProof.Rows
end HT
namespace L2
open PySem PySem.Spec PyProof.Rows
abbrev TO:=St→Hp→(Option Int→Hp→Prop)→Prop
def PO (X:Cx)(e:Option Expr)(t:TO):Prop:=
 ∀(pins:List (Addr×Obj)) (s:Shared) (σ:St) (H:Hp) (Q:Option Int→Hp→Prop),Ah X pins σ H s→t σ H Q→
  wpAny (model X.prog X.w) X.A (evalPart e X.env) (fun u s'=>∃ o H',Ah X pins σ H' s'∧IsPart u o∧Q o H') X.xe s
section
variable {X:Cx}{e:Expr}{te:TE}{lo hi:Option Expr}{tl th:TO}{pos p2:Pos}
def Ug (X:Cx)(r:V→Option Int→Option Int→Hp→VK→Prop):Prop:=
 ∀(pins:List (Addr×Obj)) (s:Shared) (σ:St) (H:Hp) (x:V) (v vl vu:Value) (lo hi:Option Int) (sl:Addr) (Q:VK),Ah X pins σ H s→Am x v→s.heap.IsSliceOf sl vl vu .none→IsPart vl lo→IsPart vu hi→r x lo hi H Q→
  ∃ T id,typeLookup (.type T) "__getitem__"=pure (some (.builtin id))∧s.TypeIs v T∧wpAny (model X.prog X.w) X.A (getItem v (.ref sl)) (EP X pins σ Q) X.xe s
end
def Px (n:Nat)(i:Int):Option Nat:=if 0≤i then(if i<n then some i.toNat else none)else if -(n:Int)≤i then some (i+n).toNat else none
def FF {α:Type}(xs:List α)(i:Int):Option α:=(Px xs.length i).bind fun j=>xs[j]?
theorem LS {n:Nat}{i:Int}{j:Nat}(h:Px n i=some j):seqIndex? i n=some j∧j<n∧-(n:Int)≤i∧i<n:=by
 unfold Px at h
 by_cases h0:0≤i
 ·rw[if_pos h0]at h
  by_cases h1:i<n
  ·rw[if_pos h1]at h
   have e:i.toNat=j:=Option.some.inj h
   exact⟨by rw[seqIndex_of h0 h1,e],by omega,by omega,h1⟩
  ·rw[if_neg h1]at h;cases h
 ·rw[if_neg h0]at h
  by_cases h1:-(n:Int)≤i
  ·rw[if_pos h1]at h
   have e:(i+n).toNat=j:=Option.some.inj h
   exact⟨by rw[seqIndex_neg (by omega) h1,e],by omega,h1,by omega⟩
  ·rw[if_neg h1]at h;cases h
theorem Ie {α:Type}{xs:List α}{i:Int}{v:α}(h:FF xs i=some v):∃ j,seqIndex? i xs.length=some j∧xs[j]?=some v∧j<xs.length∧-(xs.length:Int)≤i∧i<xs.length:=by
 unfold FF at h
 cases e:Px xs.length i with
 | none=>rw[e]at h;cases h
 | some j=>
  rw[e]at h
  obtain⟨h1,h2,h3,h4⟩:=LS e
  exact⟨j,h1,h,h2,h3,h4⟩
theorem B2 {α:Type}{xs:List α}{j:Nat}{v:α}(h:xs[j]?=some v):FF xs (j:Int)=some v:=by
 have hj:j<xs.length:=(List.getElem?_eq_some_iff.mp h).1
 have e:Px xs.length (j:Int)=some j:=by
  unfold Px
  rw[if_pos (by omega),if_pos (by omega)];simp
 unfold FF;rw[e];exact h
def OK (b:Expr):Prop:=∀ o i,subscripted b false o i=operate [o,i] (getItem o i)
def Py (X:Cx)(r:R2):Prop:=
 ∀(value slice:Expr) (pins:List (Addr×Obj)) (s:Shared) (σ:St) (H:Hp) (x y:V) (v u:Value) (Q:VK),Ah X pins σ H s→Am x v→Am y u→r x y H Q→
  subscripted slice false v u=operate [v,u] (getItem v u)→wpAny (model X.prog X.w) X.A (subscriptTail value slice v u) (EP X pins σ Q) X.xe s
def Tq (X:Cx)(id:String)(r:V→List V→Hp→VK→Prop):Prop:=
 ∀(pins:List (Addr×Obj)) (s:Shared) (σ:St) (H:Hp) (x:V) (xs:List V) (v:Value) (us:List Value) (Q:VK),Ah X pins σ H s→Am x v→A2 xs us→r x xs H Q→
  wpAny (model X.prog X.w) X.A (call (.builtin id) (v::us)) (EP X pins σ Q) X.xe s
section
variable {X:Cx}{a b:Expr}{ta tb:TE}{pos:Pos}
theorem AW {r:R2}(hr:Py X r)(ha:PE X a ta)(hb:PE X b tb)(hs:OK b):PE X (.Subscript a b pos) (RH r ta tb):=by
 intro pins s σ H Q I h
 exact Subscript_ (Pq ha hb I h fun v u s2 x y H2 I2 rx ry q=>hr a b pins s2 σ H2 x y v u Q I2 rx ry q (hs _ _))
def RO (K:PySem.W.Frag):R2:=fun x y H Q=>∃ p xs i v,x=.ref p∧y=.int i∧A3 K H p xs∧FF xs i=some v∧Q v H
def RP (K:PySem.W.Frag):R2:=fun x y H Q=>∃ p xs i v,x=.ref p∧y=.int i∧Ao K H p xs∧FF xs i=some v∧Q v H
def Tr:R2:=fun x y H Q=>∃ z i c,x=.str z∧y=.int i∧z.length≤sizeLine∧FF z.cps.toList i=some c∧Q (.str ⟨#[c]⟩) H
theorem A5:Py X (RO X.K):=by
 intro value slice pins s σ H x y v u Q I rx ry h hs
 obtain⟨p,xs,i,z,rfl,rfl,hq,he,q⟩:=h
 cases rx
 obtain⟨t,rfl⟩:=ry
 obtain⟨its,r,pl,hz⟩:=I.list hq
 obtain⟨j,h1,h2,h3,h4,h5⟩:=Ie he
 obtain⟨w,ew,rw'⟩:=r.get h2
 have hl:=r.length
 have hn:=Fi
 have fin:EP X pins σ Q w s:=⟨z,H,I,rw',q⟩
 by_cases h0:0≤i
 ·have hj:i.toNat=j:=by
   rw[seqIndex_of h0 h5]at h1
   exact Option.some.inj h1
  exact item_listR pl.isList h0 (by omega) (by rw[hj];simpa using ew) fin hs
 ·have hj:(i+(its.toArray.size:Int)).toNat=j:=by
   rw[seqIndex_neg (by omega) h4]at h1
   rw[List.size_toArray,← hl]
   exact Option.some.inj h1
  exact subscriptTail_builtinR (x:=w) pl.isList.typeIs slot_list_getitem.lookup
   (wpAny_getItem_list_neg (Q:=fun r s'=>r=w∧EP X pins σ Q r s') pl.isList (by omega) (by rw[List.size_toArray] <;> omega) (by omega) (by rw[hj];simpa using ew) ⟨rfl,fin⟩) hs
theorem AY:Py X (RP X.K):=by
 intro value slice pins s σ H x y v u Q I rx ry h hs
 obtain⟨p,xs,i,z,rfl,rfl,hq,he,q⟩:=h
 cases rx
 obtain⟨t,rfl⟩:=ry
 obtain⟨its,r,pl,hz⟩:=I.tuple hq
 obtain⟨j,h1,h2,h3,h4,h5⟩:=Ie he
 obtain⟨w,ew,rw'⟩:=r.get h2
 have hl:=r.length
 have hn:=Fi
 have fin:EP X pins σ Q w s:=⟨z,H,I,rw',q⟩
 exact subscriptTail_builtinR (x:=w) pl.typeIs slot_tuple_getitem.lookup
  (getItem_tuple (j:=j) (Q:=fun r s'=>r=w∧EP X pins σ Q r s') pl (by omega) (by omega) (by rw[List.size_toArray,← hl];exact h1) (by simpa using ew) ⟨rfl,fin⟩) hs
theorem Ig:Py X Tr:=by
 intro value slice pins s σ H x y v u Q I rx ry h hs
 obtain⟨z,i,c,rfl,rfl,hz,he,q⟩:=h
 obtain⟨t,rfl⟩:=rx
 obtain⟨t',rfl⟩:=ry
 obtain⟨j,h1,h2,h3,h4,h5⟩:=Ie he
 have hl:z.cps.toList.length=z.length:=by simp[Str.length]
 rw[hl]at h1 h4 h5
 have hn:=Fi
 exact tail_any (typeIs_str s z t) slot_str_getitem.lookup (getItem_str (c:=c) (by
  have e1:decide (i < -(2 ^ 63:Int))=false:=decide_eq_false (by omega)
  have e2:decide (i≥2 ^ 63)=false:=decide_eq_false (by omega)
  rw[e1,e2,Bool.or_false]) (by rw[h1];simpa using h2) ⟨.str ⟨#[c]⟩,H,I.tok _,⟨_,rfl⟩,q⟩) hs
theorem KZ (its:List Value)(n j:Nat)(u:Value):Obj.mapSeq (·.setIfInBounds j u) { cls:=.type "list",data:=.seq its.toArray n }={ cls:=.type "list",data:=.seq (its.set j u).toArray n }:=by
 simp[Obj.mapSeq]
theorem Ah.lst {pins:List (Addr×Obj)}{σ:St}{H:Hp}{s:Shared}{p:Addr}{xs:List V}(I:Ah X pins σ H s)(h:H p=some (.lst xs)):
 ∃(its:List Value) (n:Nat),A2 xs its∧s.heap.get? p=some { cls:=.type "list",data:=.seq its.toArray n }∧xs.length≤sizeLine:=by
 obtain⟨z,its,n,r,e⟩:=I.hok p _ h
 exact⟨its,n,r,e,z⟩
theorem Ah.lstUpd {pins:List (Addr×Obj)}{σ:St}{H:Hp}{s:Shared}{p:Addr}{xs ys:List V}{its its':List Value}{n n':Nat}{f:Obj→Obj}(I:Ah X pins σ H s)(h:H p=some (.lst xs))
 (ho:s.heap.get? p=some { cls:=.type "list",data:=.seq its.toArray n }) (hf:f { cls:=.type "list",data:=.seq its.toArray n }={ cls:=.type "list",data:=.seq its'.toArray n' }) (r:A2 ys its') (hz:ys.length≤sizeLine) (t:Nat):
 Ah X pins σ (upd H p (.lst ys)) { s with heap:=s.heap.update p f,toks:=t }:=by
 have e:(s.heap.update p f).get? p=some { cls:=.type "list",data:=.seq its'.toArray n' }:=by
  rw[Heap.get?_update_self f ho (by rw[hf] <;> rfl),hf]
 refine I.write (x:=p) (e:=p) (by rw[h];trivial) (.inl rfl) (fun b u hb q=>(Heap.get?_update_other _ _ (Ne.symm hb)).trans q) ⟨_,e⟩ ?_
 exact⟨hz,its',n',r,e⟩
def RQ:V→V→V→Hp→(Hp→Prop)→Prop:=fun o i v H Q=>∃ p xs k j,o=.ref p∧i=.int k∧H p=some (.lst xs)∧Px xs.length k=some j∧Q (upd H p (.lst (xs.set j v)))
theorem JY:RC X RQ:=by
 intro pins s σ H o i v ov iv u Q I ro ri rv h
 obtain⟨p,xs,k,j,rfl,rfl,hp,hj,q⟩:=h
 cases ro
 obtain⟨t,rfl⟩:=ri
 obtain⟨its,n,r,ho,hz⟩:=I.lst hp
 obtain⟨h1,h2,h3,h4⟩:=LS hj
 have hl:=r.length
 have hn:=Fi
 have I':Ah X pins σ (upd H p (.lst (xs.set j v))) { s with heap:=s.heap.update p (Obj.mapSeq (·.setIfInBounds j u)) }:=
  I.lstUpd hp ho (KZ its n j u) (r.set rv j) (by rw[List.length_set];exact hz) s.toks
 by_cases h0:0≤k
 ·have hk:k.toNat=j:=by
   rw[seqIndex_of h0 h4]at h1
   exact Option.some.inj h1
  exact PySem.W.ki_setAt ho h0 (by omega) (by rw[List.size_toArray,← hl];exact h4) (by rw[hk];exact⟨_,I',q⟩)
 ·have hk:(k+(its.toArray.size:Int)).toNat=j:=by
   rw[seqIndex_neg (by omega) h3]at h1
   rw[List.size_toArray,← hl]
   exact Option.some.inj h1
  exact PySem.W.ki_setBack ho (by omega) (by rw[List.size_toArray,← hl];exact h3) (by omega) (by rw[hk];exact⟨_,I',q⟩)
def BP:V→Bool
 | .non=>true
 | .bl _=>true
 | .int _=>true
 | .str _=>true
 | _=>false
def JO:V→V→Bool
 | .non,.non=>true
 | .bl a,.bl b=>a==b
 | .bl a,.int b=>(if a then 1 else 0)==b
 | .int a,.bl b=>a==(if b then 1 else 0)
 | .int a,.int b=>a==b
 | .str a,.str b=>a==b
 | _,_=>false
theorem Ka {A:Around}{s:Shared}{y x:V}{u v:Value}(ry:Am y u)(rx:Am x v)(fy:BP y=true)(fx:BP x=true):SeqAt.EqAt A s u v (JO y x):=by
 cases y with
 | non=>
  cases ry
  cases x with
  | non=>cases rx;exact SeqAt.EqAt.same _
  | bl b=>cases rx;exact SeqAt.EqAt.none_bool b
  | int b=>obtain⟨t,rfl⟩:=rx;exact SeqAt.EqAt.none_int b t
  | str b=>obtain⟨t,rfl⟩:=rx;exact SeqAt.EqAt.none_str b t
  | _=>exact absurd (show false=true from fx) Bool.false_ne_true
 | bl a=>
  cases ry
  cases x with
  | non=>cases rx;exact SeqAt.EqAt.bool_none a
  | bl b=>cases rx;exact SeqAt.EqAt.bool_bool a b
  | int b=>obtain⟨t,rfl⟩:=rx;exact SeqAt.EqAt.bool_int a b t
  | str b=>obtain⟨t,rfl⟩:=rx;exact SeqAt.EqAt.bool_str a b t
  | _=>exact absurd (show false=true from fx) Bool.false_ne_true
 | int a=>
  obtain⟨t',rfl⟩:=ry
  cases x with
  | non=>cases rx;exact SeqAt.EqAt.int_none a t'
  | bl b=>cases rx;exact SeqAt.EqAt.int_bool a t' b
  | int b=>obtain⟨t,rfl⟩:=rx;exact SeqAt.EqAt.int_int a t' b t
  | str b=>obtain⟨t,rfl⟩:=rx;exact SeqAt.EqAt.int_str a t' b t
  | _=>exact absurd (show false=true from fx) Bool.false_ne_true
 | str a=>
  obtain⟨t',rfl⟩:=ry
  cases x with
  | non=>cases rx;exact SeqAt.EqAt.str_none a t'
  | bl b=>cases rx;exact SeqAt.EqAt.str_bool a t' b
  | int b=>obtain⟨t,rfl⟩:=rx;exact SeqAt.EqAt.str_int a t' b t
  | str b=>obtain⟨t,rfl⟩:=rx;exact SeqAt.EqAt.str_str a t' b t
  | _=>exact absurd (show false=true from fx) Bool.false_ne_true
 | _=>exact absurd (show false=true from fy) Bool.false_ne_true
def Kb (x:V)(u:Value):Bool:=match u with
 | .none=>JO .non x
 | .bool b=>JO (.bl b) x
 | .int i _=>JO (.int i) x
 | .str z _=>JO (.str z) x
 | _=>false
theorem Mq {x y:V}{u:Value}(r:Am y u)(f:BP y=true):Kb x u=JO y x:=by
 cases y with
 | non=>cases r;rfl
 | bl b=>cases r;rfl
 | int i=>obtain⟨t,rfl⟩:=r;rfl
 | str z=>obtain⟨t,rfl⟩:=r;rfl
 | _=>exact absurd (show false=true from f) Bool.false_ne_true
theorem FG {x:V}:∀{xs:List V} {us:List Value},A2 xs us→xs.all BP=true→us.any (Kb x)=xs.any fun y=>JO y x
 | _,_,.nil,_=>rfl
 | y::xs,u::us,.cons r t,f=>by
  rw[List.all_cons,Bool.and_eq_true]at f
  rw[List.any_cons,List.any_cons,Mq r f.1,FG t f.2]
theorem EB {A:Around}{s:Shared}{x:V}{v:Value}(rx:Am x v)(fx:BP x=true):∀{xs:List V} {us:List Value},A2 xs us→xs.all BP=true→∀ u∈us,SeqAt.EqAt A s u v (Kb x u)
 | _,_,.nil,_=>fun u hu=>by cases hu
 | y::xs,u::us,.cons r t,f=>fun u' hu=>by
  rw[List.all_cons,Bool.and_eq_true]at f
  rcases List.mem_cons.mp hu with rfl | hu
  ·rw[Mq r f.1];exact Ka r rx f.1 fx
  ·exact EB rx fx t f.2 u' hu
def F9 (x:V)(xs:List V):Bool:=xs.any fun y=>JO y x
def Ts (K:PySem.W.Frag)(neg:Bool):R2:=fun x y H Q=>∃ p xs,y=.ref p∧(A3 K H p xs∨Ao K H p xs)∧BP x=true∧xs.all BP=true∧Q (.bl (if neg then !F9 x xs else F9 x xs)) H
theorem EY:EX X (compareOp .In) (Ts X.K false):=by
 intro pins s σ H x y v u Q I rx ry h
 obtain⟨p,xs,rfl,hq,fx,fs,q⟩:=h
 cases ry
 rcases hq with hq | hq
 ·obtain⟨its,r,pl,hz⟩:=I.list hq
  refine SeqAt.in_listAt (Kb x) pl.isList (fun w hw=>EB rx fx r fs w (by simpa using hw)) ⟨.bl _,H,I,rfl,?_⟩
  rw[show its.toArray.any (Kb x)=its.any (Kb x)by simp,FG r fs]
  exact q
 ·obtain⟨its,r,pl,hz⟩:=I.tuple hq
  refine SeqAt.in_tupleAt (Kb x) pl (fun w hw=>EB rx fx r fs w (by simpa using hw)) ⟨.bl _,H,I,rfl,?_⟩
  rw[show its.toArray.any (Kb x)=its.any (Kb x)by simp,FG r fs]
  exact q
theorem Ih:EX X (compareOp .NotIn) (Ts X.K true):=by
 intro pins s σ H x y v u Q I rx ry h
 obtain⟨p,xs,rfl,hq,fx,fs,q⟩:=h
 cases ry
 rcases hq with hq | hq
 ·obtain⟨its,r,pl,hz⟩:=I.list hq
  refine SeqAt.notIn_listAt (Kb x) pl.isList (fun w hw=>EB rx fx r fs w (by simpa using hw)) ⟨.bl _,H,I,rfl,?_⟩
  rw[show its.toArray.any (Kb x)=its.any (Kb x)by simp,FG r fs]
  exact q
 ·obtain⟨its,r,pl,hz⟩:=I.tuple hq
  refine SeqAt.notIn_tupleAt (Kb x) pl (fun w hw=>EB rx fx r fs w (by simpa using hw)) ⟨.bl _,H,I,rfl,?_⟩
  rw[show its.toArray.any (Kb x)=its.any (Kb x)by simp,FG r fs]
  exact q
theorem Ac:CC X (.builtin "len") (fun xs H Q=>∃ p ys,xs=[.ref p]∧(A3 X.K H p ys∨Ao X.K H p ys)∧Q (.int ys.length) H):=by
 intro pins s σ H xs us Q I r h
 obtain⟨p,ys,rfl,hq,q⟩:=h
 obtain⟨u,rfl,rx⟩:=FE r
 cases rx
 have hn:=Fi
 rcases hq with hq | hq
 ·obtain⟨its,r',pl,hz⟩:=I.list hq
  have hlen:=r'.length
  exact Calls.call_len_list pl.isList (by simp only[List.size_toArray] <;> omega) ⟨.int ys.length,H,I.tok _,⟨s.toks+1,by rw[List.size_toArray,hlen]⟩,q⟩
 ·obtain⟨its,r',pl,hz⟩:=I.tuple hq
  have hlen:=r'.length
  exact len_tuple pl (by simp only[List.size_toArray] <;> omega) ⟨.int ys.length,H,I.tok _,⟨s.toks+1,by rw[List.size_toArray,hlen]⟩,q⟩
theorem Db:CC X (.builtin "len") (fun xs H Q=>∃ z,xs=[.str z]∧z.length≤sizeLine∧Q (.int z.length) H):=by
 intro pins s σ H xs us Q I r h
 obtain⟨z,rfl,hz,q⟩:=h
 obtain⟨u,rfl,t,rfl⟩:=FE r
 have hn:=Fi
 exact len_str (by omega) ⟨.int z.length,H,I.tok _,⟨_,rfl⟩,q⟩
theorem Bt:CC X (.type "list") (fun xs H Q=>∃ p ys,xs=[.ref p]∧(A3 X.K H p ys∨Ao X.K H p ys)∧∀ l,H l=none→Q (.ref l) (upd H l (.lst ys))):=by
 intro pins s σ H xs us Q I r h
 obtain⟨p,ys,rfl,hq,q⟩:=h
 obtain⟨u,rfl,rx⟩:=FE r
 cases rx
 have fin:∀(its:List Value),A2 ys its→ys.length≤sizeLine→∀(h':Heap) (c':Nat),(∀ b o',s.heap.get? b=some o'→h'.get? b=some o')→
  h'.get? s.heap.objs.size=some { cls:=.type "list",dict:=none,data:=.seq its.toArray c',slots:=#[] }→EP X pins σ Q (.ref s.heap.objs.size) { s with heap:=h' }:=fun its r' hz h' c' kp e=>
  ⟨.ref s.heap.objs.size,_,I.laid (t':=s.toks) kp (Nat.le_refl _) (show BI X.prog X.w _ h' _ (.lst ys)from⟨hz,its,c',r',e⟩),rfl,q _ (I.hok.fresh (Nat.le_refl _))⟩
 rcases hq with hq | hq
 ·obtain⟨its,r',pl,hz⟩:=I.list hq
  have hlen:=r'.length
  obtain⟨o,ho,hc,n,hd⟩:=pl.isList
  exact call_list_seq p (.inl rfl) ho hc hd (fun h' c' kp e=>fin its r' hz h' c' kp e) (by simp only[List.size_toArray] <;> omega)
 ·obtain⟨its,r',pl,hz⟩:=I.tuple hq
  have hlen:=r'.length
  obtain⟨o,ho,hc,n,hd⟩:=pl
  exact call_list_seq p (.inr rfl) ho hc hd (fun h' c' kp e=>fin its r' hz h' c' kp e) (by simp only[List.size_toArray] <;> omega)
theorem BN:CC X (.type "tuple") (fun xs H Q=>∃ p ys,xs=[.ref p]∧((A3 X.K H p ys∧∀ l,H l=none→Q (.ref l) (upd H l (.tup ys)))∨(Ao X.K H p ys∧Q (.ref p) H))):=by
 intro pins s σ H xs us Q I r h
 obtain⟨p,ys,rfl,h⟩:=h
 obtain⟨u,rfl,rx⟩:=FE r
 cases rx
 rcases h with⟨hq,q⟩ | ⟨hq,q⟩
 ·obtain⟨its,r',pl,hz⟩:=I.list hq
  have hlen:=r'.length
  refine call_tuple_list pl.isList (fun h' kp=>?_) (by simp only[List.size_toArray] <;> omega)
  have I1:Ah X pins σ H { s with heap:=h' }:=I.kept (t':=s.toks) kp
  have I2:Ah X pins σ (upd H h'.objs.size (.tup ys)) { s with heap:=h'.push { cls:=.type "tuple",data:=.seq its.toArray } }:=
   I1.laid (t':=s.toks) (fun b o e=>Heap.get?_push_of_some _ e) (Nat.le_refl _) (show BI X.prog X.w _ _ _ (.tup ys)from⟨hz,its,r',IsTup.new _ _⟩)
  exact⟨.ref h'.objs.size,_,I2,rfl,q _ (I1.hok.fresh (Nat.le_refl _))⟩
 ·obtain⟨its,r',pl,hz⟩:=I.tuple hq
  exact call_tuple_same pl ⟨.ref p,H,I,rfl,q⟩
def Tt (K:PySem.W.Frag)(T:String)(x:V)(H:Hp):Prop:=match x with
 | .str _=>T="str"
 | .int _=>T="int"
 | .ref p=>(T="list"∧∃ xs,A3 K H p xs)∨(T="tuple"∧∃ o,K.lookup p=some o∧o.cls=.type "tuple"∧o.dict=none)∨
  (T="dict"∧((∃ kvs,H p=some (.dK kvs))∨∃ kvs,H p=some (.dT kvs)))∨(T="set"∧∃ S n,H p=some (.set S n))
 | _=>False
theorem Mr {pins:List (Addr×Obj)}{σ:St}{H:Hp}{s:Shared}{T:String}{x:V}{v:Value}(I:Ah X pins σ H s)(r:Am x v)(ty:Tt X.K T x H):
 s.TypeIs v T∧∀ a,v=.ref a→∃ ob,s.heap.get? a=some ob∧ob.dict=none:=by
 cases x with
 | str z=>
  obtain⟨t,rfl⟩:=r
  cases (show T="str" from ty)
  exact⟨typeIs_str s z t,fun _ e=>nomatch e⟩
 | int i=>
  obtain⟨t,rfl⟩:=r
  cases (show T="int" from ty)
  exact⟨typeIs_int s i t,fun _ e=>nomatch e⟩
 | ref p=>
  cases r
  rcases ty with⟨rfl,xs,hq⟩ | ⟨rfl,o,hk,hc,hd⟩ | ⟨rfl,hk⟩ | ⟨rfl,S,n,hk⟩
  ·obtain⟨its,_,pl,_⟩:=I.list hq
   refine⟨pl.isList.typeIs,fun a e=>?_⟩
   cases e
   obtain⟨o,n,e,c,hd,_⟩:=pl
   exact⟨o,e,hd⟩
  ·refine⟨⟨o,I.kIn p o hk,hc⟩,fun a e=>?_⟩
   cases e
   exact⟨o,I.kIn _ o hk,hd⟩
  ·have z:∃ o,s.heap.get? p=some o∧o.ExactDict:=by
    rcases hk with⟨kvs,hk⟩ | ⟨kvs,hk⟩
    ·obtain⟨_,_,_,_,o,_,_,e,ex,_⟩:=I.hok p _ hk
     exact⟨o,e,ex⟩
    ·obtain⟨_,_,_,_,o,_,_,e,ex,_⟩:=I.hok p _ hk
     exact⟨o,e,ex⟩
   obtain⟨o,e,ex⟩:=z
   refine⟨⟨o,e,ex.1⟩,fun a e2=>?_⟩
   cases e2
   exact⟨o,e,ex.2.1⟩
  ·obtain⟨o,_,_,_,e,ex,_⟩:=I.hok p _ hk
   refine⟨⟨o,e,ex.1⟩,fun a e2=>?_⟩
   cases e2
   exact⟨o,e,ex.2.1⟩
 | _=>exact False.elim ty
def Tu (K:PySem.W.Frag)(T:String)(r:V→List V→Hp→VK→Prop)(to:TE):TE:=fun σ H Q=>to σ H fun x H1=>Tt K T x H1∧r x [] H1 Q
def Uh (K:PySem.W.Frag)(T:String)(r:V→List V→Hp→VK→Prop)(to:TE)(t:TA):TE:=fun σ H Q=>to σ H fun x H1=>Tt K T x H1∧t σ H1 fun xs H2=>r x xs H2 Q
variable {o e:Expr}{es:List Expr}{to:TE}{t:TA}{name:Str}{apos cpos:Pos}{T id:String}{r:V→List V→Hp→VK→Prop}
theorem Ms (pa:PlainAttrs T)(slot:Slot T name id)(hty:typeOf (.builtin id)=pure (.type "method_descriptor"))(hm:Tq X id r)(ho:PE X o to)
 (hbase:attributeBase o name X.env (eval o X.env)=eval o X.env:=by rfl) (hline:(apos.endLine==cpos.line)=true:=by rfl):PE X (.Call (.Attribute o name apos) [] [] cpos) (Tu X.K T r to):=by
 intro pins s σ H Q I h
 refine wpAny_Call_method0_late hbase hline (BZ (ho pins s σ H _ I h) fun v s1 zq=>?_)
 obtain⟨x,H1,I1,r1,ty,q1⟩:=zq
 obtain⟨h1,h2⟩:=Mr I1 r1 ty
 exact⟨T,id,pa,slot,hty,h1,h2,Calls.callWith_builtin rfl (PySem.evalArgs_none (hm pins s1 σ H1 x [] v [] Q I1 r1 .nil q1))⟩
theorem IK (pa:PlainAttrs T)(slot:Slot T name id)(hty:typeOf (.builtin id)=pure (.type "method_descriptor"))(hm:Tq X id r)(ho:PE X o to)(ha:PA X (e::es) t)
 (hbase:attributeBase o name X.env (eval o X.env)=eval o X.env:=by rfl)
 (hfew:((backTo cpos (starEach (e::es) X.env)).all (fun x=>!x.1)&&(backToKw cpos (keywordEach [] X.env)).all (fun x=>x.1.isSome)
  && decide ((e::es).length+([]:List Keyword).length+(if([]:List Keyword).isEmpty then 0 else 1)<30))=true:=by rfl)
 (hline:(apos.endLine==cpos.line)=true:=by rfl) (hs:starEach (e::es) X.env=(false,eval e X.env)::starEach es X.env:=by rfl) (hplain:(backTo cpos (starEach es X.env)).any (·.1)=false:=by rfl):
 PE X (.Call (.Attribute o name apos) (e::es) [] cpos) (Uh X.K T r to t):=by
 intro pins s σ H Q I h
 refine wpAny_Call_method_late hbase hfew hline rfl (BZ (ho pins s σ H _ I h) fun v s1 zq=>?_)
 obtain⟨x,H1,I1,r1,ty,q1⟩:=zq
 obtain⟨h1,h2⟩:=Mr I1 r1 ty
 refine⟨T,id,pa,slot,hty,h1,h2,?_⟩
 have hA:=ha cpos pins s1 σ H1 _ I1 q1
 rw[hs]at hA ⊢
 refine Calls.callWith_builtin (by show(false||(backTo cpos (starEach es X.env)).any (·.1))=false;rw[hplain] <;> rfl) (Calls.evalArgs_plain ?_)
 exact BZ hA fun us s2 ⟨vs,H2,I2,r2,q2⟩=>hm pins s2 σ H2 x vs v us Q I2 r1 r2 q2
/- xs.append(e),list.index on a module's tuple .. are Tq facts of 06m -/
end
def RR (X:Cx)(id:String)(r:V→List V→Hp→VK→Prop):Prop:=
 ∀(pins:List (Addr×Obj)) (s:Shared) (σ:St) (H:Hp) (x:V) (xs:List V) (v:Value) (us:List Value) (Q:VK),Ah X pins σ H s→Am x v→A2 xs us→r x xs H Q→
  wpAny (model X.prog X.w) X.A (call (.builtin id) (v::us)) (EP X pins σ Q) X.xe s
theorem A2.one {x:V}{us:List Value}(h:A2 [x] us):∃ u,us=[u]∧Am x u:=by
 cases h with
 | cons r t=>
  cases t
  exact⟨_,rfl,r⟩
theorem A2.two {x y:V}{us:List Value}(h:A2 [x,y] us):∃ u v,us=[u,v]∧Am x u∧Am y v:=by
 cases h with
 | cons r t=>
  cases t with
  | cons q t=>
   cases t
   exact⟨_,_,rfl,r,q⟩
theorem A2.zero:∀{us:List Value},A2 [] us→us=[]
 | _,.nil=>rfl
theorem A2.dropLast {xs:List V}{us:List Value}(h:A2 xs us):A2 xs.dropLast us.dropLast:=by
 induction h with
 | nil=>exact .nil
 | cons r t ih=>
  cases t with
  | nil=>exact .nil
  | cons q t'=>exact .cons r ih
theorem A2.eraseIdx:∀{xs:List V} {us:List Value} (i:Nat),A2 xs us→A2 (xs.eraseIdx i) (us.eraseIdx i)
 | _,_,_,.nil=>.nil
 | _,_,0,.cons _ t=>t
 | _,_,i+1,.cons r t=>.cons r (A2.eraseIdx i t)
theorem Kc {α:Type}(l:List α):l.eraseIdx (l.length-1)=l.dropLast:=by
 induction l with
 | nil=>rfl
 | cons a r ih=>
  cases r with
  | nil=>rfl
  | cons b r=>
   have e:(a::b::r).length-1=((b::r).length-1)+1:=by
    have h1:(a::b::r).length=r.length+2:=rfl
    have h2:(b::r).length=r.length+1:=rfl
    omega
   rw[e,List.eraseIdx_cons_succ,ih]
   all_goals rfl
theorem IL {α:Type}:∀(l:List α) (i:Nat),(l.eraseIdx i).length≤l.length
 | [],_=>Nat.le_refl _
 | _::_,0=>Nat.le_succ _
 | _::r,i+1=>Nat.succ_le_succ (IL r i)
section
variable {X:Cx}{pins:List (Addr×Obj)}{σ:St}{H:Hp}{s:Shared}{l b:Addr}{xs ys zs:List V}
theorem Ah.lset {its its':List Value}{n:Nat}{f:Array Value→Array Value}{t':Nat}(I:Ah X pins σ H s)(hH:H l=some (.lst xs))
 (e:s.heap.get? l=some { cls:=.type "list",data:=.seq its.toArray n }) (hf:f its.toArray=its'.toArray) (hv:A2 ys its') (hz:ys.length≤sizeLine):
 Ah X pins σ (upd H l (.lst ys)) { s with heap:=s.heap.update l (Obj.mapSeq f),toks:=t' }:=by
 have q:=PySem.IsL.update e f
 rw[hf]at q
 refine I.write (x:=l) (e:=l) (by rw[hH];exact trivial) (.inl rfl) (fun b' u hb hu=>(Heap.get?_update_other s.heap (Obj.mapSeq f) (Ne.symm hb)).trans hu) ⟨_,q⟩ ?_
 exact⟨hz,its',_,hv,q⟩
theorem Ah.lnew {its:List Value}{t':Nat}(I:Ah X pins σ H s)(hv:A2 ys its)(hz:ys.length≤sizeLine):
 Ah X pins σ (upd H s.heap.objs.size (.lst ys)) { s with heap:=s.heap.push { cls:=.type "list",data:=.seq its.toArray },toks:=t' }:=
 I.laid (fun _ _ q=>Heap.get?_push_of_some _ q) (Nat.le_refl _) ⟨hz,its,0,hv,Heap.get?_push_size _ rfl⟩
theorem Ah.fresh (I:Ah X pins σ H s):H s.heap.objs.size=none:=I.hok.fresh (Nat.le_refl _)
theorem Ah.lstM (I:Ah X pins σ H s)(hH:H l=some (.lst xs)):xs.length≤sizeLine∧∃(its:List Value) (n:Nat),A2 xs its∧xs.length=its.length∧s.heap.get? l=some { cls:=.type "list",data:=.seq its.toArray n }:=by
 obtain⟨z,its,n,r,e⟩:=I.hok l _ hH
 exact⟨z,its,n,r,r.length,e⟩
theorem Mt {n:Nat}(h:n≤sizeLine):Builtin.List.listTooLong n=false:=by
 unfold Builtin.List.listTooLong
 exact decide_eq_false (by omega)
end
section
variable {X:Cx}
def OL:V→List V→Hp→VK→Prop:=fun x vs H Q=>∃ l xs y,x=.ref l∧vs=[y]∧H l=some (.lst xs)∧xs.length<sizeLine∧Q .non (upd H l (.lst (xs++[y])))
theorem Ch:RR X "list.append" OL:=by
 intro pins s σ H x vs v us Q I rx rv h
 obtain⟨l,xs,y,rfl,rfl,hH,hz,q⟩:=h
 cases rx
 obtain⟨u,rfl,ru⟩:=rv.one
 obtain⟨z,its,n,r,hl,e⟩:=I.lstM hH
 refine call_meets F.slot_list_append ⟨_,e,rfl⟩ F.entry_list_append (F.args_list_append_2 _ _) (PySem.list_append l its.toArray n u (by rw[List.size_toArray];omega)) ⟨e,?_⟩
 refine⟨.non,_,I.lset (its':=its++[u]) hH e (by simp) (r.append (.cons ru .nil)) ?_,rfl,q⟩
 rw[List.length_append,List.length_singleton]
 omega
def OM:V→List V→Hp→VK→Prop:=fun x vs H Q=>∃ l b xs zs,x=.ref l∧vs=[.ref b]∧H l=some (.lst xs)∧H b=some (.lst zs)∧xs.length+zs.length≤sizeLine∧Q .non (upd H l (.lst (xs++zs)))
theorem MA:RR X "list.extend" OM:=by
 intro pins s σ H x vs v us Q I rx rv h
 obtain⟨l,b,xs,zs,rfl,rfl,hH,hB,hz,q⟩:=h
 cases rx
 obtain⟨u,rfl,ru⟩:=rv.one
 cases ru
 obtain⟨z,its,n,r,hl,e⟩:=I.lstM hH
 obtain⟨z2,its2,n2,r2,hl2,e2⟩:=I.lstM hB
 have hsz:its.toArray.size+its2.toArray.size≤sizeLine:=by rw[List.size_toArray,List.size_toArray];omega
 have hlong:¬ (!its.toArray.isEmpty&&Builtin.List.listTooLong (its.toArray.size+its2.toArray.size))=true:=by
  rw[Mt hsz,Bool.and_false]
  exact Bool.false_ne_true
 refine call_meets F.slot_list_extend ⟨_,e,rfl⟩ F.entry_list_extend (F.args_list_extend_2 _ _)
  (AutoSeq1.list_extend_list_list_0 l its.toArray n b its2.toArray n2 hlong (by rw[List.size_toArray];omega) (by omega)) ⟨e,e2,?_⟩
 refine⟨.non,_,I.lset (its':=its++its2) hH e (by simp) (r.append r2) ?_,rfl,q⟩
 rw[List.length_append]
 omega
def Tv:V→List V→Hp→VK→Prop:=fun x vs H Q=>∃ l xs y,x=.ref l∧vs=[]∧H l=some (.lst xs)∧xs[xs.length-1]?=some y∧Q y (upd H l (.lst xs.dropLast))
theorem Pz:RR X "list.pop" Tv:=by
 intro pins s σ H x vs v us Q I rx rv h
 obtain⟨l,xs,y,rfl,rfl,hH,hy,q⟩:=h
 cases rx
 have hus:=rv.zero
 subst hus
 obtain⟨z,its,n,r,hl,e⟩:=I.lstM hH
 obtain⟨u,hu,ru⟩:=r.get hy
 have hy':its.toArray[its.toArray.size-1]?=some u:=by
  show its.toArray[its.length-1]?=some u
  rw[← Array.getElem?_toList,← hl]
  exact hu
 refine call_meets F.slot_list_pop ⟨_,e,rfl⟩ F.entry_list_pop (F.args_list_pop_1 _) (MeetsSeq.list_pop_last l its.toArray n u hy' (by rw[List.size_toArray];omega)) ⟨e,?_⟩
 refine⟨y,_,I.lset (its':=its.dropLast) hH e ?_ r.dropLast ?_,ru,q⟩
 ·show its.toArray.eraseIdxIfInBounds (its.toArray.size-1)=its.dropLast.toArray
  rw[List.size_toArray,List.eraseIdxIfInBounds_toArray,Kc]
 ·rw[List.length_dropLast]
  omega
def P2:V→List V→Hp→VK→Prop:=fun x vs H Q=>∃ l xs i k y,x=.ref l∧vs=[.int i]∧H l=some (.lst xs)∧-(2 ^ 63)≤i∧i<2 ^ 63∧seqIndex? i xs.length=some k∧xs[k]?=some y∧Q y (upd H l (.lst (xs.eraseIdx k)))
theorem Mu:RR X "list.pop" P2:=by
 intro pins s σ H x vs v us Q I rx rv h
 obtain⟨l,xs,i,k,y,rfl,rfl,hH,h1,h2,hk,hy,q⟩:=h
 cases rx
 obtain⟨u,rfl,ru⟩:=rv.one
 obtain⟨t,rfl⟩:=ru
 obtain⟨z,its,n,r,hl,e⟩:=I.lstM hH
 obtain⟨w,hw,rw'⟩:=r.get hy
 refine call_meets F.slot_list_pop ⟨_,e,rfl⟩ F.entry_list_pop (F.args_list_pop_2 _ _)
  (MeetsSeq.list_pop_at l its.toArray n i t k w (fitsIndex_both h1 h2) (by rw[List.size_toArray,← hl];exact hk) (by rw[← Array.getElem?_toList];exact hw) (by rw[List.size_toArray];omega)) ⟨e,?_⟩
 refine⟨y,_,I.lset (its':=its.eraseIdx k) hH e ?_ (r.eraseIdx k) ?_,rw',q⟩
 ·show its.toArray.eraseIdxIfInBounds k=(its.eraseIdx k).toArray
  rw[List.eraseIdxIfInBounds_toArray]
 ·have:=IL xs k
  omega
def P3:V→List V→Hp→VK→Prop:=fun x vs H Q=>∃ l xs,x=.ref l∧vs=[]∧H l=some (.lst xs)∧Q .non (upd H l (.lst []))
theorem Mv:RR X "list.clear" P3:=by
 intro pins s σ H x vs v us Q I rx rv h
 obtain⟨l,xs,rfl,rfl,hH,q⟩:=h
 cases rx
 have hus:=rv.zero
 subst hus
 obtain⟨z,its,n,r,hl,e⟩:=I.lstM hH
 refine call_meets F.slot_list_clear ⟨_,e,rfl⟩ F.entry_list_clear (F.args_list_clear_1 _) (AutoSeq1.list_clear_list_0 l its.toArray n (by rw[List.size_toArray];omega)) ⟨e,?_⟩
 exact⟨.non,_,I.lset (its':=[]) (ys:=[]) hH e rfl .nil (Nat.zero_le _),rfl,q⟩
def Tw:R2:=fun x y H Q=>∃ l b xs zs,x=.ref l∧y=.ref b∧H l=some (.lst xs)∧H b=some (.lst zs)∧xs.length+zs.length≤sizeLine∧∀ p,H p=none→Q (.ref p) (upd H p (.lst (xs++zs)))
theorem Ke:EX X (binaryOp .Add) Tw:=by
 intro pins s σ H x y v u Q I rx ry h
 obtain⟨l,b,xs,zs,rfl,rfl,hH,hB,hz,q⟩:=h
 cases rx
 cases ry
 obtain⟨z,its,n,r,hl,e⟩:=I.lstM hH
 obtain⟨z2,its2,n2,r2,hl2,e2⟩:=I.lstM hB
 refine PySem.P.add_list e e2 ?_ (by rw[List.size_toArray,List.size_toArray];omega)
 have ea:its.toArray++its2.toArray=(its++its2).toArray:=by simp
 rw[ea]
 exact⟨.ref _,_,I.lnew (t':=s.toks) (r.append r2) (by rw[List.length_append];omega),rfl,q _ I.fresh⟩
end
end L2
namespace Att
open PySem PySem.W PySem.Calls PyProof.Rows
theorem GA {P:Params}{h:Heap}:∀(ns:List Int) (vs:List Value),WellAll P h vs (ns.map WData.int)→IntsAre vs ns:=by
 intro ns
 induction ns with
 | nil=>
  intro vs w
  rw[List.map_nil]at w
  cases w
  exact .nil
 | cons n ns ih=>
  intro vs w
  rw[List.map_cons]at w
  cases w with
  | cons a b=>
   cases a
   exact .cons _ _ (ih _ b)
theorem MB {l:OpenLaw}{n:Nat}(hn:l.most=some n){P:Params}{h:Heap}{args:List WData}{vals:List Value}
 (hpre:l.row.toRowW.claim.pre args=true) (hwl:WellAll P h vals args):
 ∃ a vs ns,vals=[Value.ref a]∧args=[WData.list (ns.map WData.int)]∧h.get? a=some { cls:=.type "list",data:=.seq vs.toArray }∧IntsAre vs ns∧ns.length≤n:=by
 have hsh:WShape.hasAll [] args [.list .int]=true:=(pre_splitW hpre).1
 have hc:l.pre.holds [] { args:=args }=true:=(pre_splitW hpre).2
 obtain⟨d,r,rfl,h1,h2⟩:=hasAllW_cons hsh
 obtain rfl:=hasAllW_nil h2
 obtain⟨xs,rfl,h3⟩:=hasW_list h1
 obtain⟨ns,rfl⟩:=items_int h3
 have hlen:ns.length≤n:=by
  unfold OpenLaw.pre at hc
  have h4:(WTm.not (.lt (.lit (.int (n:Int))) (.len (.arg 0)))).holds [] { args:=[.list (ns.map .int)] }=true:=by
   have h4:=(holds_andW hc).1
   rw[hn]at h4
   exact h4
  have h5:=condW_of h4 (w_not (w_lt w_lit (w_len_list (w_arg rfl))))
  rw[List.length_map]at h5
  refine Nat.le_of_not_lt fun q=>?_
  have q':(n:Int)<((ns.length:Nat):Int):=by omega
  first
   | (rw[decide_eq_true q']at h5;exact absurd h5 (by decide))
   | (simp at h5;omega)
 cases hwl with
 | cons w1 w2=>
  cases w2
  cases w1 with
  | list ho hall=>exact⟨_,_,ns,rfl,rfl,ho,GA ns _ hall,hlen⟩
theorem MC (l:OpenLaw)(args:List WData):l.row.toRowW.claim.post args (.bool true) args=true:=
 postW_of (r:=l.row.toRowW) (X:=(true==true))
  (show WShape.has [] (.bool true) .bool=true by first | rfl | decide | simp[WShape.has,WShape.arms,WShape.armsAll])
  (show(WTm.eq .res (.lit (.bool true))).value [] { args:=args,res:=some (.bool true),after:=args }=some (.bool (true==true))from w_eq_bool (w_res rfl) w_lit) rfl
theorem JZ {l:OpenLaw}{n:Nat}{q:Program}{loose:List Str}{XP:(Str→Option Value)→Heap→Prop}{YP:World→Heap→Prop}{d:DefRec}
 (hn:l.most=some n) (hdf:d.params.defaults=[])
 (call:∀(w:World) (s₀ s₁:Shared) (mg mb:Str→Option Value) (fa:Addr) (o:Obj) (pm cd doc:Value) (a:Addr) (vs:List Value) (ns:List Int),
  Ground q loose [] XP w s₀ mg mb s₁.heap→YP w s₁.heap→
  s₁.heap.get? fa=some o→o.data=.func (docDef d.name d.params d.body d.scope pm cd doc)→s₁.heap.CodeRec cd d.name→mg d.name=some (.ref fa)→
  s₁.heap.get? a=some { cls:=.type "list",data:=.seq vs.toArray }→IntsAre vs ns→ns.length≤n→s₁.gens=#[]→
  codeAny (model l.prog w) callerA (.call (.ref fa) ⟨[.ref a],[]⟩) (fun r s'=>r=.ok (.ret (.bool true))∧OldK s₁.heap s'.heap∧s'.os=s₁.os∧AllBare s'.gens) s₁):
 WalkO q loose XP YP l.row.toRowW d [] (fun f vs=>PySem.call f vs):=by
 intro w s₀ s₁ mg mb G Y fa o pm cd doc dV kV ho hd hcd hD hmg hg args vals as hpre hlay hrd hwl hlo
 obtain rfl:dV=.none:=Dflts.none hD hdf
 obtain rfl:kV=.none:=Dflts.noKw hD
 obtain⟨a,vs,ns,rfl,rfl,hobj,hints,hlen⟩:=MB hn hpre hwl
 refine enter_call (codeAny_mono (call w s₀ s₁ mg mb fa o pm cd doc a vs ns G Y ho (fd_plain hd) hcd hmg hobj hints hlen hg) fun r s' hq=>?_)
 obtain⟨rfl,h2,h3,h4⟩:=hq
 exact⟨.inl ⟨.bool true,.bool true,[],rfl,fun _=>rfl,.bool true,MC l _,fun _=>⟨List.Pairwise.nil,fun _ hm=>(nomatch hm)⟩⟩,h2,h3,h4⟩
end Att
namespace L2
open PySem PySem.Spec PyProof.Rows
theorem IM:∀{vs:List Value} {ns:List Int},IntsAre vs ns→A2 (ns.map V.int) vs
 | _,_,.nil=>.nil
 | _,_,.cons n t h=>.cons ⟨t,rfl⟩ (IM h)
end L2
/- THE LAST THEOREM (shape;LID,My.* are yours):
 My.Adr: a structure of the addresses that your layer names (classes,functions);My.Txt K t: a structure (Prop) of the equations over K;
 My.txt_mk:{K} {implicit addresses ..} (e1:nsIn K mainGlobals "law"=some (some (.ref f))) (e2:K.lookup f=some ⟨oc,od,.func (fnOf "law" "law" params body scope dV kV doc pm an cdv ct),sl⟩) (e3:codeIn K cdv "law"=true) ..:∃ t,My.Txt K t
set_option maxRecDepth 100000 in
set_option maxHeartbeats 0 in
theorem PySem.Challenge.cw_LID_holds : PySem.Challenge.rw_LID.Holds := by
 w_on;o_law;k_head;(case hw=>w_witness2)
 k_fill
 refine L2.walk_of (l:=PySem.Challenge.rw_LID) (n:=63) (k:=40) (x:="script") (CX:=fun w=>..) (sp:=fun _=>My.sp_law) rfl (by decide) rfl ⟨rfl,by decide,by decide⟩ (fun w h Y=>PySem.W.kIn_of Y) ?F ?S ?C
 case F=>
  intro w mg fa h KX G hmg
  have T:∃ t,My.Txt (L2.KOf KX) t:=by
   dsimp only[L2.KOf]                          -- K must stand as «<heap const> w.params» for k_is
   refine' My.txt_mk ?e1 ?e2 ?e3 ..
   (case e1=>PySem.W.k_is)                    -- in the order: a name -> its address -> its object -> its parts
   (case e2=>PySem.W.k_is)
   ..
  obtain⟨t,T⟩:=T
  have e0:=hmg.symm.trans (PySem.W.mg_of KX G T.law)
  cases e0                                       -- fa is the law's own address
  exact⟨_,fun s u=>.of_eq rfl,fun base kb nb=>My.law_fn T kb nb⟩     -- if «.of_eq rfl» comes too early: refine' ⟨_,?b,fun base kb nb=>My.law_fn T kb nb⟩;exact fun s u=>.of_eq rfl
 case S=>exact fun w H a ns hl hO hS=>..
 case C=>exact ..
(the tactic k_is has no namespace: write k_is) -/
namespace L2
open PySem PySem.Spec PyProof.Rows
def Dc (s:Stmt):Arguments:=match s with
 | .FunctionDef _ a _ _ _ _ _ _ _ _=>a
 | _=>{ posonlyargs:=[],args:=[],vararg:=none,kwonlyargs:=[],kw_defaults:=[],kwarg:=none,defaults:=[] }
def CD (s:Stmt):List Stmt:=match s with
 | .FunctionDef _ _ b _ _ _ _ _ _ _=>b
 | _=>[]
def AM (s:Stmt):Scope:=match s with
 | .FunctionDef _ _ _ _ _ _ sc _ _ _=>sc
 | _=>{ kind:=.function,names:=[],isGenerator:=false,isCoroutine:=false }
abbrev Bd:Mg:=fun _ _ _ _ _ _=>False
abbrev E0:XK:=fun _ _ _=>False
theorem RS {X:Cx}:KY Bd X E0:=fun _ _ _ _ _ _ _ h=>h.elim
structure Fun (K:PySem.W.Frag)(x qual:Str)(st:Stmt)(f:Addr)(fd:FuncData):Prop where
 ex:∃(oc:Value) (od:Option Addr) (kV doc pm:Value) (an:Option Addr) (cdv ct:Value) (osl:Array (Option Value)),
  fd=PySem.W.fnOf x qual (Dc st) (CD st) (AM st) .none kV doc pm an cdv ct∧K.lookup f=some ⟨oc,od,.func fd,osl⟩∧PySem.W.codeIn K cdv qual=true
 kp:PySem.W.keepIn K (.ref f)=true
section
variable {P:Program}{w:World}{K:PySem.W.Frag}{mg:Str→Option Value}{base:Heap}
theorem Fun.ok {x qual:Str}{st:Stmt}{f:Addr}{fd:FuncData}{N ps:List Str}{k:Nat}{sp:Sp}(F:Fun K x qual st f fd)(S:AZ N ps (AM st))(len:∀ vs H Q E,sp vs H Q E→vs.length=ps.length)
 (hbody:∀(cdv:Value) (A:Around) (outer:List Env) (s:Shared) (H:Hp) (vs:List V) (Q:VK) (E:XK),Bx k (A.deeper (envOfC qual (AM st) s.heap.objs.size f cdv))→sp vs H Q E→
  ∃ t,JU (Gk Bd P w K mg base N qual (AM st) f cdv A outer s H E).nox (CD st) t∧t { nx:=fun _ H'=>Q .non H',rt:=Q } (EA N vs) H):Az P w K mg base Bd (k+1) f fd ps sp:=by
 obtain⟨oc,od,kV,doc,pm,an,cdv,ct,osl,rfl,lk,hcd⟩:=F.ex
 refine PL lk hcd S len fun A outer s H vs Q E hr hsp=>?_
 obtain⟨t,h,q⟩:=hbody cdv A outer s H vs Q E hr hsp
 exact⟨t,h.nox,q⟩
theorem Fun.binds {x qual:Str}{st:Stmt}{f:Addr}{fd:FuncData}{ps:List Str}(F:Fun K x qual st f fd)
 (h:∀(kV doc pm:Value) (an:Option Addr) (cdv ct:Value) (us:List Value),us.length=ps.length→bindArgs (PySem.W.fnOf x qual (Dc st) (CD st) (AM st) .none kV doc pm an cdv ct) ⟨us,[]⟩=pure (ps.zip us)):IF K fd ps []:=by
 obtain⟨oc,od,kV,doc,pm,an,cdv,ct,osl,rfl,lk,hcd⟩:=F.ex
 exact .all (h kV doc pm an cdv ct)
theorem P4 {x qual:Str}{st:Stmt}{f:Addr}{oc:Value}{od an:Option Addr}{osl:Array (Option Value)}{kV doc pm cdv ct:Value}(l:K.lookup f=some ⟨oc,od,.func (PySem.W.fnOf x qual (Dc st) (CD st) (AM st) .none kV doc pm an cdv ct),osl⟩)
 (c:PySem.W.codeIn K cdv qual=true) (k:PySem.W.keepIn K (.ref f)=true):Fun K x qual st f (PySem.W.fnOf x qual (Dc st) (CD st) (AM st) .none kV doc pm an cdv ct):=⟨⟨oc,od,kV,doc,pm,an,cdv,ct,osl,rfl,l,c⟩,k⟩
end
theorem Mw {A:Around}{k:Nat}(hr:Bx k A):A.units+1<cLine:=Nat.lt_of_le_of_lt (Nat.add_le_add_left (by decide:1≤64) _) hr.units
theorem IN {n:Nat}(h:n≤1000):n<sizeLine:=Nat.lt_of_le_of_lt h (by decide)
theorem AX {A B:Prop}(h:B):if false=true then A else B:=by
 rw[if_neg Bool.false_ne_true]
 exact h
theorem Ap {A B:Prop}(h:A):if true=true then A else B:=by
 rw[if_pos rfl]
 exact h
theorem CA {c A B:Prop}[Decidable c](h1:c→A)(h2:¬ c→B):if c then A else B:=by
 by_cases h:c
 ·rw[if_pos h]
  exact h1 h
 ·rw[if_neg h]
  exact h2 h
def AH (H H':Hp):Prop:=∀ b o,H b=some o→H' b=some o
theorem AH.refl (H:Hp):AH H H:=fun _ _ h=>h
theorem AH.trans {H H1 H2:Hp}(a:AH H H1)(b:AH H1 H2):AH H H2:=fun c o h=>b c o (a c o h)
theorem AH.seq {K:PySem.W.Frag}{H H':Hp}{a:Addr}{xs:List V}(e:AH H H')(h:A3 K H a xs):A3 K H' a xs:=by
 rcases h with(h | ⟨o,h⟩) | h
 ·exact .inl (.inl (e _ _ h))
 ·exact .inl (.inr ⟨o,e _ _ h⟩)
 ·exact .inr h
def Sz (n:Nat)(x:Int):Prop:=x.natAbs<2 ^ n
theorem Sz.mono {m n:Nat}{x:Int}(h:Sz m x)(hn:m≤n):Sz n x:=Nat.lt_of_lt_of_le h (Nat.pow_le_pow_right (by decide) hn)
section
variable {X:Cx}
def Mz (i j:Int):Prop:=Sz 4000 i∧Sz 4000 j
theorem Mz.ok {i j:Int}(h:Mz i j):IntMulOk i j:=IntMulOk.of_le (m:=4000) (n:=4000) (intBits_le_iff.mpr h.1) (intBits_le_iff.mpr h.2) (by decide)
theorem FH:EX X (binaryOp .Mult) (rI Mz fun i j=>.int (i*j)):=RJ fun _ _ _ _ _ _ _ hc q=>mul_int q hc.ok
def M0 (_ j:Int):Prop:=j≠0∧Sz 4000 j
theorem M0.ok {i j:Int}(h:M0 i j):Builtin.divisionGoesByPylong i j=false:=by
 refine PyProof.noPylong_of_log2 ?_
 have h0:j.natAbs≠0:=by have:=h.1;omega
 exact Nat.lt_trans ((Nat.log2_lt h0).mpr h.2) (by decide)
theorem M1:EX X (binaryOp .FloorDiv) (rI M0 fun i j=>.int (i.fdiv j)):=RJ fun _ _ _ _ _ _ _ hc q=>floordiv_int hc.1 q (.inl hc.ok)
def Gm:List V→List V→Bool
 | [],[]=>true
 | x::xs,y::ys=>JO x y&&Gm xs ys
 | _,_=>false
theorem Gn (n:Nat)(e:Nat→Bool):(List.range (n+1)).all e=(e 0&&(List.range n).all fun i=>e (i+1)):=by
 rw[List.range_succ_eq_map,List.all_cons,List.all_map]
 rfl
def EC (xs ys:List V)(j:Nat):Bool:=match xs[j]?,ys[j]? with
 | some x,some y=>JO x y
 | _,_=>false
theorem Ep:∀(xs ys:List V),((List.range (min xs.length ys.length)).all (EC xs ys)&&xs.length==ys.length)=Gm xs ys
 | [],[]=>by simp[Gm]
 | [],y::ys=>by simp[Gm]
 | x::xs,[]=>by simp[Gm]
 | x::xs,y::ys=>by
  have ih:=Ep xs ys
  have e:min (x::xs).length (y::ys).length=min xs.length ys.length+1:=by simp only[List.length_cons];omega
  rw[e,Gn]
  have e2:(fun i=>EC (x::xs) (y::ys) (i+1))=EC xs ys:=by
   funext i;simp[EC]
  rw[e2]
  have e3:((x::xs).length==(y::ys).length)=(xs.length==ys.length):=by simp
  have e4:EC (x::xs) (y::ys) 0=JO x y:=by simp[EC]
  rw[e3,e4,Bool.and_assoc,ih,Gm]
def Tx (K:PySem.W.Frag)(neg:Bool):R2:=fun x y H Q=>∃ a b xs ys,x=.ref a∧y=.ref b∧Ao K H a xs∧Ao K H b ys∧xs.all BP=true∧ys.all BP=true∧Q (.bl (if neg then !Gm xs ys else Gm xs ys)) H
theorem Ja {pins:List (Addr×Obj)}{σ:St}{H:Hp}{s:Shared}{A:Around}{xs ys:List V}{us vs:List Value}(r1:A2 xs us)(r2:A2 ys vs)(f1:xs.all BP=true)(f2:ys.all BP=true):
 ∀ j (h1:j<us.toArray.size) (h2:j<vs.toArray.size),SeqAt.EqAt A s us.toArray[j] vs.toArray[j] (EC xs ys j):=by
 intro j h1 h2
 have l1:=r1.length
 have l2:=r2.length
 rw[List.size_toArray]at h1 h2
 have hx:xs[j]?=some (xs[j]'(by omega)):=List.getElem?_eq_getElem _
 have hy:ys[j]?=some (ys[j]'(by omega)):=List.getElem?_eq_getElem _
 obtain⟨u,hu,ru⟩:=r1.get hx
 obtain⟨v,hv,rv⟩:=r2.get hy
 have eu:us.toArray[j]'(by simpa using h1)=u:=by
  rw[List.getElem?_eq_getElem h1]at hu
  simpa using Option.some.inj hu
 have ev:vs.toArray[j]'(by simpa using h2)=v:=by
  rw[List.getElem?_eq_getElem h2]at hv
  simpa using Option.some.inj hv
 rw[eu,ev]
 have e:EC xs ys j=JO (xs[j]'(by omega)) (ys[j]'(by omega)):=by unfold EC;rw[hx,hy]
 rw[e]
 exact Ka ru rv (List.all_eq_true.mp f1 _ (List.getElem_mem _)) (List.all_eq_true.mp f2 _ (List.getElem_mem _))
theorem P5 (hu:X.A.units<cLine):EX X (compareOp .Eq) (Tx X.K false):=by
 intro pins s σ H x y v u Q I rx ry h
 obtain⟨a,b,xs,ys,rfl,rfl,ha,hb,f1,f2,q⟩:=h
 cases rx
 cases ry
 obtain⟨its,r1,p1,_⟩:=I.tuple ha
 obtain⟨its2,r2,p2,_⟩:=I.tuple hb
 refine SeqAt.eq_tupleAt (e:=EC xs ys) (show s.heap.IsTuple a its.toArray from p1) (show s.heap.IsTuple b its2.toArray from p2) hu (Ja (pins:=pins) (σ:=σ) (H:=H) r1 r2 f1 f2) ⟨.bl _,H,I,rfl,?_⟩
 rw[List.size_toArray,List.size_toArray,← r1.length,← r2.length,Ep]
 exact q
def Ty (K:PySem.W.Frag)(n:Nat)(t:OD):TG:=fun v σ H Q=>∃ a xs,v=.ref a∧A3 K H a xs∧xs.length=n∧t xs σ H Q
theorem P6 {es:List Expr}{k:Nat}{t:OD}{n:Nat}{pos:Pos}(hc:X.calm=true)(h:Qz X es t)
 (hn:(assignEach es X.env).length=n:=by rfl) (hst:(assignEach es X.env).findIdx? (·.1)=none:=by rfl):PG X (.Tuple es k pos) (Ty X.K n t):=by
 intro pins s σ H v u Q I r hw
 obtain⟨a,xs,e1,hq,hl,hw⟩:=hw
 subst e1
 cases r
 obtain⟨its,rv,ht,hz⟩:=I.list hq
 rw[assign_Tuple]
 refine wpAny_bind (wpAny_standAt ?_)
 unfold unpack
 have e:(assignEach es X.env).length=its.toArray.size:=by rw[hn,← hl,rv.length,List.size_toArray]
 rw[e,hst]
 refine wpAny_bind (wpAny_holding (PySem.W.kun_itemsOf (I.ok.hd hc) ht.isList fun h' hx=>?_))
 have I1:Ah X pins σ H { s with heap:=h' }:=I.kept (t':=s.toks) fun b o e=>hx b o (Nat.ne_of_lt (Heap.lt_size e)) e
 exact h pins _ σ H xs _ Q I1 (by simpa using rv) hw
def Ui (K:PySem.W.Frag):List V→Hp→VK→Prop:=fun xs H Q=>∃ x c t u b,xs=[x,c]∧Fk K H x t∧Am c u∧(∀ p,c≠.ref p∨True)∧PySem.W.kitOne K t u=some b∧Q (.bl b) H
theorem Ab:CC X (.builtin "isinstance") (Ui X.K):=by
 intro pins s σ H xs us Q I r h
 obtain⟨x,c,t,u',b,rfl,ty,rc,_,hk,q⟩:=h
 obtain⟨u,w',rfl,r1,r2⟩:=LR r
 have e:w'=u'∨∃ T,c=.ty T:=by
  cases c with
  | non=>left;cases rc;cases r2;rfl
  | bl _=>left;cases rc;cases r2;rfl
  | int i=>obtain⟨z,rfl⟩:=rc;exact absurd hk (by simp[PySem.W.kitOne,PySem.W.kitCls];cases ty <;> simp)
  | str i=>obtain⟨z,rfl⟩:=rc;exact absurd hk (by simp[PySem.W.kitOne,PySem.W.kitCls];cases ty <;> simp)
  | byt i=>obtain⟨z,rfl⟩:=rc;exact absurd hk (by simp[PySem.W.kitOne,PySem.W.kitCls];cases ty <;> simp)
  | flt i=>obtain⟨z,rfl⟩:=rc;exact absurd hk (by simp[PySem.W.kitOne,PySem.W.kitCls];cases ty <;> simp)
  | ref _=>left;cases rc;cases r2;rfl
  | ty _=>left;cases rc;cases r2;rfl
 rcases e with rfl | ⟨T,rfl⟩
 ·exact IE I r1 ty hk fun tk=>⟨.bl b,H,I.tok tk,rfl,q⟩
 ·cases rc;cases r2
  exact IE I r1 ty hk fun tk=>⟨.bl b,H,I.tok tk,rfl,q⟩
end
def BG (X:Cx)(scope:Scope)(cl:List (Str×Addr))(C:Addr)(N:List Str)(s₀:Shared)(H₀:Hp)(ex:List Addr)(pn:List (Addr×Obj)):Cx where
 prog:=X.prog
 w:=X.w
 K:=X.K
 mg:=X.mg
 base:=X.base
 A:=X.A
 N:=N
 s₀:=s₀
 H₀:=H₀
 env:=compEnvC scope cl C X.env
 outer:=X.stack
 stack:=X.stack
 ex:=ex
 fn:=fun y=>(cl.lookup y).any fun c=>decide (C<c)
 calm:=X.calm
 pn:=pn
 xe:=fun _ _=>False
structure Bu (X:Cx)(scope:Scope)(cl:List (Str×Addr))(x:Str)(fv:List Str)(js:List Nat):Prop where
 kind:scope.kind=.function
 nc:∀ y∈scope.names,y.2≠.cell
 nm:∀ y∈scope.names,y.2=.local→scope.names.lookup y.1=some .local
 hx:scope.names.lookup x=some .local
 fr:∀ y∈scope.names,y.2=.free→y.1∈fv
 nd:(x::fv).Nodup
 vis:∀ y∈fv,scope.names.lookup y=some .free∧X.env.scope.names.lookup y=some .cell∧(cl.lookup y).isSome=true
 cls:∀ p∈cl,X.env.cells.lookup p.1=some p.2
 sl:Paired (fun y j=>X.N[j]?=some y) fv js
def Ff (js:List Nat)(σ:St):St:=js.map fun j=>(σ[j]?).getD none
theorem By {env:Env}(hk:env.scope.kind=.function):∀{names:List (Str×NameKind)} {y:Str},names.lookup y=some .free→env.kindOf y=some .cell→
 (names.map fun(n,k)=>if(k==NameKind.free&&env.scope.kind==.function&&env.kindOf n==some .cell)then(n,NameKind.cell)else(n,k)).lookup y=some .cell
 | [],_,h,_=>by simp at h
 | (n,k)::r,y,h,hy=>by
  have ih:=@By env hk r y
  show List.lookup y ((if(k==NameKind.free&&env.scope.kind==.function&&env.kindOf n==some .cell)=true then(n,NameKind.cell)else(n,k))::_)=_
  cases hx:y==n with
  | true=>
   have e:y=n:=eq_of_beq hx
   subst e
   simp only[List.lookup_cons,hx]at h
   cases h
   rw[if_pos (by rw[hk,hy];rfl)]
   simp[List.lookup_cons]
  | false=>
   simp only[List.lookup_cons,hx]at h
   split
   ·simp only[List.lookup_cons,hx];exact ih h hy
   ·simp only[List.lookup_cons,hx];exact ih h hy
theorem Ce {env:Env}:∀{names:List (Str×NameKind)} {y:Str} {k':NameKind},
 (names.map fun(n,k)=>if(k==NameKind.free&&env.scope.kind==.function&&env.kindOf n==some .cell)then(n,NameKind.cell)else(n,k)).lookup y=some k'→
 names.lookup y=some k'∨(names.lookup y=some .free∧k'=.cell)
 | [],_,_,h=>by simp at h
 | (n,k)::r,y,k',h=>by
  have ih:=@Ce env r y k'
  have h:List.lookup y ((if(k==NameKind.free&&env.scope.kind==.function&&env.kindOf n==some .cell)=true then(n,NameKind.cell)else(n,k))::(r.map fun(n,k)=>if(k==NameKind.free&&env.scope.kind==.function&&env.kindOf n==some .cell)then(n,NameKind.cell)else(n,k)))=some k':=h
  cases hx:y==n with
  | true=>
   by_cases hc:(k==NameKind.free&&env.scope.kind==.function&&env.kindOf n==some .cell)=true
   ·rw[if_pos hc]at h
    simp only[List.lookup_cons,hx]at h
    cases h
    right
    have hk:k=.free:=by
     rw[Bool.and_eq_true,Bool.and_eq_true]at hc
     exact eq_of_beq hc.1.1
    subst hk
    exact⟨by simp[List.lookup_cons,hx],rfl⟩
   ·rw[if_neg hc]at h
    simp only[List.lookup_cons,hx]at h
    left
    simp only[List.lookup_cons,hx]
    exact h
  | false=>
   have h':(r.map fun(n,k)=>if(k==NameKind.free&&env.scope.kind==.function&&env.kindOf n==some .cell)then(n,NameKind.cell)else(n,k)).lookup y=some k':=by
    by_cases hc:(k==NameKind.free&&env.scope.kind==.function&&env.kindOf n==some .cell)=true
    ·rw[if_pos hc]at h
     simp only[List.lookup_cons,hx]at h
     exact h
    ·rw[if_neg hc]at h
     simp only[List.lookup_cons,hx]at h
     exact h
   simp only[List.lookup_cons,hx]
   exact ih h'
section
variable {X:Cx}{scope:Scope}{cl:List (Str×Addr)}{x:Str}{fv:List Str}{js:List Nat}
theorem Bu.cell_of (S:Bu X scope cl x fv js){y:Str}{c:Addr}(h:cl.lookup y=some c):X.env.cells.lookup y=some c:=S.cls (y,c) (PySem.mem_of_lookup h)
theorem Bu.own (S:Bu X scope cl x fv js){C:Addr}{y:Str}{k:NameKind}(h:(compEnvC scope cl C X.env).kindOf y=some k)(hk:k=.cell∨k=.free):y∈fv:=by
 have h':(scope.names.map fun(n,k)=>if(k==NameKind.free&&X.env.scope.kind==.function&&X.env.kindOf n==some .cell)then(n,NameKind.cell)else(n,k)).lookup y=some k:=h
 rcases Ce h' with q | ⟨q,_⟩
 ·rcases hk with rfl | rfl
  ·exact absurd rfl (S.nc _ (PySem.mem_of_lookup q))
  ·exact S.fr _ (PySem.mem_of_lookup q) rfl
 ·exact S.fr _ (PySem.mem_of_lookup q) rfl
theorem Er {F:Str→Nat→Prop}:∀{ys:List Str} {js:List Nat} {i:Nat} {y:Str},Paired F ys js→ys[i]?=some y→∃ j,js[i]?=some j∧F y j:=by
 intro A B j x h
 induction h generalizing j with
 | nil=>
  intro e
  simp at e
 | cons r t ih=>
  intro e
  cases j with
  | zero=>
   simp at e
   subst e
   exact⟨_,rfl,r⟩
  | succ j=>
   obtain⟨y,h1,h2⟩:=ih (by simpa using e)
   exact⟨y,by simpa using h1,h2⟩
theorem Kf {pins:List (Addr×Obj)}{σ:St}{H:Hp}{s:Shared}{h₁:Heap}{ex:List Addr}{tk:Nat}(S:Bu X scope cl x fv js)(I:Ah X pins σ H s)
 (hf:∀ b∈ex,Cz X pins H b) (hlt:∀ b∈ex,b<s.heap.objs.size) (hns:h₁.Ns s.heap.objs.size (fun _=>none)) (hk:∀ b o,s.heap.get? b=some o→h₁.get? b=some o):
 Ah (BG X scope cl s.heap.objs.size (x::fv) s H ex (X.pn++pins)) [] (none::Ff js σ) H { s with heap:=h₁,toks:=tk }:=by
 have nstk:∀ b∈ex,b∉Hg X.stack:=fun b hb z=>by
  rcases List.mem_cons.mp (I.stkSub b z)with e | e
  ·exact(hf b hb).2.1 e
  ·exact(hf b hb).2.2.1 e
 have ok:(BG X scope cl s.heap.objs.size (x::fv) s H ex (X.pn++pins)).Ok:=by
  refine⟨I.ok.mod,S.kind,I.ok.glob,I.ok.blt,Nat.le_refl _,fun y z c h1 h2=>I.ok.inj y z c (S.cell_of h1) (S.cell_of h2),fun y hy=>?_,(fun y c h hc=>by
   have h':((cl.lookup y).any fun c=>decide (s.heap.objs.size<c))=true:=h
   rw[show cl.lookup y=some c from hc]at h'
   exact Nat.le_of_lt (of_decide_eq_true h')),I.ok.hd,I.ok.frames,.inl rfl,
   fun b hb=>⟨Nat.ne_of_lt (hlt b hb),fun y c h=>(hf b hb).2.2.2.2.1 y c (S.cell_of h)⟩,I.bs,Nat.le_trans I.ok.bsz I.sz,fun b o e hb=>?_,nstk,I.stack,I.stkFree⟩
  ·have hm:y∈fv:=by
    rcases hy with hy | hy
    ·exact S.own hy (.inl rfl)
    ·exact S.own hy (.inr rfl)
   exact Option.isSome_iff_exists.mp (S.vis y hm).2.2
  ·obtain⟨f0,f1,f2,f3,f4,f5⟩:=hf b hb
   rcases f3 with z | z
   ·exact I.ok.noex b o e z
   ·exact absurd (Nat.lt_of_lt_of_le (Heap.lt_size e) (Nat.le_trans I.ok.bsz z)) (Nat.lt_irrefl _)
 refine⟨ok,rfl,I.bare,Un.kept hk,⟨_,hns,fun i y v e1 e2 e3=>?_⟩,fun y c h=>?_,I.hok.fresh (Nat.le_refl _),fun y c h=>I.freeC y c (S.cell_of h),fun p hp=>?_,I.hok.kept hk,?_⟩
 ·cases i with
  | zero=>have z:(some (none:Option V))=some (some v):=e2;cases z
  | succ i=>
   have hy:fv[i]?=some y:=by simpa [BG]using e1
   obtain⟨j,hj,hN⟩:=Er S.sl hy
   have hv:σ[j]?=some (some v):=by
    have z:(Ff js σ)[i]?=some (some v):=by simpa using e2
    unfold Ff at z
    rw[List.getElem?_map,hj]at z
    have z':(σ[j]?).getD none=some v:=Option.some.inj z
    cases q:σ[j]? with
    | none=>rw[q]at z';cases z'
    | some o=>rw[q]at z';exact congrArg some z'
   obtain⟨hfree,hcell,hsome⟩:=S.vis y (List.mem_of_getElem? hy)
   obtain⟨m,hn,hl⟩:=I.loc
   obtain⟨u,ru,look⟩:=hl j y v hN hv (.inr (.inl hcell))
   refine⟨u,ru,.inr ⟨.inl (By I.ok.kind hfree hcell),?_⟩⟩
   obtain⟨c',hc'⟩:=Option.isSome_iff_exists.mp hsome
   rcases look with⟨k,_⟩ | ⟨_,c,ec,z⟩
   ·have k':X.env.scope.names.lookup y=some .local:=k
    rw[hcell]at k';cases k'
   ·have e:=S.cell_of hc'
    rw[ec]at e
    cases e
    exact⟨_,hc',by obtain⟨o,ho,hd⟩:=z;exact⟨o,hk _ _ ho,hd⟩⟩
 ·obtain⟨v,o,ho,hd⟩:=I.cell y c (S.cell_of h)
  exact⟨v,o,hk _ _ ho,hd⟩
 ·have hp':p∈X.pn++pins:=by simpa [BG]using hp
  obtain⟨e,n,ne,nf,d⟩:=I.pin p hp'
  refine⟨hk _ _ e,n,Nat.ne_of_lt (Heap.lt_size e),fun z=>?_,d⟩
  rcases List.mem_cons.mp (I.stkSub p.1 z)with q | q
  ·exact ne q
  ·exact nf q
 ·show(none::Ff js σ).length=(x::fv).length
  have:fv.length=js.length:=Paired.length S.sl
  simp[Ff,this]
theorem Go {pins pins':List (Addr×Obj)}{σ σ':St}{H H':Hp}{s s':Shared}{h'':Heap}{ex:List Addr}{N:List Str}{pn:List (Addr×Obj)}(I:Ah X pins σ H s)(hf:∀ b∈ex,Cz X pins H b)
 (J:Ah (BG X scope cl s.heap.objs.size N s H ex pn) pins' σ' H' s') (sb:Heap.SameBut s.heap.objs.size s'.heap h''):Ah X pins σ H' { s' with heap:=h'' }:=by
 have neC:∀ b o,s.heap.get? b=some o→b≠s.heap.objs.size:=fun b o e=>Nat.ne_of_lt (Heap.lt_size e)
 have u:Un (Hg X.stack) ex H H' s.heap s'.heap:=J.base
 have fr:H' s.heap.objs.size=none:=J.free
 refine I.call' (s':={ s' with heap:=h'' }) (ch:=ex) J.os ⟨fun b o e n hb hx=>?_,fun b o e n hb hx=>?_,u.free,fun b o e hx=>?_,u.tups,u.frzs,u.tbls⟩ (fun b o e=>?_) J.bare (fun b hb=>?_)
 ·exact(sb.2 b (neC b o e)).trans (u.keep b o e n hb hx)
 ·obtain⟨sl,q⟩:=u.slot b o e n hb hx
  exact⟨sl,(sb.2 b (neC b o e)).trans q⟩
 ·obtain⟨o',q⟩:=u.there b o e hx
  exact⟨o',(sb.2 b (neC b o e)).trans q⟩
 ·refine(J.hok b o e).stay (fun c v hc q=>(sb.2 c ?_).trans q) (fun _ q=>q) fun _ _ q=>q
  rcases hc with rfl | hc
  ·intro z;rw[z,fr]at e;cases e
  ·intro z;rw[z,fr]at hc;cases hc
 ·obtain⟨f0,f1,f2,f3,f4,f5⟩:=hf b hb
  exact⟨f3,f1,f4,f5⟩
end
def PF (X:Cx)(ifs:List Expr)(t:TT):Prop:=
 ∀(pins:List (Addr×Obj)) (s:Shared) (σ:St) (H:Hp) (Q:Bool→Hp→Prop),Ah X pins σ H s→t σ H Q→
  wpAny (model X.prog X.w) X.A (forIn ifs true fun c r=>if r=true then do let ok ← isTrue c X.env (eval c X.env);pure (ForInStep.yield ok)else pure (ForInStep.yield r)) (TP X pins σ Q) X.xe s
def P7:TT:=fun _ H Q=>Q true H
theorem Bk {X:Cx}:PF X [] P7:=by
 intro pins s σ H Q I h
 rw[List.forIn_nil]
 exact wpAny_pure ⟨H,I,h⟩
theorem P8 {X:Cx}{c:Expr}{t:TT}(h:PT X c t):PF X [c] t:=by
 intro pins s σ H Q I hq
 rw[List.forIn_cons]
 refine wpAny_bind ?_
 rw[if_pos rfl]
 refine wpAny_bind (BZ (h pins s σ H Q I hq) fun b s1 q=>wpAny_pure ?_)
 dsimp only
 rw[List.forIn_nil]
 exact wpAny_pure q
section
variable {prog:Program}{w:World}{A:Around}{R:Result→Shared→Prop}{s:Shared}
theorem Fy {elt target iter:Expr}{ifs:List Expr}{scope:Scope}{pos:Pos}{it acc:Value}{env:Env}(I:Nat→Shared→Prop)
 (turn:∀ n s,I n s→wpAny (model prog w) A (pyNext it) (fun r s₁=>match r with
  | none=>R (.ok .next) s₁
  | some v=>wpAny (model prog w) A (letOwnedTupleGo target it v) (fun _ s₁'=>wpAny (model prog w) A (assign target env v) (fun _ s₂=>
   wpAny (model prog w) A (forIn ifs true fun c r=>if r=true then do let ok ← isTrue c env (eval c env);pure (ForInStep.yield ok)else pure (ForInStep.yield r)) (fun ok s₃=>
    if ok=true then wpAny (model prog w) A (eval elt env) (fun x s₄=>
     wpAny (model prog w) A (call (.builtin "list.append") [acc,x]) (fun _ s₅=>∃ m,m<n∧I m s₅) (fun _ _=>False) s₄) (fun _ _=>False) s₃
    else ∃ m,m<n∧I m s₃) (fun _ _=>False) s₂) (fun _ _=>False) s₁') (fun _ _=>False) s₁) (fun _ _=>False) s)
 (n:Nat) (h:I n s):
 codeAny (model prog w) A (.compLoop (.ListComp elt [⟨target,iter,ifs,0⟩] scope pos) 0 it acc env) R s:=by
 refine codeAny_loop rfl I (fun n s hI=>?_) n h
 show wpAny _ A ((compTurn (.ListComp elt [⟨target,iter,ifs,0⟩] scope pos) 0 it acc env).onRaise (fun x=>do noteFrame x env;theTreesLotGoes x)) _ _ s
 refine wpAny_noted ?_
 rw[compTurn_list]
 refine wpAny_bind (wpAny_standAt (wpAny_bind (wpAny_mono (turn n s hI) (fun r s₁ h₁=>?_) fun _ _ h'=>h'.elim)))
 cases r with
 | none=>exact wpAny_pure h₁
 | some v=>
  refine wpAny_bind (wpAny_mono h₁ (fun _ s₁' h₁'=>?_) fun _ _ h'=>h'.elim)
  refine wpAny_bind (wpAny_mono h₁' (fun _ s₂ h₂=>wpAny_bind (wpAny_mono h₂ (fun ok s₃ h₃=>?_) fun _ _ h'=>h'.elim)) fun _ _ h'=>h'.elim)
  cases ok with
  | false=>exact wpAny_pure ⟨rfl,h₃⟩
  | true=>
   exact wpAny_bind (wpAny_bind (wpAny_mono h₃ (fun x s₄ h₄=>wpAny_bind (wpAny_mono h₄ (fun _ s₅ h₅=>wpAny_pure (wpAny_pure ⟨rfl,h₅⟩)) fun _ _ h'=>h'.elim)) fun _ _ h'=>h'.elim))
end
def M3 (wi:TI)(js:List Nat)(tt:TT)(te:TE):TE:=fun σ H Q=>wi σ H fun J H1=>∀ D,H1 D=none→∃ W:Nat→Nat→Hp→Prop,(∃ m,W 0 m (upd H1 D (.lst [])))∧∀ i m H,W i m H→
 (J.stop i H∧Q (.ref D) H)∨(J.go i H∧∀ x H',J.yld i H x H'→tt (some x::Ff js σ) H' fun b H2=>
  if b=true then te (some x::Ff js σ) H2 fun v H3=>∃ xs,H3 D=some (.lst xs)∧xs.length<sizeLine∧∃ m',m'<m∧W (i+1) m' (upd H3 D (.lst (xs++[v])))
  else ∃ m',m'<m∧W (i+1) m' H2)
section
variable {X:Cx}{es:List Expr}{te:TE}{t:TA}{pos:Pos}
theorem A9 {a0:List Expr}{a1:Nat}(ha:PE X (Expr.Tuple a0 a1 pos) te)(hr:PA X es t):PA X ((Expr.Tuple a0 a1 pos)::es) (Dz te t):=CU ha hr rfl
theorem Gp {a0:List Expr}(ha:PE X (Expr.List a0 pos) te)(hr:PA X es t):PA X ((Expr.List a0 pos)::es) (Dz te t):=CU ha hr rfl
theorem BX {a0:Expr}{a1:Operator}{a2:Expr}(ha:PE X (Expr.BinOp a0 a1 a2 pos) te)(hr:PA X es t):PA X ((Expr.BinOp a0 a1 a2 pos)::es) (Dz te t):=CU ha hr rfl
theorem Aq {a0:Expr}{a1:List Expr}{a2:List Keyword}(ha:PE X (Expr.Call a0 a1 a2 pos) te)(hr:PA X es t):PA X ((Expr.Call a0 a1 a2 pos)::es) (Dz te t):=CU ha hr rfl
theorem AA {a0:Str}(ha:PE X (Expr.Name a0 pos) te)(hr:PA X es t):PA X ((Expr.Name a0 pos)::es) (Dz te t):=CU ha hr rfl
theorem AE {a0:Const}{a1:Nat}(ha:PE X (Expr.Constant a0 a1 pos) te)(hr:PA X es t):PA X ((Expr.Constant a0 a1 pos)::es) (Dz te t):=CU ha hr rfl
theorem AS {a0:Expr}{a1:Expr}(ha:PE X (Expr.Subscript a0 a1 pos) te)(hr:PA X es t):PA X ((Expr.Subscript a0 a1 pos)::es) (Dz te t):=CU ha hr rfl
theorem M4 {a0:UnaryOp}{a1:Expr}(ha:PE X (Expr.UnaryOp a0 a1 pos) te)(hr:PA X es t):PA X ((Expr.UnaryOp a0 a1 pos)::es) (Dz te t):=CU ha hr rfl
theorem ED {a0:Expr}{a1:List CmpOp}{a2:List Expr}(ha:PE X (Expr.Compare a0 a1 a2 pos) te)(hr:PA X es t):PA X ((Expr.Compare a0 a1 a2 pos)::es) (Dz te t):=CU ha hr rfl
theorem Bp {a0:Expr}{a1:List Comprehension}{a2:Scope}(ha:PE X (Expr.ListComp a0 a1 a2 pos) te)(hr:PA X es t):PA X ((Expr.ListComp a0 a1 a2 pos)::es) (Dz te t):=CU ha hr rfl
end
def RT (z:Str):It:=⟨fun i _=>i<z.cps.size,fun i H x H'=>H'=H∧∃ c,z.cps[i]?=some c∧x=.str ⟨#[c]⟩,fun i _=>i=z.cps.size⟩
theorem Jb {P:Program}{w:World}{K:PySem.W.Frag}{tg:Expr}(it:Addr)(x:Str)(t:Tok)(ty:String)
 (hW:∀ A':Around,A'.handled=none→Walks P w A' it [it] [it] x.cps.size (SignAt x) (fun i h=>h.IsStrIter it ty x t i))
 (hn:["enumerate","zip","dict_itemiterator","dict_reverseitemiterator","odict_iterator","itertools.zip_longest","itertools.pairwise"].contains ty=false)
 (hS:∀(A:Around) (i:Nat) (s:Shared) (Q:Value→Shared→Prop) (E:Value→Shared→Prop),s.heap.IsStrIter it ty x t i→Q (.ref it) s→wpAny (model P w) A (pyIter (.ref it)) Q E s):
 KU P w K tg (RT x) [it] it (fun i h=>h.IsStrIter it ty x t i) where
 mem:=by simp
 obj:=fun i h st b hb=>by
  have e:b=it:=by simpa using hb
  subst e
  obtain⟨o,e,c,d⟩:=st
  exact⟨o,e,fun v z=>by rw[d]at z;cases z⟩
 keep:=fun i h h' st k=>let ⟨o,e,r⟩:=st;⟨o,k it (by simp) o e,r⟩
 item:=by
  intro X hP hw hK hc i pins s σ H E I hf st hg
  subst hP hw hK
  obtain⟨f0,f1,f2,f3,f4,f5⟩:=hf it (by simp)
  refine(hW X.A (I.ok.hd hc)).item i s _ _ hg st fun v h' tk hv st' kk=>?_
  obtain⟨c,u,hcu,rfl⟩:=hv
  have I1:Ah X pins σ H { s with heap:=h',toks:=tk }:=I.turned (fun b o hb e=>kk b o (by simpa using hb) e) f0 f1 f3 f4 f5
  obtain⟨o,e,cc,d⟩:=id st'
  exact⟨_,rfl,JV (s:={ s with heap:=h',toks:=tk }) e cc d hn ⟨.str ⟨#[c]⟩,H,I1,⟨u,rfl⟩,⟨rfl,c,hcu,rfl⟩,st',fun b hb=>(hf b hb).1⟩⟩
 done:=by
  intro X hP hw hK hc i pins s σ H E I hf st hg
  subst hP hw hK
  obtain⟨f0,f1,f2,f3,f4,f5⟩:=hf it (by simp)
  have hg:i=x.cps.size:=hg
  subst hg
  exact(hW X.A (I.ok.hd hc)).done s _ _ st fun h' tk kk=>⟨rfl,I.turned (fun b o hb e=>kk b o (by simpa using hb) e) f0 f1 f3 f4 f5⟩
 self:=fun A i s Q E st h=>hS A i s Q E st h
section
variable {X:Cx}{tg:Expr}
def Tz (tl:TE):TI:=fun σ H R=>tl σ H fun x H1=>∃ z,x=.str z∧R (RT z) H1
theorem M5 {l:Expr}{tl:TE}(hl:PE X l tl):PI X tg l (Tz tl):=by
 intro pins s σ H R I h
 refine BZ (hl pins s σ H _ I h) fun v s1 zq=>?_
 obtain⟨x,H1,I1,r1,q1⟩:=zq
 obtain⟨z,e,q⟩:=q1
 subst e
 obtain⟨t,rfl⟩:=r1
 have fp:∀ b∈[s1.heap.objs.size],Cz X pins H1 b:=fun b hb=>by
  have e:b=s1.heap.objs.size:=by simpa using hb
  subst e
  exact I1.fpOk (Nat.le_refl _) (I1.hok.fresh (Nat.le_refl _))
 cases ha:z.cps.all (·<128)
 ·refine wpAny_pyIter_wide ha ?_
  exact⟨s1.heap.objs.size,[s1.heap.objs.size],_,_,H1,rfl,I1.kept (t':=s1.toks) fun b o e=>Heap.get?_push_of_some _ e,
   Jb _ z t "str_iterator" (fun A' hA=>Walks.strWide hA _ z t) (by decide) (fun A i s Q E st h=>wpAny_pyIter_striter_wide st h),⟨_,Heap.get?_push_size _ rfl,rfl,rfl⟩,fp,q⟩
 ·refine wpAny_pyIter_ascii ha ?_
  exact⟨s1.heap.objs.size,[s1.heap.objs.size],_,_,H1,rfl,I1.kept (t':=s1.toks) fun b o e=>Heap.get?_push_of_some _ e,
   Jb _ z t "str_ascii_iterator" (fun A' hA=>Walks.strAscii hA _ z t) (by decide) (fun A i s Q E st h=>wpAny_pyIter_striter_ascii st h),⟨_,Heap.get?_push_size _ rfl,rfl,rfl⟩,fp,q⟩
end
theorem EE:∀(bs:List Bool),(List.range bs.length).all (fun i=>bs.getD i true)=bs.all id
 | []=>rfl
 | b::bs=>by
  have ih:=EE bs
  rw[List.length_cons,List.range_succ_eq_map,List.all_cons,List.all_map,List.all_cons]
  simp only[List.getD_cons_zero,id]
  rw[← ih]
  rfl
theorem A2.bools:∀{bs:List Bool} {us:List Value} {i:Nat} {v:Value},A2 (bs.map V.bl) us→us[i]?=some v→v=.bool (bs.getD i true)
 | [],_,_,_,.nil,e=>by simp at e
 | b::bs,_,0,_,.cons r _,e=>by
  have e':=Option.some.inj e
  subst e'
  exact r
 | b::bs,_,i+1,v,.cons _ t,e=>by
  have:=A2.bools (i:=i) (v:=v) t (by simpa using e)
  simpa using this
section
variable {X:Cx}
theorem B0 (hc:X.calm=true):CC X (.builtin "all") (fun xs H Q=>∃(p:Addr) (bs:List Bool),xs=[.ref p]∧A3 X.K H p (bs.map V.bl)∧Q (.bl (bs.all id)) H):=by
 intro pins s σ H xs us Q I r h
 obtain⟨p,bs,rfl,hq,q⟩:=h
 obtain⟨u,rfl,rx⟩:=FE r
 cases rx
 obtain⟨its,rv,pl,hz⟩:=I.list hq
 have hl:=rv.length
 rw[List.length_map]at hl
 have hlt:p<s.heap.objs.size:=by obtain⟨o,e,_⟩:=pl.isList;exact Heap.lt_size e
 have hne:p≠s.heap.objs.size:=Nat.ne_of_lt hlt
 refine call_all_walk (wpAny_pyIter_list pl.isList ⟨s.heap.objs.size,[s.heap.objs.size,p],[s.heap.objs.size],its.toArray.size,_,_,fun i=>bs.getD i true,rfl,
  Walks.list (A:=X.A.in1) (show X.A.in1.handled=none from I.ok.hd hc) s.heap.objs.size p hne its.toArray,⟨⟨_,Heap.get?_push_size _ rfl,rfl,rfl⟩,pl.isList.at fun o e=>Heap.get?_push_of_some _ e⟩,?_,fun h' tk kk=>?_⟩)
 ·intro i v s' Q' E' hP hQ
  have e:=A2.bools rv (show its[i]?=some v by simpa using hP)
  subst e
  exact wpAny_truthy_bool hQ
 ·have hsz:its.toArray.size=bs.length:=by rw[List.size_toArray,← hl]
  rw[hsz,EE]
  exact⟨.bl _,H,I.kept fun b o e=>kk b o (by simp;exact Nat.ne_of_lt (Heap.lt_size e)) (Heap.get?_push_of_some _ e),rfl,q⟩
theorem B1:bootBuiltins "all"=some (.builtin "all"):=by nofun
def PJ (X:Cx)(es:List Expr)(t:Str→TE):Prop:=
 ∀(acc:Str) (pins:List (Addr×Obj)) (s:Shared) (σ:St) (H:Hp) (Q:VK),Ah X pins σ H s→t acc σ H Q→wpAny (model X.prog X.w) X.A (joinParts acc (evalEach es X.env)) (EP X pins σ Q) X.xe s
theorem M6 {scope:Scope}{cl:List (Str×Addr)}{C:Addr}{N:List Str}{s₀:Shared}{H₀:Hp}{ex:List Addr}{pn:List (Addr×Obj)}:Py (BG X scope cl C N s₀ H₀ ex pn) (RO X.K):=A5
theorem GO {scope:Scope}{cl:List (Str×Addr)}{C:Addr}{N:List Str}{s₀:Shared}{H₀:Hp}{ex:List Addr}{pn:List (Addr×Obj)}:Py (BG X scope cl C N s₀ H₀ ex pn) (RP X.K):=AY
def T1 (K:PySem.W.Frag):R2:=fun x y H Q=>∃ a b xs ys,x=.ref a∧y=.ref b∧A3 K H a xs∧A3 K H b ys∧xs.all BP=true∧ys.all BP=true∧Q (.bl (!Gm xs ys)) H
theorem P9 (hu:X.A.units<cLine):EX X (compareOp .NotEq) (T1 X.K):=by
 intro pins s σ H x y v u Q I rx ry h
 obtain⟨a,b,xs,ys,rfl,rfl,ha,hb,f1,f2,q⟩:=h
 cases rx
 cases ry
 obtain⟨its,r1,p1,_⟩:=I.list ha
 obtain⟨its2,r2,p2,_⟩:=I.list hb
 have l1:=r1.length
 have l2:=r2.length
 have hv:=Ep xs ys
 by_cases hs:xs.length=ys.length
 ·have hsz:its.toArray.size=its2.toArray.size:=by rw[List.size_toArray,List.size_toArray];omega
  refine SeqAt.RcNeAt.lists (e:=EC xs ys) p1.isList p2.isList hsz hu (Ja (pins:=pins) (σ:=σ) (H:=H) r1 r2 f1 f2) X.prog X.w X.xe _ ⟨.bl _,H,I,rfl,?_⟩
  have e:min xs.length ys.length=xs.length:=by omega
  have e2:(xs.length==ys.length)=true:=by simp[hs]
  rw[e,e2,Bool.and_true]at hv
  rw[List.size_toArray,← l1,hv]
  exact q
 ·have hne:(its.toArray.size != its2.toArray.size)=true:=by
   rw[List.size_toArray,List.size_toArray]
   simp;omega
  refine SeqAt.RcNeAt.lists_lengths p1.isList p2.isList hne hu X.prog X.w X.xe _ ⟨.bl true,H,I,rfl,?_⟩
  have e2:(xs.length==ys.length)=false:=by simp[hs]
  rw[e2,Bool.and_false]at hv
  rw[← hv]at q
  exact q
end
section
variable {X:Cx}{pins:List (Addr×Obj)}{σ:St}{H:Hp}{s:Shared}
theorem BW {α β:Type}{F:α→β→Prop}:∀{xs:List α} {ys:List β},Paired F xs ys→∀{j:Nat} {x:α},xs[j]?=some x→∃ y,ys[j]?=some y∧F x y:=by
 intro A B h
 induction h with
 | nil=>
  intro j x e
  simp at e
 | cons r t ih=>
  intro j x e
  cases j with
  | zero=>
   simp at e
   subst e
   exact⟨_,rfl,r⟩
  | succ j=>
   obtain⟨y,h1,h2⟩:=ih (by simpa using e)
   exact⟨y,by simpa using h1,h2⟩
end
theorem Jc {X:Cx}{elt iter:Expr}{ifs:List Expr}{x:Str}{px pos:Pos}{scope:Scope}{cl:List (Str×Addr)}{fv:List Str}{js:List Nat}{wi:TI}{tt:TT}{te:TE}(hc:X.calm=true)(hclos:closureFor scope X.env=pure cl)
 (S:Bu X scope cl x fv js) (hi:PI X (.Name x px) iter wi)
 (ht:∀(C:Addr) (s₀:Shared) (H₀:Hp) (ex:List Addr) (pn:List (Addr×Obj)),PF (BG X scope cl C (x::fv) s₀ H₀ ex pn) ifs tt)
 (he:∀(C:Addr) (s₀:Shared) (H₀:Hp) (ex:List Addr) (pn:List (Addr×Obj)),PE (BG X scope cl C (x::fv) s₀ H₀ ex pn) elt te)
 (hs:∀ x,foldedSetIterable iter X.env x=pure x) {use:Option (Value→Sem Unit)} {QQ:Value→Shared→Prop} {pins:List (Addr×Obj)} {s:Shared} {σ:St} {H:Hp} {Q:VK} (I:Ah X pins σ H s) (h:M3 wi js tt te σ H Q)
 (hfin:∀(D:Addr) (s3:Shared) (H3:Hp) (fp:List Addr) (pn:List (Addr×Obj)) (N:List Str) (pins':List (Addr×Obj)) (σ':St) (H':Hp) (s':Shared),Ah X pins σ H3 s3→(∀ b∈fp,Cz X pins H3 b)→
  Ah (BG X scope cl s3.heap.objs.size N s3 H3 fp pn) pins' σ' H' s'→Q (.ref D) H'→compPost (model X.prog X.w) X.A X.xe use QQ (.ref D) s3.heap.objs.size (.ok .next) s'):
 wpAny (model X.prog X.w) X.A (comprehension (.ListComp elt [⟨.Name x px,iter,ifs,0⟩] scope pos) scope X.env (firstIterPos [⟨.Name x px,iter,ifs,0⟩] pos) (newList []) (firstAsync [⟨.Name x px,iter,ifs,0⟩]) (firstIter [⟨.Name x px,iter,ifs,0⟩] X.env) use) QQ X.xe s:=by
 refine wpAny_comprehension_free (use:=use) rfl hs hclos S.kind S.nm (BZ (hi pins s σ H _ I h) fun v s1 h1=>BZ h1 fun itv s2 h2=>?_)
 obtain⟨it,fp,tn,J,H2,e,I2,T,st2,f2,hW⟩:=h2
 subst e
 have hD:H2 s2.heap.objs.size=none:=I2.hok.fresh (Nat.le_refl _)
 obtain⟨W,⟨m0,w0⟩,turn⟩:=hW s2.heap.objs.size hD
 have lt2:∀ b∈fp,b<s2.heap.objs.size:=fun b hb=>by
  obtain⟨o,e,_⟩:=T.obj _ _ st2 b hb
  exact Heap.lt_size e
 refine wpAny_newObj_type (wpAny_newFunctionEnv S.nc (by intro y hy;simp at hy) (fun h₁ hns₁ hsb₁=>?_) S.kind)
 dsimp only at hns₁ hsb₁ ⊢
 have I3:Ah X pins σ (upd H2 s2.heap.objs.size (.lst [])) { s2 with heap:=s2.heap.push { cls:=.type "list",dict:=none,data:=.seq ([]:List Value).toArray } }:=I2.lnew (t':=s2.toks) .nil (Nat.zero_le _)
 generalize hS3:({ s2 with heap:=s2.heap.push { cls:=.type "list",dict:=none,data:=.seq ([]:List Value).toArray } }:Shared)=s3 at I3
 have eh:s3.heap=s2.heap.push { cls:=.type "list",dict:=none,data:=.seq ([]:List Value).toArray }:=by rw[← hS3]
 rw[← eh]at hns₁ hsb₁ ⊢
 have hsz:s3.heap.objs.size=s2.heap.objs.size+1:=by rw[eh,Heap.size_push]
 have k23:∀ b o,s2.heap.get? b=some o→s3.heap.get? b=some o:=fun b o e=>by rw[eh];exact Heap.get?_push_of_some _ e
 have k34:∀ b o,s3.heap.get? b=some o→h₁.get? b=some o:=fun b o e=>hsb₁.extBut b o (Nat.ne_of_lt (Heap.lt_size e)) (Heap.get?_push_of_some _ e)
 have f3:∀ b∈fp,Cz X pins (upd H2 s2.heap.objs.size (.lst [])) b:=fun b hb=>⟨by rw[AT (Nat.ne_of_lt (lt2 b hb))];exact(f2 b hb).1,(f2 b hb).2⟩
 have lt3:∀ b∈fp,b<s3.heap.objs.size:=fun b hb=>by rw[hsz];exact Nat.lt_succ_of_lt (lt2 b hb)
 have I4:=Kf (tk:=s3.toks) S I3 f3 lt3 (h₁:=h₁) (by simpa using hns₁) k34
 generalize hY:BG X scope cl s3.heap.objs.size (x::fv) s3 (upd H2 s2.heap.objs.size (.lst [])) fp (X.pn++pins)=Y at I4
 have hYp:Y.prog=X.prog:=by rw[← hY];rfl
 have hYw:Y.w=X.w:=by rw[← hY];rfl
 have hYK:Y.K=X.K:=by rw[← hY];rfl
 have hYA:Y.A=X.A:=by rw[← hY];rfl
 have hYc:Y.calm=true:=by rw[← hY];exact hc
 have hYe:Y.env=compEnvC scope cl s3.heap.objs.size X.env:=by rw[← hY];rfl
 have hYx:Y.xe=fun _ _=>False:=by rw[← hY];rfl
 have hYN:Y.N=x::fv:=by rw[← hY];rfl
 have heY:PE Y elt te:=by rw[← hY];exact he _ _ _ _ _
 have htY:PF Y ifs tt:=by rw[← hY];exact ht _ _ _ _ _
 have stat:∀{H':Hp},(∀ b∈fp,H' b=none)→∀ b∈fp,Cz Y [] H' b:=fun {H'} hn b hb=>by
  obtain⟨g0,g1,g2,g3,g4,g5⟩:=f3 b hb
  rw[← hY]
  refine⟨hn b hb,Nat.ne_of_lt (lt3 b hb),fun z=>?_,.inl hb,fun y c e=>g4 y c (S.cell_of e),fun p hp=>g5 p (by simpa [BG]using hp)⟩
  rcases List.mem_cons.mp (I3.stkSub b z)with q | q
  ·exact g1 q
  ·exact g2 q
 have fin:∀{i:Nat} {m:Nat} {σ':St} {H':Hp} {s':Shared},Ah Y [] σ' H' s'→Q (.ref s2.heap.objs.size) H'→compPost (model X.prog X.w) X.A X.xe use QQ (.ref s2.heap.objs.size) s3.heap.objs.size (.ok .next) s':=fun {i m σ' H' s'} J q=>by
  rw[← hY]at J
  exact hfin _ _ _ _ _ _ _ _ _ _ I3 f3 J q
 have st4:∀ s4:Shared,s4={ s3 with heap:=h₁,toks:=s3.toks }→tn 0 s4.heap:=fun s4 e=>by
  subst e
  exact T.keep _ _ _ st2 fun b hb o e=>k34 b o (k23 b o e)
 have loop:codeAny (model X.prog X.w) X.A (.compLoop (.ListComp elt [⟨.Name x px,iter,ifs,0⟩] scope pos) 0 (.ref it) (.ref s2.heap.objs.size) (compEnvC scope cl s3.heap.objs.size X.env))
  (compPost (model X.prog X.w) X.A X.xe use QQ (.ref s2.heap.objs.size) s3.heap.objs.size) { s3 with heap:=h₁,toks:=s3.toks }:=by
  refine Fy (fun n s'=>∃(i:Nat) (o:Option V) (H':Hp),Ah Y [] (o::Ff js σ) H' s'∧tn i s'.heap∧(∀ b∈fp,H' b=none)∧W i n H') ?_ m0 ⟨0,none,_,I4,st4 _ rfl,fun b hb=>(f3 b hb).1,w0⟩
  rintro n s5 ⟨i,o,H5,I5,st5,fr5,w5⟩
  rcases turn i n H5 w5 with⟨stop,q⟩ | ⟨go,step⟩
  ·have r:=T.done Y hYp hYw hYK hYc i [] s5 _ H5 (fun _ _=>False) I5 (stat fr5) st5 stop
   rw[hYA]at r
   refine BZ r fun r s6 zq=>?_
   obtain⟨hr,I6⟩:=zq
   subst hr
   exact fin (i:=i) (m:=n) I6 q
  ·have r:=T.item Y hYp hYw hYK hYc i [] s5 _ H5 (fun _ _=>False) I5 (stat fr5) st5 go
   rw[hYA]at r
   refine BZ r fun r s6 zq=>?_
   obtain⟨u,hr,h6⟩:=zq
   subst hr
   refine BZ h6 fun _ s7 zq=>?_
   obtain⟨y,H7,I7,r7,y7,st7,fr7⟩:=zq
   have I7':=I7.pinned (stat fr7) (T.obj _ _ st7)
   have hname:PG Y (.Name x px) (DU 0):=Be (X:=Y) (i:=0) (by rw[hYN];exact S.nd) (by rw[hYN];rfl) (.inl (by rw[hYe];exact lookup_relabel_local S.hx)) (.inr (by rw[hYe];exact lookup_relabel_local S.hx))
   have r8:=hname _ s7 _ H7 y u (fun σ' H'=>σ'=some y::Ff js σ∧H'=H7) I7' r7 ⟨rfl,rfl⟩
   rw[hYp,hYw,hYA,hYe,hYx]at r8
   refine BZ r8 fun _ s8 zq=>?_
   obtain⟨σ8,H8,I8,e1,e2⟩:=zq
   subst e1 e2
   have r9:=htY _ s8 _ _ _ I8 (step y _ y7)
   rw[hYp,hYw,hYA,hYe,hYx]at r9
   refine BZ r9 fun b s9 zq=>?_
   obtain⟨H9,I9,q9⟩:=zq
   have again:∀{σ':St} {H':Hp} {s':Shared},Ah Y ([]++Fh fp s7.heap) (some y::Ff js σ) H' s'→(∃ m',m'<n∧W (i+1) m' H')→
    ∃ m,m<n∧∃(i:Nat) (o:Option V) (H':Hp),Ah Y [] (o::Ff js σ) H' s'∧tn i s'.heap∧(∀ b∈fp,H' b=none)∧W i m H':=fun {σ' H' s'} K7 ⟨m',hm,w7⟩=>by
    refine⟨m',hm,i+1,some y,H',K7.unpinned,T.keep _ _ _ st7 fun b hb o e=>(K7.pin (b,o) (List.mem_append_right _ (List.mem_append_right _ (CQ hb e)))).1,fun b hb=>?_,w7⟩
    obtain⟨o,e,d⟩:=T.obj _ _ st7 b hb
    exact(K7.pin (b,o) (List.mem_append_right _ (List.mem_append_right _ (CQ hb e)))).2.1
   cases b with
   | false=>
    rw[if_neg Bool.false_ne_true]at q9 ⊢
    exact again (σ':=[]) I9 q9
   | true=>
    rw[if_pos rfl]at q9 ⊢
    have r10:=heY _ s9 _ _ _ I9 q9
    rw[hYp,hYw,hYA,hYe,hYx]at r10
    refine BZ r10 fun v s10 zq=>?_
    obtain⟨y10,H10,I10,ry,xs,hxs,hlen,m',hm,w10⟩:=zq
    have r11:=Ch (X:=Y) _ s10 _ H10 (.ref s2.heap.objs.size) [y10] (.ref s2.heap.objs.size) [v] (fun _ H'=>H'=upd H10 s2.heap.objs.size (.lst (xs++[y10]))) I10 rfl (.cons ry .nil) ⟨_,xs,y10,rfl,rfl,hxs,hlen,rfl⟩
    rw[hYp,hYw,hYA,hYx]at r11
    refine BZ r11 fun _ s11 zq=>?_
    obtain⟨_,H11,I11,_,e11⟩:=zq
    subst e11
    exact again (σ':=[]) I11 ⟨m',hm,w10⟩
 have loop':∀ s4:Shared,s4={ s3 with heap:=h₁,toks:=s3.toks }→codeAny (model X.prog X.w) X.A (.compLoop (.ListComp elt [⟨.Name x px,iter,ifs,0⟩] scope pos) 0 (.ref it) (.ref s2.heap.objs.size) (compEnvC scope cl s3.heap.objs.size X.env))
  (compPost (model X.prog X.w) X.A X.xe use QQ (.ref s2.heap.objs.size) s3.heap.objs.size) s4:=fun s4 e=>by subst e;exact loop
 have e4:∀ t,t=s3.toks→({ s3 with heap:=h₁,toks:=t }:Shared)={ s3 with heap:=h₁,toks:=s3.toks }:=fun t e=>by rw[e]
 have fin4:∀ s4:Shared,s4={ s3 with heap:=h₁,toks:=s3.toks }→codeAny (model X.prog X.w) X.A (.compStart (.ListComp elt [⟨.Name x px,iter,ifs,0⟩] scope pos) 0 (.ref it) (.ref s2.heap.objs.size) (compEnvC scope cl s3.heap.objs.size X.env))
  (compPost (model X.prog X.w) X.A X.xe use QQ (.ref s2.heap.objs.size) s3.heap.objs.size) s4:=fun s4 e=>
  codeAny_compStart_list (loop' s4 e) (T.self X.A 0 s4 _ _ (st4 s4 e) (loop' s4 e))
 have es:({ s2 with heap:=s2.heap.push { cls:=.type "list",dict:=none,data:=.seq ([]:List Value).toArray } }:Shared)=s3:=hS3
 refine fin4 _ ?_
 rw[← es]
 rfl
theorem FI {X:Cx}{i:Nat}{y:Str}{elt iter:Expr}{ifs:List Expr}{x:Str}{px pos py spos:Pos}{scope:Scope}{cl:List (Str×Addr)}{fv:List Str}{js:List Nat}{wi:TI}{tt:TT}{te:TE}(hN:X.N.Nodup)(hi0:X.N[i]?=some y)(hy:X.env.scope.names.lookup y=some .local)
 (hc:X.calm=true) (hclos:closureFor scope X.env=pure cl)
 (S:Bu X scope cl x fv js) (hi:PI X (.Name x px) iter wi)
 (ht:∀(C:Addr) (s₀:Shared) (H₀:Hp) (ex:List Addr) (pn:List (Addr×Obj)),PF (BG X scope cl C (x::fv) s₀ H₀ ex pn) ifs tt)
 (he:∀(C:Addr) (s₀:Shared) (H₀:Hp) (ex:List Addr) (pn:List (Addr×Obj)),PE (BG X scope cl C (x::fv) s₀ H₀ ex pn) elt te)
 (hs:∀ x,foldedSetIterable iter X.env x=pure x:=by intro _;rfl)
 (hsw:swapsWith (.ListComp elt [⟨.Name x px,iter,ifs,0⟩] scope pos) (some (.Name y py)) spos.line X.env=pure true:=by rfl):
 PS X (.Assign [.Name y py] (.ListComp elt [⟨.Name x px,iter,ifs,0⟩] scope pos) spos) (Pp (M3 wi js tt te) (DU i)):=by
 intro pins s σ H D I h
 rw[exec_Assign_Name_used _ _ _ _ hsw]
 refine wpAny_bind (wpAny_standAt (wpAny_bind ?_))
 rw[arm_evalThenUse_ListComp]
 refine wpAny_bind (Jc (Q:=fun v H1=>D.nx (σ.set i (some v)) H1) hc hclos S hi ht he hs I h ?_)
 intro L s3 H3 fp pn N pins' σ' H' s' I3 f3 J q
 obtain⟨mm,hn,_⟩:=id J.loc
 have sb0:Heap.SameBut s3.heap.objs.size s'.heap s'.heap:=⟨rfl,fun _ _=>rfl⟩
 have I':Ah X pins σ H' s':=Go I3 f3 J sb0
 have ok:=I3.fpOk (H':=H') (Nat.le_refl _) (show H' s3.heap.objs.size=none from J.free)
 obtain⟨f0,f1,f2,f4,f5,f6⟩:=ok
 refine wpAny_assign_Name (IC I' hN hi0 (.inl hy) (v:=.ref L) rfl (fun s2 I2 zq=>?_) (.inr hy))
 obtain⟨a,hsb,ha⟩:=zq
 have nac:s3.heap.objs.size≠a:=fun z=>by
  rcases ha with ha | ha
  ·exact f1 (z.trans ha)
  ·exact f5 _ _ ha z.symm
 refine⟨mm,hn.sameBut hsb nac,fun h'' sb=>?_⟩
 have I4:Ah X pins (σ.set i (some (.ref L))) H' { s2 with heap:=h'' }:=I2.turned (t':=s2.toks) (fun b o hb e=>(sb.2 b hb).trans e) f0 f1 f4 f5 f6
 exact wpAny_pure (wpAny_pure ⟨_,H',I4,q⟩)
section
variable {κ:Type}[DecidableEq κ]
def DK (kvs:List (κ×V))(k:κ):Option V:=(kvs.find? fun kv=>decide (kv.1=k)).map (·.2)
def FJ (kvs:List (κ×V))(k:κ)(v:V):List (κ×V):=
 if(kvs.any fun kv=>decide (kv.1=k))=true then kvs.map (fun kv=>if kv.1=k then(kv.1,v)else kv)else kvs++[(k,v)]
theorem DV {p:κ×V}{r:List (κ×V)}{k:κ}(e:p.1=k):DK (p::r) k=some p.2:=by simp[DK,List.find?_cons,e]
theorem Cj {p:κ×V}{r:List (κ×V)}{k:κ}(e:¬ p.1=k):DK (p::r) k=DK r k:=by simp[DK,List.find?_cons,e]
theorem Gq (k:κ):∀ kvs:List (κ×V),(kvs.any fun kv=>decide (kv.1=k))=(DK kvs k).isSome
 | []=>rfl
 | p::r=>by
  rw[List.any_cons]
  by_cases e:p.1=k
  ·simp only[DV e,decide_eq_true e,Bool.true_or,Option.isSome_some]
  ·rw[Cj e,decide_eq_false e,Bool.false_or];exact Gq k r
theorem Fz (kvs:List (κ×V))(k:κ)(v:V):(FJ kvs k v).length≤kvs.length+1:=by
 unfold FJ
 split
 ·rw[List.length_map];omega
 ·rw[List.length_append,List.length_cons,List.length_nil];omega
theorem Fg.isSome_eq {o:Option V}{u:Option Value}(r:Fg o u):o.isSome=u.isSome:=by
 cases o with
 | none=>cases u with
  | none=>rfl
  | some _=>exact(show False from r).elim
 | some _=>cases u with
  | none=>exact(show False from r).elim
  | some _=>rfl
theorem Fg.getD {o:Option V}{u:Option Value}{d:V}{d':Value}(r:Fg o u)(rd:Am d d'):Am (o.getD d) (u.getD d'):=by
 cases o with
 | none=>cases u with
  | none=>exact rd
  | some _=>exact(show False from r).elim
 | some _=>cases u with
  | none=>exact(show False from r).elim
  | some _=>exact r
theorem KV.val {kvs:List (κ×V)}{vs:List (κ×Value)}(r:KV kvs vs)(k:κ):Fg (DK kvs k) (valueAt vs k):=by
 unfold KV at r
 induction r with
 | nil=>exact True.intro
 | @cons p q ps qs h t ih=>
  obtain⟨h1,h2⟩:=h
  by_cases e:p.1=k
  ·have e':q.1=k:=h1.symm.trans e
   have b:valueAt (q::qs) k=some q.2:=by simp[valueAt,List.find?_cons,e']
   rw[DV e,b];exact h2
  ·have e':¬ q.1=k:=fun z=>e (h1.trans z)
   have b:valueAt (q::qs) k=valueAt qs k:=by simp[valueAt,List.find?_cons,e']
   rw[Cj e,b];exact ih
theorem KV.any {kvs:List (κ×V)}{vs:List (κ×Value)}(r:KV kvs vs)(k:κ):(kvs.any fun kv=>decide (kv.1=k))=vs.any fun kv=>decide (kv.1=k):=by
 unfold KV at r
 induction r with
 | nil=>rfl
 | cons h t ih=>rw[List.any_cons,List.any_cons,ih,h.1]
theorem KV.repl {kvs:List (κ×V)}{vs:List (κ×Value)}(r:KV kvs vs)(k:κ){y:V}{u:Value}(ry:Am y u):
 KV (kvs.map fun kv=>if kv.1=k then(kv.1,y)else kv) (vs.map fun kv=>if kv.1=k then(kv.1,u)else kv):=by
 unfold KV at r ⊢
 induction r with
 | nil=>exact .nil
 | @cons p q ps qs h t ih=>
  rw[List.map_cons,List.map_cons]
  refine .cons ?_ ih
  obtain⟨h1,h2⟩:=h
  by_cases e:p.1=k
  ·rw[if_pos e,if_pos (h1.symm.trans e)];exact⟨h1,ry⟩
  ·rw[if_neg e,if_neg (fun z=>e (h1.trans z))];exact⟨h1,h2⟩
theorem KV.put {kvs:List (κ×V)}{vs:List (κ×Value)}(r:KV kvs vs)(k:κ){y:V}{u:Value}(ry:Am y u):KV (FJ kvs k y) (stored vs k u):=by
 unfold FJ stored
 rw[r.any k]
 by_cases e:(vs.any fun kv=>decide (kv.1=k))=true
 ·rw[if_pos e,if_pos e];exact r.repl k ry
 ·rw[if_neg e,if_neg e];exact Paired.snoc r ⟨rfl,ry⟩
theorem KV.length {kvs:List (κ×V)}{vs:List (κ×Value)}(r:KV kvs vs):kvs.length=vs.length:=Paired.length r
end
theorem Jd {P:Program}{w:World}{k:BF}{u:Value}(r:Am (kV k) u):(BR P w).is k u=true:=by
 cases k with
 | inl i=>obtain⟨t,e⟩:=(show ∃ t,u=Value.int i t from r);subst e;exact JP P w i t
 | inr x=>obtain⟨t,e⟩:=(show ∃ t,u=Value.str x t from r);subst e;exact JQ P w x t
theorem IO {P:Program}{w:World}:∀{ks:List BF} {us:List Value},A2 (ks.map kV) us→ItemsAre (BR P w) ks us
 | [],_,r=>by rw[List.map_nil]at r;cases r;exact .nil
 | k::ks,_,r=>by
  rw[List.map_cons]at r
  cases r with
  | cons h t=>exact .cons (Jd h) (IO t)
abbrev KT (H:Hp):List (List BF×V)→List (List BF×Addr×Value)→Prop:=Paired fun p q=>p.1=q.1∧H q.2.1=some (.tup (p.1.map kV))∧Am p.2 q.2.2
theorem KT.val {H:Hp}{kvs:List (List BF×V)}{xs:List (List BF×Addr×Value)}(r:KT H kvs xs)(k:List BF):Fg (DK kvs k) ((atKey xs k).map (·.2)):=by
 induction r with
 | nil=>exact True.intro
 | @cons p q ps qs h t ih=>
  obtain⟨h1,_,h2⟩:=h
  by_cases e:p.1=k
  ·have e':q.1=k:=h1.symm.trans e
   have b:atKey (q::qs) k=some q.2:=by simp[atKey,List.find?_cons,e']
   rw[DV e,b];exact h2
  ·have e':¬ q.1=k:=fun z=>e (h1.trans z)
   have b:atKey (q::qs) k=atKey qs k:=by simp[atKey,List.find?_cons,e']
   rw[Cj e,b];exact ih
theorem KT.repl {H:Hp}{kvs:List (List BF×V)}{xs:List (List BF×Addr×Value)}(r:KT H kvs xs)(k:List BF){y:V}{u:Value}(ry:Am y u):
 KT H (kvs.map fun kv=>if kv.1=k then(kv.1,y)else kv) (xs.map (putAt k u)):=by
 induction r with
 | nil=>exact .nil
 | @cons p q ps qs h t ih=>
  rw[List.map_cons,List.map_cons]
  refine .cons ?_ ih
  obtain⟨h1,h2,h3⟩:=h
  unfold putAt
  by_cases e:p.1=k
  ·rw[if_pos e,if_pos (h1.symm.trans e)];exact⟨h1,h2,ry⟩
  ·rw[if_neg e,if_neg (fun z=>e (h1.trans z))];exact⟨h1,h2,h3⟩
theorem KT.put {H:Hp}{kvs:List (List BF×V)}{xs:List (List BF×Addr×Value)}(r:KT H kvs xs)(k:List BF){b:Addr}{y:V}{u:Value}(hb:H b=some (.tup (k.map kV)))(ry:Am y u):
 KT H (FJ kvs k y) (storedH xs k b u):=by
 have e:(kvs.any fun kv=>decide (kv.1=k))=(atKey xs k).isSome:=by
  rw[Gq,(r.val k).isSome_eq,Option.isSome_map]
 unfold FJ storedH
 rw[e]
 by_cases q:(atKey xs k).isSome=true
 ·rw[if_pos q,if_pos q];exact r.repl k ry
 ·rw[if_neg q,if_neg q];exact Paired.snoc r ⟨rfl,hb,ry⟩
theorem KT.keeps {H H':Hp}{kvs:List (List BF×V)}{xs:List (List BF×Addr×Value)}(r:KT H kvs xs)(ht:∀ b ys,H b=some (.tup ys)→H' b=some (.tup ys)):KT H' kvs xs:=
 Paired.mapP r fun _ _ z=>⟨z.1,ht _ _ z.2.1,z.2.2⟩
section
variable {P:Program}{w:World}{H:Hp}{h:Heap}{a:Addr}
theorem M7 {u:HO}(ok:Ej P w H h)(e:Rd H a u):BI P w H h a u:=e.ok ok
theorem LT {kvs:List (BF×V)}(ok:Ej P w H h)(e:Rd H a (.dK kvs)):kvs.length≤sizeLine∧(a==sysModules)=false∧∃ vs,KV kvs vs∧h.DictOf (BR P w) a vs:=
 show BI P w H h a (.dK kvs)from M7 ok e
theorem RU {kvs:List (BF×V)}(ok:Ej P w H h)(e:H a=some (.dK kvs)):kvs.length≤sizeLine∧(a==sysModules)=false∧∃ vs,KV kvs vs∧h.DictOf (BR P w) a vs:=LT ok (.inl e)
theorem Fl {ks:List BF}(ok:Ej P w H h)(e:H a=some (.tup (ks.map kV))):(tupleKind (BR P w)).is h ks a:=by
 obtain⟨_,its,r,o,h1,h2,n,h3⟩:=(show BI P w H h a (.tup (ks.map kV))from ok a _ e)
 exact⟨o,its.toArray,n,h1,h2,h3,by simpa using IO r⟩
theorem LU {kvs:List (List BF×V)}(ok:Ej P w H h)(e:Rd H a (.dT kvs)):kvs.length≤sizeLine∧(a==sysModules)=false∧
 ∃ xs,KT H kvs xs∧h.DictOfH (tupleKind (BR P w)) a xs:=by
 obtain⟨z,y,xs,r,o,es,ep,h1,h2,h3,h4,h5⟩:=(show BI P w H h a (.dT kvs)from M7 ok e)
 refine⟨z,y,xs,r,o,es,ep,h1,h2,h3,h4,fun x hx=>?_,h5⟩
 have all:∀{l:List (List BF×V)} {m:List (List BF×Addr×Value)},KT H l m→∀ x∈m,(tupleKind (BR P w)).is h x.1 x.2.1:=by
  intro l m q
  induction q with
  | nil=>intro x hx;exact nomatch hx
  | @cons p q ps qs hq t ih=>
   intro x hx
   rcases List.mem_cons.mp hx with e | hx
   ·subst e
    exact Fl ok (by rw[← hq.1];exact hq.2.1)
   ·exact ih x hx
 exact all r x hx
theorem RV {kvs:List (List BF×V)}(ok:Ej P w H h)(e:H a=some (.dT kvs)):kvs.length≤sizeLine∧(a==sysModules)=false∧
 ∃ xs,KT H kvs xs∧h.DictOfH (tupleKind (BR P w)) a xs:=LU ok (.inl e)
end
def M8 (H:Hp)(a:Addr)(y:V)(r:Option V):Prop:=
 (∃ kvs k,Rd H a (.dK kvs)∧y=kV k∧r=DK kvs k)∨∃ kvs k b,Rd H a (.dT kvs)∧y=.ref b∧H b=some (.tup (k.map kV))∧r=DK kvs k
def M9 (H:Hp)(a:Addr)(y v:V)(H':Hp):Prop:=
 (∃ kvs k,H a=some (.dK kvs)∧y=kV k∧kvs.length<sizeLine∧H'=upd H a (.dK (FJ kvs k v)))∨
 ∃ kvs k b,H a=some (.dT kvs)∧y=.ref b∧H b=some (.tup (k.map kV))∧kvs.length<sizeLine∧H'=upd H a (.dT (FJ kvs k v))
theorem M9.t {H:Hp}{a b:Addr}{kvs:List (List BF×V)}{k:List BF}{v:V}(e:H a=some (.dT kvs))(eb:H b=some (.tup (k.map kV)))(hl:kvs.length<sizeLine):
 M9 H a (.ref b) v (upd H a (.dT (FJ kvs k v))):=.inr ⟨kvs,k,b,e,rfl,eb,hl,rfl⟩
section
variable {X:Cx}{pins:List (Addr×Obj)}{σ:St}{H:Hp}{s:Shared}{a:Addr}{y v:V}{u r:Value}{o:Option V}{A:Around}{E:Value→Shared→Prop}
theorem Ah.big (I:Ah X pins σ H s):sysModules<s.heap.objs.size:=by
 have h:mainGlobals<s.heap.objs.size:=(I.mod.glob.keeps I.bk).lt
 exact Nat.lt_trans (by decide) h
theorem MD {Q:Value→Shared→Prop}(hu:A.units+1<cLine)(I:Ah X pins σ H s)(g:M8 H a y (some v))(ry:Am y u)(h:∀ w' s',Ah X pins σ H s'→Am v w'→Q w' s'):
 wpAny (model X.prog X.w) A (getItem (.ref a) u) Q E s:=by
 rcases g with⟨kvs,k,e,ey,l⟩ | ⟨kvs,k,b,e,ey,eb,l⟩
 ·subst ey
  obtain⟨z,hd,vs,rel,dd⟩:=LT I.hok e
  obtain⟨w',hw,rw'⟩:=Fg.some_of (v:=v) (o:=valueAt vs k) (by rw[l];exact rel.val k)
  exact wpAny_getItem_of (Jd ry) dd.mapOf hw (h w' _ (I.tok _) rw')
 ·subst ey
  cases (show u=Value.ref b from ry)
  obtain⟨z,hd,xs,rel,dd⟩:=LU I.hok e
  obtain⟨w',hw,rw'⟩:=Fg.some_of (v:=v) (o:=(atKey xs k).map (·.2)) (by rw[l];exact rel.val k)
  obtain⟨p,hp,hp2⟩:=Option.map_eq_some_iff.mp hw
  refine wpAny_getItem_heap (tupleKind_room_in1 hu) (Fl I.hok eb) dd hp ?_
  rw[hp2]
  exact h w' _ (I.tok _) rw'
theorem ON {Q:Value→Shared→Prop}(hu:A.units+1<cLine)(I:Ah X pins σ H s)(g:M8 H a y o)(ry:Am y u)(h:∀ s',Ah X pins σ H s'→Q (.bool (!o.isSome)) s'):
 wpAny (model X.prog X.w) A (compareOp .NotIn u (.ref a)) Q E s:=by
 rcases g with⟨kvs,k,e,ey,l⟩ | ⟨kvs,k,b,e,ey,eb,l⟩
 ·subst ey
  obtain⟨z,hd,vs,rel,dd⟩:=LT I.hok e
  refine wpAny_notIn_of (Jd ry) hd dd.mapOf ?_
  rw[← (rel.val k).isSome_eq,← l]
  exact h _ (I.tok _)
 ·subst ey
  cases (show u=Value.ref b from ry)
  obtain⟨z,hd,xs,rel,dd⟩:=LU I.hok e
  refine wpAny_notIn_heap (tupleKind_room_in1 hu) (Fl I.hok eb) hd dd ?_
  have q:=(rel.val k).isSome_eq
  rw[Option.isSome_map]at q
  rw[← q,← l]
  exact h _ (I.tok _)
theorem LV {h':Heap}{t':Nat}{ob:HO}(I:Ah X pins σ H s)(mu:Q6 (H a))(hs:Heap.SameBut a s.heap h')(he:∃ q,h'.get? a=some q)(new:BI X.prog X.w (upd H a ob) h' a ob):
 Ah X pins σ (upd H a ob) { s with heap:=h',toks:=t' }:=
 I.write (x:=a) (e:=a) mu (.inl rfl) (fun b q hb z=>(hs.2 b hb).trans z) he new
theorem QA {P:Program}{w:World}{H':Hp}{h':Heap}{kvs:List (BF×V)}{vs:List (BF×Value)}(z:kvs.length≤sizeLine)(hd:(a==sysModules)=false)(rel:KV kvs vs)(dd:h'.DictOf (BR P w) a vs):
 BI P w H' h' a (.dK kvs):=⟨z,hd,vs,rel,dd⟩
theorem ME {H':Hp}{Q:Unit→Shared→Prop}(hu:A.units+1<cLine)(I:Ah X pins σ H s)(g:M9 H a y v H')(ry:Am y u)(rv:Am v r)(h:∀ s',Ah X pins σ H' s'→Q () s'):
 wpAny (model X.prog X.w) A (setItem (.ref a) u r) Q E s:=by
 rcases g with⟨kvs,k,e,ey,l,eH⟩ | ⟨kvs,k,b,e,ey,eb,l,eH⟩
 ·subst ey eH
  obtain⟨z,hd,vs,rel,dd⟩:=RU I.hok e
  have hz:vs.length≤sizeLine:=by rw[← rel.length];exact z
  have hl:(FJ kvs k v).length≤sizeLine:=by have:=Fz kvs k v;omega
  refine wpAny_setItem_pairs (hsz:=hz) (Jd ry) dd fun h' dd' hs=>h _ ?_
  have he:∃ q,h'.get? a=some q:=let ⟨q,_,_,hq,_⟩:=dd';⟨q,hq⟩
  exact LV I (by rw[e];exact True.intro) hs he (QA hl hd (rel.put k rv) dd')
 ·subst ey eH
  cases (show u=Value.ref b from ry)
  obtain⟨z,hd,xs,rel,dd⟩:=RV I.hok e
  have hz:xs.length≤sizeLine:=by rw[← Paired.length rel];exact z
  have hl:(FJ kvs k v).length≤sizeLine:=by have:=Fz kvs k v;omega
  refine wpAny_setItem_heap (hsz:=hz) (tupleKind_room_in1 hu) (Fl I.hok eb) dd fun h' dd' hs=>h _ ?_
  obtain⟨q,es,ep,hq,h2,h3,h4,_,h5⟩:=dd'
  refine LV I (by rw[e];exact True.intro) hs ⟨q,hq⟩ ⟨hl,hd,_,(rel.put k eb rv).keeps fun c ys ec=>?_,q,es,ep,hq,h2,h3,h4,h5⟩
  rw[AT (DB ec e (fun z=>nomatch z))]
  exact ec
end
def RW (i:Expr):Prop:=∀ ov iv,subscripted i false ov iv=operate [ov,iv] (getItem ov iv)
theorem OO {prog:Program}{w:World}{A:Around}{E:Value→Shared→Prop}{s:Shared}{env:Env}{value slice:Expr}{pos:Pos}{T id:String}{Q:Value→Shared→Prop}
 (hl:typeLookup (.type T) "__getitem__"=pure (some (.builtin id))) (hs:RW slice)
 (h:wpAny (model prog w) A (eval value env) (fun o s₁=>wpAny (model prog w) A (eval slice env) (fun i s₂=>s₂.TypeIs o T∧wpAny (model prog w) A (getItem o i) Q E s₂) E s₁) E s):
 wpAny (model prog w) A (eval (.Subscript value slice pos) env) Q E s:=by
 refine Subscript_ (wpAny_mono h (fun o s₁ h₁=>wpAny_mono h₁ (fun i s₂ h₂=>?_) fun _ _ x=>x) fun _ _ x=>x)
 obtain⟨hT,h₂⟩:=h₂
 unfold subscriptTail
 refine wpAny_bind ?_
 rw[getitemInPython_of_ne hT.not_modules]
 refine wpAny_bind (wpAny_specialOf hT hl ?_)
 have fin:wpAny (model prog w) A (subscripted slice false o i) (fun r s₃=>wpAny (model prog w) A (letTemporaryGo value o r >>= fun _=>pure r) Q E s₃) E s₂:=by
  rw[hs o i]
  exact wpAny_operating (wpAny_mono h₂ (fun r s₃ h₃=>wpAny_bind (wpAny_letTemporaryGo (wpAny_pure h₃))) fun _ _ x=>x)
 first
  | exact wpAny_pure (wpAny_bind fin)
  | exact wpAny_bind (wpAny_pure (wpAny_bind fin))
  | exact wpAny_bind fin
theorem Je {X:Cx}{pins:List (Addr×Obj)}{σ:St}{H:Hp}{s:Shared}{a:Addr}{y:V}{o:Option V}(I:Ah X pins σ H s)(g:M8 H a y o):s.TypeIs (.ref a) "dict":=by
 rcases g with⟨kvs,k,e,_,_⟩ | ⟨kvs,k,b,e,_,_,_⟩
 ·obtain⟨_,_,vs,_,dd⟩:=LT I.hok e
  exact dd.typeIs
 ·obtain⟨_,_,xs,_,dd⟩:=LU I.hok e
  exact dd.typeIs
def RX (td ty:TE):TE:=fun σ H Q=>td σ H fun x H1=>ty σ H1 fun y H2=>∃ a v,x=.ref a∧M8 H2 a y (some v)∧Q v H2
def RY (td ty tv:TE):TS:=fun D σ H=>tv σ H fun v H1=>td σ H1 fun x H2=>ty σ H2 fun y H3=>∃ a H4,x=.ref a∧M9 H3 a y v H4∧D.nx σ H4
section
variable {X:Cx}{o i e value:Expr}{pos pos' tpos:Pos}{td ty tv:TE}
theorem LW (hu:X.A.units+1<cLine)(ho:PE X o td)(hi:PE X i ty)(hs:RW i):PE X (.Subscript o i pos) (RX td ty):=by
 intro pins s σ H Q I h
 refine OO PySem.F.slot_dict_getitem.lookup hs (BZ (ho pins s σ H _ I h) fun u s1 ⟨x,H1,I1,rx,q1⟩=>BZ (hi pins s1 σ H1 _ I1 q1) fun iv s2 zq=>?_)
 obtain⟨y,H2,I2,ry,a,v,ex,g,q2⟩:=zq
 subst ex
 obtain rfl:u=Value.ref a:=rx
 exact⟨Je I2 g,MD hu I2 g ry fun w' s3 I3 rw'=>⟨v,H2,I3,rw',q2⟩⟩
theorem OP (hu:X.A.units+1<cLine)(ho:PE X o td)(hi:PE X i ty)(hv:PE X value tv)(hs:swapsWith value (some (.Subscript o i pos')) pos.line X.env=pure false):
 PS X (.Assign [.Subscript o i pos'] value pos) (RY td ty tv):=by
 intro pins s σ H D I h
 refine wpAny_Assign_Subscript (BZ (hv pins s σ H _ I h) fun r s1 ⟨v,H1,I1,rv,q1⟩=>BZ (ho pins s1 σ H1 _ I1 q1) fun u s2 ⟨x,H2,I2,rx,q2⟩=>BZ (hi pins s2 σ H2 _ I2 q2) fun iv s3 zq=>?_) hs
 obtain⟨y,H3,I3,ry,a,H4,ex,g,q3⟩:=zq
 subst ex
 obtain rfl:u=Value.ref a:=rx
 exact ME hu I3 g ry rv fun s4 I4=>⟨σ,H4,I4,q3⟩
end
theorem NA {P:Program}{w:World}{H:Hp}(h:Heap)(hb:sysModules<h.objs.size):BI P w H (h.push { cls:=.type "dict",data:=.dict #[] }) h.objs.size (.dT []):=
 ⟨Nat.zero_le _,beq_eq_false_iff_ne.mpr (Ne.symm (Nat.ne_of_lt hb)),[],.nil,_,#[],0,Heap.get?_push_size _ rfl,⟨rfl,rfl,rfl⟩,rfl,rfl,List.nodup_nil⟩
def QB:TE:=fun _ H Q=>∀ p,H p=none→Q (.ref p) (upd H p (.dT []))
section
variable {X:Cx}{pos:Pos}
theorem NB:PE X (.Dict [] [] pos) QB:=fun pins s σ H Q I h=>
 wpAny_Dict_empty ⟨.ref s.heap.objs.size,_,I.laid (a:=s.heap.objs.size) (o:=.dT []) (t':=s.toks) (fun _ _ q=>Heap.get?_push_of_some _ q) (Nat.le_refl _) (NA s.heap I.big),rfl,h _ (I.hok.fresh (Nat.le_refl _))⟩
end
section
variable {P:Program}{w:World}{A:Around}{E:Value→Shared→Prop}{s:Shared}{d it:Addr}{o:Obj}{es:Array DictEntry}{ep i:Nat}
structure Jf (h:Heap)(d:Addr)(o:Obj)(es:Array DictEntry)(ep:Nat):Prop where
 at_:h.get? d=some o
 ex:o.ExactDict
 data:o.data=.dict es ep
theorem Jf.ty (x:Jf s.heap d o es ep):s.TypeIs (.ref d) "dict":=⟨o,x.at_,x.ex.1⟩
theorem Jg {Q:Value→Shared→Prop}(x:Jf s.heap d o es ep)(hd:(d==sysModules)=false)
 (hQ:Q (.ref s.heap.objs.size) { s with heap:=s.heap.push { cls:=.type "dict_keyiterator",data:=.fields #[.ref d,.int 0 0,.int es.size 0,.int ep 0] } }):
 wpAny (model P w) A (pyIter (.ref d)) Q E s:=by
 refine wpAny_pyIter_slot x.ty F.slot_dict_iter (wpAny_call_entry F.slot_dict_iter x.ty F.entry_dict_iter ?_ (F.args_dict_iter_1 _))
 unfold Builtin.«dict.__iter__» Builtin.Dict.dictSlotNone
 refine wpAny_bind (wpAny_bind (wpAny_notOrdered_dict x.ty (wpAny_pure (a:=Value.ref d) ?_)))
 show wpAny _ _ (Builtin.Dict.showsAll d >>= _) _ _ s
 unfold Builtin.Dict.showsAll
 rw[if_neg (by rw[hd];exact Bool.false_ne_true)]
 refine wpAny_bind (wpAny_pure (wpAny_bind (wpAny_dictEntries x.at_ x.data (wpAny_bind (wpAny_dictEpoch x.at_ x.data ?_)))))
 refine wpAny_bind (wpAny_newObj_type (wpAny_pure ⟨_,rfl,"dict_keyiterator",_,⟨_,Heap.get?_push_size _ rfl,rfl⟩,F.slot_dict_keyiterator_next.lookup,?_⟩))
 simpa [rawInt]using hQ
theorem Jh {Q:Option Value→Shared→Prop}{e:DictEntry}(hit:s.heap.IsKeyIter it d i es.size ep)(x:Jf s.heap d o es ep)(he:es[i]?=some e)
 (hQ:∀ h',h'.IsKeyIter it d (i+1) es.size ep→Heap.SameBut it s.heap h'→Q (some e.key) { s with heap:=h' }):
 wpAny (model P w) A (pyNext (.ref it)) Q E s:=by
 obtain⟨oi,ho,hc,hd⟩:=id hit
 unfold pyNext
 refine wpAny_bind (wpAny_attempt (wpAny_callSpecial?_slot (name:=Str.ofString "__next__") hit.typeIs F.slot_dict_keyiterator_next
  (wpAny_call_entry F.slot_dict_keyiterator_next hit.typeIs F.entry_dict_keyiterator_next (wpAny_bind (wpAny_pure (wpAny_bind (wpAny_bind ?_)))) (F.args_dict_keyiterator_next_1 _))))
 first | refine wpAny_bind (wpAny_typeNameOfWhole_keyiter hit.typeIs (wpAny_pure ?_)) | refine wpAny_bind (wpAny_typeNameOf_keyiter hit.typeIs (wpAny_pure ?_))
 refine wpAny_bind (wpAny_fieldsOf ho hd ?_)
 simp only[show Builtin.Dict_items.ownsTuple "dict_keyiterator"=false by decide,Bool.false_eq_true,if_false]
 show wpAny _ _ (if(Value.ref d==Value.none)=true then _ else _) _ _ s
 rw[if_neg (show ¬ ((Value.ref d==Value.none)=true)from Bool.false_ne_true)]
 refine wpAny_bind (wpAny_pure (wpAny_bind (wpAny_dictEntries x.at_ x.data ?_)))
 rw[if_neg (by simp)]
 refine wpAny_bind (wpAny_pure (wpAny_bind (wpAny_dictEpoch x.at_ x.data ?_)))
 rw[if_neg (by simp)]
 refine wpAny_pure ?_
 simp only[show ¬ ((i:Int)<0)from by omega,if_false,Int.toNat_natCast,he]
 refine wpAny_bind ?_
 first | refine wpAny_bind (wpAny_typeNameOfWhole_keyiter hit.typeIs (wpAny_pure ?_)) | refine wpAny_bind (wpAny_typeNameOf_keyiter hit.typeIs (wpAny_pure ?_))
 refine wpAny_bind (wpAny_isOneOf_keyiter hit.typeIs ?_)
 show wpAny _ _ (setField (.ref it) 1 (rawInt ((i:Int)+1)) >>= _) _ _ s
 refine wpAny_bind (wpAny_setField ho hd (by simp) ?_)
 have hit':(s.heap.update it (Obj.mapFields (·.setIfInBounds 1 (rawInt ((i:Int)+1))))).IsKeyIter it d (i+1) es.size ep:=
  ⟨_,Heap.get?_update_self _ ho (Obj.isFreed_of_fields (Obj.data_mapFields hd _)),(Obj.cls_mapFields ..).trans hc,by rw[Obj.data_mapFields hd];simp[rawInt]⟩
 refine wpAny_bind (wpAny_holding (wpAny_bind (wpAny_isOneOf_keyiter (s:={ s with heap:=s.heap.update it (Obj.mapFields (·.setIfInBounds 1 (rawInt ((i:Int)+1)))) }) hit'.typeIs ?_)))
 show wpAny _ _ (pure e.key) _ _ _
 exact wpAny_pure (wpAny_pure ⟨_,rfl,wpAny_pure (hQ _ hit' (Heap.SameBut.update ..))⟩)
theorem LX {Q:Option Value→Shared→Prop}(hh:A.handled=none)(hit:s.heap.IsKeyIter it d i es.size ep)(x:Jf s.heap d o es ep)(he:es.size≤i)
 (hQ:∀ h',Heap.ExtBut it s.heap h'→Q none { s with heap:=h' }):wpAny (model P w) A (pyNext (.ref it)) Q E s:=by
 obtain⟨oi,ho,hc,hd⟩:=id hit
 unfold pyNext
 refine wpAny_bind (wpAny_attempt (wpAny_callSpecial?_slot (name:=Str.ofString "__next__") hit.typeIs F.slot_dict_keyiterator_next
  (wpAny_call_entry F.slot_dict_keyiterator_next hit.typeIs F.entry_dict_keyiterator_next (wpAny_bind (wpAny_pure (wpAny_bind (wpAny_bind ?_)))) (F.args_dict_keyiterator_next_1 _))))
 first | refine wpAny_bind (wpAny_typeNameOfWhole_keyiter hit.typeIs (wpAny_pure ?_)) | refine wpAny_bind (wpAny_typeNameOf_keyiter hit.typeIs (wpAny_pure ?_))
 refine wpAny_bind (wpAny_fieldsOf ho hd ?_)
 simp only[show Builtin.Dict_items.ownsTuple "dict_keyiterator"=false by decide,Bool.false_eq_true,if_false]
 show wpAny _ _ (if(Value.ref d==Value.none)=true then _ else _) _ _ s
 rw[if_neg (show ¬ ((Value.ref d==Value.none)=true)from Bool.false_ne_true)]
 refine wpAny_bind (wpAny_pure (wpAny_bind (wpAny_dictEntries x.at_ x.data ?_)))
 rw[if_neg (by simp)]
 refine wpAny_bind (wpAny_pure (wpAny_bind (wpAny_dictEpoch x.at_ x.data ?_)))
 rw[if_neg (by simp)]
 refine wpAny_pure ?_
 simp only[show ¬ ((i:Int)<0)from by omega,if_false,Int.toNat_natCast,Array.getElem?_eq_none he]
 refine wpAny_bind ?_
 first | refine wpAny_bind (wpAny_typeNameOfWhole_keyiter hit.typeIs (wpAny_pure ?_)) | refine wpAny_bind (wpAny_typeNameOf_keyiter hit.typeIs (wpAny_pure ?_))
 show wpAny _ _ (setField (.ref it) 0 .none >>= _) _ _ s
 refine wpAny_bind (wpAny_setField ho hd (by simp) ?_)
 show wpAny _ _ (newExc (.type "StopIteration") [] >>= _) _ _ _
 refine wpAny_bind ?_
 simp only[newExc,newTuple]
 refine wpAny_bind (wpAny_newObj_type ?_ (by size_fits))
 refine wpAny_bind (m:=firstArgMember _ _) (wpAny_of_eq (a:=Value.none) (by first | rfl | (simp only[firstArgMember];rfl)) ?_)
 refine wpAny_newObj_type ?_ (by size_fits)
 simp only[raiseNew]
 refine wpAny_bind (wpAny_handled ?_)
 rw[show A.in1.handled=none from hh]
 refine wpAny_bind (wpAny_pure (wpAny_throw ?_))
 refine wpAny_bind (wpAny_isInstance (T:="StopIteration") (b:=true) ⟨_,Heap.get?_push_size _ rfl,rfl⟩ isSubtype_stop ?_)
 exact wpAny_pure (hQ _ (((Heap.SameBut.update ..).extBut.push _).push _))
end
section
variable {X:Cx}{tg:Expr}{pins:List (Addr×Obj)}{σ:St}{H:Hp}{s:Shared}
theorem Ah.freeze {a:Addr}{kvs:List (List BF×V)}{o:Obj}(I:Ah X pins σ H s)(e:H a=some (.dT kvs))(ho:s.heap.get? a=some o):Ah X pins σ (upd H a (.frz o (.dT kvs))) s:=by
 have ne:∀{b:Addr} {u:HO},H b=some u→(∀ k,u≠.dT k)→b≠a:=fun h n z=>by
  subst z
  rw[e]at h
  exact n _ (Option.some.inj h).symm
 have tup:∀ b xs,H b=some (.tup xs)→upd H a (.frz o (.dT kvs)) b=some (.tup xs):=fun b xs q=>by rw[AT (ne q fun k z=>nomatch z)];exact q
 refine I.un (t':=s.toks) (h':=s.heap) ⟨fun b u q _ _ _=>q,fun b u q _ _ _=>⟨u.slots,q⟩,fun b u q n _=>?_,fun b u q _=>⟨u,q⟩,tup,fun b u v q=>?_,fun b ps q=>⟨#[],?_⟩⟩ fun b u q=>?_
 ·rw[AT fun z=>by rw[z,e]at n;cases n];exact n
 ·rw[AT (ne q fun k z=>nomatch z)];exact q
 ·rw[AT (ne q fun k z=>nomatch z),q];simp
 ·by_cases hb:b=a
  ·subst hb
   rw[AD]at q
   cases q
   exact⟨ho,(I.hok b _ e).stay (fun _ _ _ z=>z) (fun c z=>by rw[AT (ne z fun k z=>nomatch z)];exact z) tup⟩
  ·rw[AT hb]at q
   exact(I.hok b u q).stay (fun _ _ _ z=>z) (fun c z=>by rw[AT (ne z fun k z=>nomatch z)];exact z) tup
def RZ (a:Addr)(o:Obj):It:=
 ⟨fun i H=>∃ kvs,H a=some (.frz o (.dT kvs))∧i<kvs.length,
  fun i H x H'=>H'=H∧∀ kvs,H a=some (.frz o (.dT kvs))→∃ ks v b,kvs[i]?=some (ks,v)∧x=.ref b∧H b=some (.tup (ks.map kV)),
  fun i H=>∃ kvs,H a=some (.frz o (.dT kvs))∧kvs.length≤i⟩
theorem OQ {P:Program}{w:World}{K:PySem.W.Frag}{tg:Expr}(a it:Addr){o:Obj}{es:Array DictEntry}{ep:Nat}(hx:o.ExactDict)(hd:o.data=.dict es ep):
 KU P w K tg (RZ a o) [it] it (fun i h=>h.IsKeyIter it a i es.size ep) where
 mem:=by simp
 obj:=fun i h st b hb=>by
  have e:b=it:=by simpa using hb
  subst e
  obtain⟨o,e,c,d⟩:=st
  exact⟨o,e,fun v z=>by rw[d]at z;cases z⟩
 keep:=fun i h h' st k=>st.at fun o e=>k it (by simp) o e
 item:=by
  intro X hP hw hK hc i pins s σ H E I hf st hg
  subst hP hw hK
  obtain⟨kvs,hq,hi⟩:=hg
  obtain⟨ho,z,y,xs,r,o',es',ep',h1,h2,h3,h4,h5⟩:=(show BI X.prog X.w H s.heap a (.frz o (.dT kvs))from I.hok a _ hq)
  rw[ho]at h1
  cases h1
  rw[hd]at h3
  cases h3
  obtain⟨f0,f1,f2,f3,f4,f5⟩:=hf it (by simp)
  have e1:kvs[i]?=some (kvs[i]'hi):=List.getElem?_eq_getElem _
  obtain⟨q,hq2,rel⟩:=BW r e1
  have he:=entry_at h4 i
  rw[hq2]at he
  refine Jh st ⟨ho,hx,hd⟩ he fun h' st' sb=>?_
  have I1:Ah X pins σ H { s with heap:=h' }:=I.turned (t':=s.toks) (fun b o hb e=>(sb.2 b hb).trans e) f0 f1 f3 f4 f5
  obtain⟨oo,e,c,dd⟩:=id st'
  refine⟨_,rfl,JV (s:={ s with heap:=h' }) e c dd (by decide) ⟨.ref q.2.1,H,I1,rfl,⟨rfl,fun kvs' hk=>?_⟩,st',fun b hb=>(hf b hb).1⟩⟩
  rw[hq]at hk
  cases hk
  exact⟨_,_,q.2.1,e1,rfl,rel.2.1⟩
 done:=by
  intro X hP hw hK hc i pins s σ H E I hf st hg
  subst hP hw hK
  obtain⟨kvs,hq,hi⟩:=hg
  obtain⟨ho,z,y,xs,r,o',es',ep',h1,h2,h3,h4,h5⟩:=(show BI X.prog X.w H s.heap a (.frz o (.dT kvs))from I.hok a _ hq)
  rw[ho]at h1
  cases h1
  rw[hd]at h3
  cases h3
  obtain⟨f0,f1,f2,f3,f4,f5⟩:=hf it (by simp)
  have hl:es.size=kvs.length:=by rw[Paired.length r,← Array.length_toList,h4,List.length_map]
  exact LX (I.ok.hd hc) st ⟨ho,hx,hd⟩ (by omega) fun h' eb=>⟨rfl,I.turned (t':=s.toks) (fun b o hb e=>eb b o hb e) f0 f1 f3 f4 f5⟩
 self:=fun _ _ _ _ _ st h=>wpAny_pyIter_keyiter st h
def Uj (tl:TE):TI:=fun σ H R=>tl σ H fun x H1=>∃ a kvs,x=.ref a∧H1 a=some (.dT kvs)∧∀ o,R (RZ a o) (upd H1 a (.frz o (.dT kvs)))
theorem Ra {l:Expr}{tl:TE}(hl:PE X l tl):PI X tg l (Uj tl):=by
 intro pins s σ H R I h
 refine BZ (hl pins s σ H _ I h) fun v s1 zq=>?_
 obtain⟨x,H1,I1,r1,q1⟩:=zq
 obtain⟨a,kvs,e,hq,q⟩:=q1
 subst e
 cases r1
 obtain⟨z,y,xs,r,o,es,ep,h1,h2,h3,h4,h5⟩:=(show BI X.prog X.w H1 s1.heap a (.dT kvs)from I1.hok a _ hq)
 have I2:=I1.freeze hq h1
 refine Jg ⟨h1,h2,h3⟩ y ?_
 refine⟨s1.heap.objs.size,[s1.heap.objs.size],_,_,_,rfl,I2.kept (t':=s1.toks) fun b o e=>Heap.get?_push_of_some _ e,OQ a _ h2 h3,⟨_,Heap.get?_push_size _ rfl,rfl,rfl⟩,fun b hb=>?_,q o⟩
 have e:b=s1.heap.objs.size:=by simpa using hb
 subst e
 exact I2.fpOk (Nat.le_refl _) (I2.hok.fresh (Nat.le_refl _))
end
section
variable {X:Cx}
def T2 (K:PySem.W.Frag):R2:=fun x y H Q=>∃ a b xs,x=.ref a∧y=.ref b∧A3 K H a xs∧A3 K H b []∧Q (.bl (!xs.isEmpty)) H
theorem QC (hu:X.A.units<cLine):EX X (compareOp .NotEq) (T2 X.K):=by
 intro pins s σ H x y v u Q I rx ry h
 obtain⟨a,b,xs,rfl,rfl,ha,hb,q⟩:=h
 cases xs with
 | nil=>exact P9 hu pins s σ H _ _ v u Q I rx ry ⟨a,b,[],[],rfl,rfl,ha,hb,rfl,rfl,q⟩
 | cons x0 xs=>
  cases rx
  cases ry
  obtain⟨its,r1,p1,_⟩:=I.list ha
  obtain⟨its2,r2,p2,_⟩:=I.list hb
  have l1:=r1.length
  have l2:=r2.length
  have hne:(its.toArray.size != its2.toArray.size)=true:=by
   rw[List.size_toArray,List.size_toArray,← l1,← l2]
   simp
  exact SeqAt.RcNeAt.lists_lengths p1.isList p2.isList hne hu X.prog X.w X.xe _ ⟨.bl true,H,I,rfl,q⟩
theorem Rb {tb:TE}{σ:St}{H:Hp}{Q:VK}{x y:Bool}(h2:Q (.bl y) H→tb σ H Q)(h:Q (.bl (x&&y)) H):∃ c,V.bl x=.bl c∧if c=true then tb σ H Q else Q (.bl false) H:=by
 refine⟨x,rfl,?_⟩
 cases x with
 | false=>exact AX h
 | true=>exact Ap (h2 h)
end
end L2
namespace StrT
open PySem PySem.W PyProof.Rows
section
variable {N:Nat}{lt:Nat→Nat→Bool}
def Wp {α:Type}(N:Nat)(lt:Nat→Nat→Bool):KasT α→(α→Prop)→Prop
 | .ret a,P=>P a
 | .ask i j k,P=>i<N∧j<N∧Wp N lt (k (lt i j)) P
theorem Wp.mono {α:Type}{P P':α→Prop}(hp:∀ a,P a→P' a):∀{t:KasT α},Wp N lt t P→Wp N lt t P'
 | .ret a,h=>hp a h
 | .ask _ _ _,h=>⟨h.1,h.2.1,Wp.mono hp h.2.2⟩
theorem Wp.bind {α β:Type}{f:α→KasT β}{P:β→Prop}:∀{t:KasT α},Wp N lt t (fun a=>Wp N lt (f a) P)→Wp N lt (t.bind f) P
 | .ret _,h=>h
 | .ask _ _ _,h=>⟨h.1,h.2.1,Wp.bind h.2.2⟩
structure Ord (lt:Nat→Nat→Bool):Prop where
 tr:∀ a b c,lt b a=false→lt c b=false→lt c a=false
 as:∀ a b,lt a b=true→lt b a=false
theorem Ord.rf (o:Ord lt)(a:Nat):lt a a=false:=by
 cases h:lt a a with
 | false=>rfl
 | true=>exact(o.as a a h).symm▸h.symm▸h
def gg (p:Array Nat)(i:Nat):Nat:=p.getD i 0
def Up (lt:Nat→Nat→Bool)(p:Array Nat)(k:Nat):Prop:=∀ i j,i≤j→j<k→lt (gg p j) (gg p i)=false
def Dn (lt:Nat→Nat→Bool)(p:Array Nat)(k:Nat):Prop:=∀ i j,i≤j→j<k→lt (gg p i) (gg p j)=false
structure Bs (N:Nat)(p₀ p:Array Nat):Prop where
 sz:p.size=N
 bd:∀ i,gg p i<N
 pm:p.Perm p₀
theorem DL {p:Array Nat}{i j:Nat}(hj:j≤p.size)(k:Nat):gg (kas_rev p i j) k=if i≤k∧k<j then gg p (i+j-1-k)else gg p k:=by
 unfold gg kas_rev
 rw[Array.getD_eq_getD_getElem?,getElem?_mirror_all hj]
 split <;> rw[Array.getD_eq_getD_getElem?]
theorem Kg {p:Array Nat}{s d:Nat}(hs:s<p.size)(hd:d≤s)(k:Nat):gg (bubble p s d) k=if k=s-d then gg p s else if s-d<k∧k≤s then gg p (k-1)else gg p k:=by
 unfold gg
 rw[Array.getD_eq_getD_getElem?,Array.getD_eq_getD_getElem?,Array.getD_eq_getD_getElem?,Array.getD_eq_getD_getElem?,getElem?_bubble hs d hd]
 by_cases h1:k=s-d
 ·rw[if_pos h1,if_pos h1]
 ·rw[if_neg h1,if_neg h1]
  by_cases h2:s-d<k∧k≤s
  ·rw[if_pos h2,if_pos h2]
  ·rw[if_neg h2,if_neg h2]
theorem Bs.rev {p₀ p:Array Nat}(b:Bs N p₀ p){i j:Nat}(hj:j≤N):Bs N p₀ (kas_rev p i j) where
 sz:=by rw[show(kas_rev p i j).size=p.size from mirror_size _ _ _ _];exact b.sz
 bd:=fun k=>by rw[DL (by rw[b.sz];exact hj)];split <;> exact b.bd _
 pm:=(mirror_perm _ _ _ _).trans b.pm
theorem Bs.bub {p₀ p:Array Nat}(b:Bs N p₀ p){s d:Nat}(hs:s<N)(hd:d≤s):Bs N p₀ (bubble p s d) where
 sz:=by rw[bubble_size];exact b.sz
 bd:=fun k=>by
  rw[Kg (by rw[b.sz];exact hs) hd]
  split
  ·exact b.bd _
  ·split <;> exact b.bd _
 pm:=(bubble_perm _ _ _).trans b.pm
theorem LY (o:Ord lt){p:Array Nat}{n:Nat}(u:Up lt p n)(hn:1≤n)(h:lt (gg p n) (gg p (n-1))=false):Up lt p (n+1):=by
 intro i j hij hj
 rcases Nat.lt_or_ge j n with hjn | hjn
 ·exact u i j hij hjn
 ·have e:j=n:=by omega
  subst e
  rcases Nat.lt_or_ge i j with hi | hi
  ·exact o.tr _ _ _ (u i (j-1) (by omega) (by omega)) h
  ·have e:i=j:=by omega
   subst e;exact o.rf _
theorem GP (o:Ord lt){p:Array Nat}{n:Nat}(u:Dn lt p n)(hn:1≤n)(h:lt (gg p (n-1)) (gg p n)=false):Dn lt p (n+1):=by
 intro i j hij hj
 rcases Nat.lt_or_ge j n with hjn | hjn
 ·exact u i j hij hjn
 ·have e:j=n:=by omega
  subst e
  rcases Nat.lt_or_ge i j with hi | hi
  ·exact o.tr _ _ _ h (u i (j-1) (by omega) (by omega))
  ·have e:i=j:=by omega
   subst e;exact o.rf _
theorem Rc (o:Ord lt){p₀ p:Array Nat}(b:Bs N p₀ p):∀(f n:Nat),1≤n→n+f≤N→Up lt p n→Wp N lt (kas_asc p f n) (fun m=>n≤m∧m≤n+f∧Up lt p m)
 | 0,n,_,_,u=>⟨Nat.le_refl _,Nat.le_refl _,u⟩
 | f+1,n,h1,hf,u=>by
  refine⟨b.bd _,b.bd _,?_⟩
  cases hc:lt (p.getD n 0) (p.getD (n-1) 0)with
  | true=>exact⟨Nat.le_refl _,by omega,u⟩
  | false=>
   exact Wp.mono (fun m h=>⟨by omega,by omega,h.2.2⟩) (Rc o b f (n+1) (by omega) (by omega) (LY o u h1 hc))
def TF (lt:Nat→Nat→Bool)(p:Array Nat)(n q:Nat):Prop:=q+1≤n∧∀ i j,n-(q+1)≤i→i<n→n-(q+1)≤j→j<n→lt (gg p i) (gg p j)=false
theorem NC {p:Array Nat}{n q:Nat}(hn:n≤p.size)(d:Dn lt p n)(e:TF lt p n q):Dn lt (kas_rev p (n-(q+1)) n) n:=by
 intro i j hij hj
 rw[DL hn,DL hn]
 have h1:=e.1
 split
 ·split
  ·exact e.2 _ _ (by omega) (by omega) (by omega) (by omega)
  ·omega
 ·split
  ·exact d _ _ (by omega) (by omega)
  ·exact d _ _ hij hj
theorem LZ {p:Array Nat}{n a:Nat}(hn:n≤p.size):gg (kas_rev p a n) n=gg p n:=by rw[DL hn];split <;> first | omega | rfl
theorem La (o:Ord lt){p₀:Array Nat}:∀(f:Nat) (p:Array Nat) (n q:Nat),Bs N p₀ p→1≤n→n+f≤N→Dn lt p n→TF lt p n q→
 Wp N lt (kas_desc f p n q) (fun r=>Bs N p₀ r.1∧n≤r.2.1∧r.2.1≤n+f∧Dn lt r.1 r.2.1∧TF lt r.1 r.2.1 r.2.2)
 | 0,p,n,q,b,_,_,d,e=>⟨b,Nat.le_refl _,Nat.le_refl _,d,e⟩
 | f+1,p,n,q,b,h1,hf,d,e=>by
  have he:=e.1
  refine⟨b.bd _,b.bd _,?_⟩
  cases hc:lt (p.getD n 0) (p.getD (n-1) 0)with
  | true=>
   have one:∀ p':Array Nat,TF lt p' (n+1) 0:=fun p'=>⟨by omega,fun i j h1 h2 h3 h4=>by
    have e1:i=n:=by omega
    have e2:j=n:=by omega
    subst e1;subst e2;exact o.rf _⟩
   simp only[if_true]
   split
   ·have b':=b.rev (i:=n-(q+1)) (j:=n) (by omega)
    have dd:=NC (by rw[b.sz];omega) d e
    have hl:lt (gg (kas_rev p (n-(q+1)) n) (n-1)) (gg (kas_rev p (n-(q+1)) n) n)=false:=by
     rw[LZ (by rw[b.sz];omega),DL (by rw[b.sz];omega),if_pos (by omega)]
     refine o.tr _ _ _ (o.as _ _ hc) ?_
     exact e.2 _ _ (by omega) (by omega) (by omega) (by omega)
    exact Wp.mono (fun r h=>⟨h.1,by omega,by omega,h.2.2.2⟩) (La o f _ (n+1) 0 b' (by omega) (by omega) (GP o dd h1 hl) (one _))
   ·exact Wp.mono (fun r h=>⟨h.1,by omega,by omega,h.2.2.2⟩) (La o f _ (n+1) 0 b (by omega) (by omega) (GP o d h1 (o.as _ _ hc)) (one _))
  | false=>
   simp only[Bool.false_eq_true,if_false]
   refine⟨b.bd _,b.bd _,?_⟩
   cases hd:lt (p.getD (n-1) 0) (p.getD n 0)with
   | true=>exact⟨b,Nat.le_refl _,by show n≤_;omega,d,e⟩
   | false=>
    simp only[Bool.false_eq_true,if_false]
    have lo:∀ i,n+1-(q+1+1)≤i→i<n+1→lt (gg p i) (gg p (n-1))=false∧lt (gg p (n-1)) (gg p i)=false:=fun i h2 h3=>by
     rcases Nat.lt_or_ge i n with h4 | h4
     ·exact⟨e.2 _ _ (by omega) (by omega) (by omega) (by omega),e.2 _ _ (by omega) (by omega) (by omega) (by omega)⟩
     ·have ei:i=n:=by omega
      subst ei;exact⟨hc,hd⟩
    refine Wp.mono (fun r h=>⟨h.1,by omega,by omega,h.2.2.2⟩) (La o f p (n+1) (q+1) b (by omega) (by omega) (GP o d h1 hd) ⟨by omega,fun i j a1 a2 a3 a4=>?_⟩)
    exact o.tr _ _ _ (lo j a3 a4).2 (lo i a1 a2).1
theorem ND {p:Array Nat}{n:Nat}(hn:n≤p.size)(d:Dn lt p n):Up lt (kas_rev p 0 n) n:=by
 intro i j hij hj
 rw[DL hn,DL hn,if_pos (by omega),if_pos (by omega)]
 exact d _ _ (by omega) (by omega)
theorem NE (o:Ord lt){p₀ p:Array Nat}(b:Bs N p₀ p){n:Nat}(h1:1≤n)(hn:n≤N)(d:Dn lt p n):
 Wp N lt (kas_tail3 n N p) (fun r=>1≤r.1∧r.1≤N∧Bs N p₀ r.2∧Up lt r.2 r.1):=by
 refine Wp.bind (Wp.mono ?_ (Rc o (b.rev (i:=0) (j:=n) hn) (N-n) n h1 (by omega) (ND (by rw[b.sz];exact hn) d)))
 rintro m ⟨a1,a2,a3⟩
 exact⟨by show 1≤m;omega,by show m≤N;omega,b.rev hn,a3⟩
theorem IP (o:Ord lt){p₀ p:Array Nat}(b:Bs N p₀ p){n:Nat}(h1:1≤n)(hn:n+1≤N)(d:Dn lt p n)(hl:lt (gg p n) (gg p (n-1))=true):
 Wp N lt (kas_descPart n N p) (fun r=>1≤r.1∧r.1≤N∧Bs N p₀ r.2∧Up lt r.2 r.1):=by
 refine Wp.bind (Wp.mono ?_ (La o (N-(n+1)) p (n+1) 0 b (by omega) (by omega) (GP o d h1 (o.as _ _ hl)) ⟨by omega,fun i j a1 a2 a3 a4=>?_⟩))
 ·rintro⟨p',m,q⟩ ⟨b',a1,a2,a3,a4⟩
  dsimp only at *
  have a5:=a4.1
  split
  ·exact NE o (b'.rev (by omega)) (by omega) (by omega) (NC (by rw[b'.sz];omega) a3 a4)
  ·exact NE o b' (by omega) (by omega) a3
 ·have e1:i=n:=by omega
  have e2:j=n:=by omega
  subst e1;subst e2;exact o.rf _
theorem PM (o:Ord lt){p₀ p:Array Nat}(b:Bs N p₀ p):∀(f n:Nat),1≤n→n+f≤N→Up lt p n→Wp N lt (kas_asc p f n) (fun m=>n≤m∧m≤n+f∧Up lt p m∧(m<n+f→lt (gg p m) (gg p (m-1))=true))
 | 0,n,_,_,u=>⟨Nat.le_refl _,Nat.le_refl _,u,fun h=>absurd h (Nat.lt_irrefl _)⟩
 | f+1,n,h1,hf,u=>by
  refine⟨b.bd _,b.bd _,?_⟩
  cases hc:lt (p.getD n 0) (p.getD (n-1) 0)with
  | true=>exact⟨Nat.le_refl _,by omega,u,fun _=>hc⟩
  | false=>
   exact Wp.mono (fun m h=>⟨by omega,by omega,h.2.2.1,fun h'=>h.2.2.2 (by omega)⟩) (PM o b f (n+1) (by omega) (by omega) (LY o u h1 hc))
theorem QD (o:Ord lt){p₀ p:Array Nat}(b:Bs N p₀ p)(hN:1≤N):Wp N lt (kas_count N p) (fun r=>1≤r.1∧r.1≤N∧Bs N p₀ r.2∧Up lt r.2 r.1):=by
 refine Wp.bind (Wp.mono ?_ (PM o b (N-1) 1 (Nat.le_refl _) (by omega) (fun i j hij hj=>?_)))
 ·rintro n ⟨a1,a2,a3,a4⟩
  split
  ·exact⟨a1,by show n≤N;omega,b,a3⟩
  ·rename_i hne
   have hlt:n<N:=by
    have:n≠N:=fun e=>hne (by rw[e];exact beq_self_eq_true N)
    omega
   have hl:=a4 (by omega)
   split
   ·refine⟨b.bd _,b.bd _,?_⟩
    cases hc:lt (p.getD 0 0) (p.getD (n-1) 0)with
    | true=>exact⟨a1,by show n≤N;omega,b,a3⟩
    | false=>
     simp only[Bool.false_eq_true,if_false]
     have al:∀ i j,i<n→j<n→lt (gg p i) (gg p j)=false:=fun i j hi hj=>
      o.tr _ _ _ (a3 j (n-1) (by omega) (by omega)) (o.tr _ _ _ hc (a3 0 i (by omega) hi))
     have hz:n≤p.size:=by rw[b.sz];omega
     refine IP o (b.rev (by omega)) a1 (by omega) (fun i j hij hj=>?_) ?_
     ·rw[DL hz,DL hz,if_pos (by omega),if_pos (by omega)]
      exact al _ _ (by omega) (by omega)
     ·rw[LZ hz,DL hz,if_pos (by omega)]
      cases h5:lt (gg p n) (gg p (0+n-1-(n-1)))with
      | true=>rfl
      | false=>exact absurd (o.tr _ _ _ (al (n-1) (0+n-1-(n-1)) (by omega) (by omega) |> fun _=>al (0+n-1-(n-1)) (n-1) (by omega) (by omega)) h5) (by rw[hl];exact Bool.noConfusion)
   ·have e1:n=1:=by omega
    subst e1
    refine IP o b a1 (by omega) (fun i j hij hj=>?_) hl
    have e1:i=0:=by omega
    have e2:j=0:=by omega
    subst e1;subst e2;exact o.rf _
 ·have e1:i=0:=by omega
  have e2:j=0:=by omega
  subst e1;subst e2;exact o.rf _
theorem Kh (o:Ord lt){p₀ p:Array Nat}(b:Bs N p₀ p){k:Nat}(hk:k<N)(u:Up lt p k):∀(f l r:Nat),l≤r→r≤k→r-l≤f→(∀ i,i<l→lt (gg p k) (gg p i)=false)→(∀ i,r≤i→i<k→lt (gg p k) (gg p i)=true)→
 Wp N lt (kas_place p k f l r) (fun m=>m≤k∧(∀ i,i<m→lt (gg p k) (gg p i)=false)∧(∀ i,m≤i→i<k→lt (gg p k) (gg p i)=true))
 | 0,l,r,h1,h2,h3,h4,h5=>⟨by omega,h4,fun i a1 a2=>h5 i (by omega) a2⟩
 | f+1,l,r,h1,h2,h3,h4,h5=>by
  unfold kas_place
  split
  ·exact⟨by omega,h4,fun i a1 a2=>h5 i (by omega) a2⟩
  ·refine⟨b.bd _,b.bd _,?_⟩
   cases hc:lt (p.getD k 0) (p.getD ((l+r) / 2) 0)with
   | true=>
    simp only[if_true]
    refine Kh o b hk u f l ((l+r) / 2) (by omega) (by omega) (by omega) h4 fun i a1 a2=>?_
    cases hx:lt (gg p k) (gg p i)with
    | true=>rfl
    | false=>exact absurd (o.tr _ _ _ (u ((l+r) / 2) i a1 a2) hx) (by rw[show lt (gg p k) (gg p ((l+r) / 2))=true from hc];exact Bool.noConfusion)
   | false=>
    simp only[Bool.false_eq_true,if_false]
    refine Kh o b hk u f ((l+r) / 2+1) r (by omega) h2 (by omega) (fun i a1=>?_) h5
    exact o.tr _ _ _ (u i ((l+r) / 2) (by omega) (by omega)) hc
theorem Re (o:Ord lt){p₀:Array Nat}:∀(f:Nat) (p:Array Nat) (k:Nat),Bs N p₀ p→k+f=N→1≤k→Up lt p k→Wp N lt (kas_bin f p k) (fun p'=>Bs N p₀ p'∧Up lt p' N)
 | 0,p,k,b,h1,_,u=>⟨b,(show k=N by omega)▸u⟩
 | f+1,p,k,b,h1,hk,u=>by
  refine Wp.bind (Wp.mono ?_ (Kh o b (by omega) u k 0 k (by omega) (by omega) (by omega) (fun i h=>absurd h (by omega)) (fun i a1 a2=>absurd a1 (by omega))))
  rintro l ⟨a1,a2,a3⟩
  refine Re o f _ (k+1) (b.bub (by omega) (by omega)) (by omega) (by omega) fun i j hij hj=>?_
  have hz:k<p.size:=by rw[b.sz];omega
  rw[Kg hz (by omega),Kg hz (by omega)]
  have e:k-(k-l)=l:=by omega
  rw[e]
  by_cases c1:j=l
  ·rw[if_pos c1]
   by_cases c2:i=l
   ·rw[if_pos c2];exact o.rf _
   ·rw[if_neg c2,if_neg (by omega)];exact a2 _ (by omega)
  ·rw[if_neg c1]
   by_cases c3:l<j∧j≤k
   ·rw[if_pos c3]
    by_cases c2:i=l
    ·rw[if_pos c2];exact o.as _ _ (a3 _ (by omega) (by omega))
    ·rw[if_neg c2]
     by_cases c4:l<i∧i≤k
     ·rw[if_pos c4];exact u _ _ (by omega) (by omega)
     ·rw[if_neg c4];exact u _ _ (by omega) (by omega)
   ·rw[if_neg c3,if_neg (by omega),if_neg (by omega)];exact u _ _ hij (by omega)
theorem sort_ (o:Ord lt)(hN:1≤N):Wp N lt (kas_sort N) (fun p=>p.size=N∧p.toList.Perm (List.range N)∧Up lt p N):=by
 have b0:Bs N (List.toArray (List.range N)) (List.toArray (List.range N)):=⟨by simp,fun i=>by
  unfold gg
  rw[Array.getD_eq_getD_getElem?]
  simp only[List.getElem?_toArray,List.getElem?_range]
  by_cases h:i<N
  ·simp[h]
  ·simp[h];omega,Array.Perm.refl _⟩
 refine Wp.bind (Wp.mono ?_ (QD o b0 hN))
 rintro⟨m,p⟩ ⟨a1,a2,a3,a4⟩
 dsimp only at *
 have pl:∀ q:Array Nat,Bs N (List.toArray (List.range N)) q→q.toList.Perm (List.range N):=fun q b=>by
  have:=Array.perm_iff_toList_perm.mp b.pm
  simpa using this
 split
 ·have e:max m 1=m:=by omega
  rw[e]
  exact Wp.mono (fun q h=>⟨h.1.sz,pl q h.1,h.2⟩) (Re o (N-m) p m a3 (by omega) a1 a4)
 ·have e:m=N:=by omega
  subst e
  exact⟨a3.sz,pl p a3,a4⟩
end
end StrT
namespace L2
open PySem PySem.Spec PyProof.Rows
def QE (p q:Int×Int):Bool:=if p.1=q.1 then decide (p.2<q.2)else decide (p.1<q.1)
theorem Lb (k:Nat→Int×Int):StrT.Ord (fun i j=>QE (k i) (k j)) where
 tr:=fun a b c h1 h2=>by
  simp only[QE]at h1 h2 ⊢
  repeat' split at h1
  all_goals repeat' split at h2
  all_goals repeat' split
  all_goals simp only[decide_eq_false_iff_not,decide_eq_true_eq]at *
  all_goals omega
 as:=fun a b h1=>by
  simp only[QE]at h1 ⊢
  repeat' split at h1
  all_goals repeat' split
  all_goals simp only[decide_eq_false_iff_not,decide_eq_true_eq]at *
  all_goals omega
theorem EZ:bootBuiltins "sorted"=some (.builtin "sorted"):=by nofun
section
variable {P:Program}{w:World}{A:Around}{E:Value→Shared→Prop}{s:Shared}
theorem PN {α:Type}{N:Nat}{lt:Nat→Nat→Bool}{cmp:Nat→Nat→(Bool→Shared→Prop)→Shared→Prop}(hc:∀ i j C,i<N→j<N→C (lt i j) s→cmp i j C s){R:α→Prop}{Q:α→Shared→Prop}(hq:∀ a,R a→Q a s):
 ∀{t:PySem.W.KasT α},StrT.Wp N lt t R→t.kasWp cmp Q s
 | .ret a,h=>hq a h
 | .ask i j k,h=>hc i j _ h.1 h.2.1 (PN hc hq h.2.2)
theorem DD {α β:Type}{F:α→β→Prop}{d:α}{e:β}:∀{xs:List α} {ys:List β},Paired F xs ys→∀{j:Nat},j<xs.length→F (xs.getD j d) (ys.getD j e)
 | _,_,.nil,_,h=>absurd h (Nat.not_lt_zero _)
 | _,_,.cons r _,0,_=>r
 | _,_,.cons _ t,j+1,h=>by simpa using DD t (d:=d) (e:=e) (j:=j) (by simpa using h)
theorem Es {α β γ:Type}{F:α→β→Prop}{f:γ→α}{g:γ→β}:∀{zs:List γ},(∀ z∈zs,F (f z) (g z))→Paired F (zs.map f) (zs.map g)
 | [],_=>.nil
 | z::zs,h=>.cons (h z (List.mem_cons_self ..)) (Es fun z' hz=>h z' (List.mem_cons_of_mem _ hz))
theorem Ki {α:Type}(d:α)(xs:List α):(List.range xs.length).map (fun i=>xs.getD i d)=xs:=by
 apply List.ext_getElem
 ·simp
 ·intro i h1 h2
  simp at h1
  simp[h1]
end
structure Et (X:Cx)(scope:Scope)(cl:List (Str×Addr))(x y:Str)(fv:List Str)(js:List Nat):Prop where
 S:Bu X scope cl x fv js
 hy:scope.names.lookup y=some .local
 nd:(x::y::fv).Nodup
section
variable {X:Cx}{scope:Scope}{cl:List (Str×Addr)}{x y:Str}{fv:List Str}{js:List Nat}
theorem Ji {pins:List (Addr×Obj)}{σ:St}{H:Hp}{s:Shared}{h₁:Heap}{ex:List Addr}{tk:Nat}(S2:Et X scope cl x y fv js)(I:Ah X pins σ H s)
 (hf:∀ b∈ex,Cz X pins H b) (hlt:∀ b∈ex,b<s.heap.objs.size) (hns:h₁.Ns s.heap.objs.size (fun _=>none)) (hk:∀ b o,s.heap.get? b=some o→h₁.get? b=some o):
 Ah (BG X scope cl s.heap.objs.size (x::y::fv) s H ex (X.pn++pins)) [] (none::none::Ff js σ) H { s with heap:=h₁,toks:=tk }:=by
 have S:=S2.S
 have nstk:∀ b∈ex,b∉Hg X.stack:=fun b hb z=>by
  rcases List.mem_cons.mp (I.stkSub b z)with e | e
  ·exact(hf b hb).2.1 e
  ·exact(hf b hb).2.2.1 e
 have ok:(BG X scope cl s.heap.objs.size (x::y::fv) s H ex (X.pn++pins)).Ok:=by
  refine⟨I.ok.mod,S.kind,I.ok.glob,I.ok.blt,Nat.le_refl _,fun y' z c h1 h2=>I.ok.inj y' z c (S.cell_of h1) (S.cell_of h2),fun y hy=>?_,(fun y c h hc=>by
   have h':((cl.lookup y).any fun c=>decide (s.heap.objs.size<c))=true:=h
   rw[show cl.lookup y=some c from hc]at h'
   exact Nat.le_of_lt (of_decide_eq_true h')),I.ok.hd,I.ok.frames,.inl rfl,
   fun b hb=>⟨Nat.ne_of_lt (hlt b hb),fun y c h=>(hf b hb).2.2.2.2.1 y c (S.cell_of h)⟩,I.bs,Nat.le_trans I.ok.bsz I.sz,fun b o e hb=>?_,nstk,I.stack,I.stkFree⟩
  ·have hm:y∈fv:=by
    rcases hy with hy | hy
    ·exact S.own hy (.inl rfl)
    ·exact S.own hy (.inr rfl)
   exact Option.isSome_iff_exists.mp (S.vis y hm).2.2
  ·obtain⟨f0,f1,f2,f3,f4,f5⟩:=hf b hb
   rcases f3 with z | z
   ·exact I.ok.noex b o e z
   ·exact absurd (Nat.lt_of_lt_of_le (Heap.lt_size e) (Nat.le_trans I.ok.bsz z)) (Nat.lt_irrefl _)
 refine⟨ok,rfl,I.bare,Un.kept hk,⟨_,hns,fun i y v e1 e2 e3=>?_⟩,fun y c h=>?_,I.hok.fresh (Nat.le_refl _),fun y c h=>I.freeC y c (S.cell_of h),fun p hp=>?_,I.hok.kept hk,?_⟩
 ·rcases i with _ | _ | i
  ·have z:(some (none:Option V))=some (some v):=e2;cases z
  ·have z:(some (none:Option V))=some (some v):=e2;cases z
  ·
   have hy:fv[i]?=some y:=by simpa [BG]using e1
   obtain⟨j,hj,hN⟩:=Er S.sl hy
   have hv:σ[j]?=some (some v):=by
    have z:(Ff js σ)[i]?=some (some v):=by simpa using e2
    unfold Ff at z
    rw[List.getElem?_map,hj]at z
    have z':(σ[j]?).getD none=some v:=Option.some.inj z
    cases q:σ[j]? with
    | none=>rw[q]at z';cases z'
    | some o=>rw[q]at z';exact congrArg some z'
   obtain⟨hfree,hcell,hsome⟩:=S.vis y (List.mem_of_getElem? hy)
   obtain⟨m,hn,hl⟩:=I.loc
   obtain⟨u,ru,look⟩:=hl j y v hN hv (.inr (.inl hcell))
   refine⟨u,ru,.inr ⟨.inl (By I.ok.kind hfree hcell),?_⟩⟩
   obtain⟨c',hc'⟩:=Option.isSome_iff_exists.mp hsome
   rcases look with⟨k,_⟩ | ⟨_,c,ec,z⟩
   ·have k':X.env.scope.names.lookup y=some .local:=k
    rw[hcell]at k';cases k'
   ·have e:=S.cell_of hc'
    rw[ec]at e
    cases e
    exact⟨_,hc',by obtain⟨o,ho,hd⟩:=z;exact⟨o,hk _ _ ho,hd⟩⟩
 ·obtain⟨v,o,ho,hd⟩:=I.cell y c (S.cell_of h)
  exact⟨v,o,hk _ _ ho,hd⟩
 ·have hp':p∈X.pn++pins:=by simpa [BG]using hp
  obtain⟨e,n,ne,nf,d⟩:=I.pin p hp'
  refine⟨hk _ _ e,n,Nat.ne_of_lt (Heap.lt_size e),fun z=>?_,d⟩
  rcases List.mem_cons.mp (I.stkSub p.1 z)with q | q
  ·exact ne q
  ·exact nf q
 ·show(none::none::Ff js σ).length=(x::y::fv).length
  have:fv.length=js.length:=Paired.length S.sl
  simp[Ff,this]
end
def NF (wi:TI)(g:TG)(js:List Nat)(tt:TT)(te:TE):TE:=fun σ H Q=>wi σ H fun J H1=>∀ D,H1 D=none→∃ W:Nat→Nat→Hp→Prop,(∃ m,W 0 m (upd H1 D (.lst [])))∧∀ i m H,W i m H→
 (J.stop i H∧Q (.ref D) H)∨(J.go i H∧∀ x H' o1 o2,J.yld i H x H'→g x (o1::o2::Ff js σ) H' fun σ2 H4=>(∃ v1 v2,σ2=some v1::some v2::Ff js σ)∧tt σ2 H4 fun b H2=>
  if b=true then te σ2 H2 fun v H3=>∃ xs,H3 D=some (.lst xs)∧xs.length<sizeLine∧∃ m',m'<m∧W (i+1) m' (upd H3 D (.lst (xs++[v])))
  else ∃ m',m'<m∧W (i+1) m' H2)
section
variable {X:Cx}
theorem NG {xs:List V}{us:List Value}(r:A2 xs us):A2 xs.reverse us.reverse:=by
 induction r with
 | nil=>exact .nil
 | cons r _ ih=>
  rw[List.reverse_cons,List.reverse_cons]
  exact A2.append ih (.cons r .nil)
end
structure M2 (X:Cx)(o:Expr)(m:Str)(apos:Pos)(e f:Expr)(cpos:Pos):Prop where
 base:attributeBase o m X.env (eval o X.env)=eval o X.env
 few:((backTo cpos (starEach [e,f] X.env)).all (fun x=>!x.1)&&(backToKw cpos (keywordEach [] X.env)).all (fun x=>x.1.isSome)
  && decide (([e,f]:List Expr).length+([]:List Keyword).length+(if([]:List Keyword).isEmpty then 0 else 1)<30))=true
 line:(apos.endLine==cpos.line)=true
 trees:backTo cpos (starEach [e,f] X.env)=[(false,eval e X.env),(false,eval f X.env)]
def FK (w:World)(kv:BF×V)(e:DictEntry):Prop:=Ga kv.1 e.key=true∧e.hash=Q5 w kv.1∧Am kv.2 e.val
def QF (w:World)(o:Obj)(kvs:List (BF×V)):Prop:=o.ExactDict∧∃ es ep,o.data=.dict es ep∧Paired (FK w) kvs es.toList∧(kvs.map (·.1)).Nodup
def MF (w:World)(K:PySem.W.Frag)(a:Addr)(kvs:List (BF×V)):Prop:=∃ ob,K.lookup a=some ob∧QF w ob kvs∧(a==sysModules)=false
theorem Lc {P:Program}{w:World}:∀{kvs:List (BF×V)} {es:List DictEntry},Paired (FK w) kvs es→∃ vs:List (BF×Value),KV kvs vs∧Pairs (BR P w) es vs∧vs.map (·.1)=kvs.map (·.1)∧∀ e∈es,∃ k,(BR P w).is k e.key=true∧e.hash=(BR P w).hash k
 | _,_,.nil=>⟨[],.nil,.nil,rfl,fun _ h=>nomatch h⟩
 | (kv::_),(e::_),.cons r t=>by
  obtain⟨vs,h1,h2,h3,h4⟩:=Lc (P:=P) t
  obtain⟨q1,q2,q3⟩:=r
  refine⟨(kv.1,e.val)::vs,.cons ⟨rfl,q3⟩ h1,.cons q1 rfl h2,by rw[List.map_cons,List.map_cons,h3],fun x hx=>?_⟩
  rcases List.mem_cons.mp hx with z | z
  ·rw[z];exact⟨kv.1,q1,q2⟩
  ·exact h4 x z
section
variable {X:Cx}{pins:List (Addr×Obj)}{σ:St}{H:Hp}{s:Shared}{a:Addr}{kvs:List (BF×V)}
theorem MF.at (I:Ah X pins σ H s)(d:MF X.w X.K a kvs):∃ vs,KV kvs vs∧s.heap.DictOf (BR X.prog X.w) a vs∧∃ ob,s.heap.get? a=some ob∧ob.dict=none:=by
 obtain⟨ob,hk,⟨hx,es,ep,hd,hp,hn⟩,_⟩:=d
 obtain⟨vs,h1,h2,h3,h4⟩:=Lc (P:=X.prog) hp
 refine⟨vs,h1,⟨ob,es,ep,I.kIn a ob hk,hx,hd,fun e he=>h4 e (Array.mem_def.mp he),h2,by rw[h3];exact hn⟩,ob,I.kIn a ob hk,hx.2.1⟩
end
def QG (w:World)(K:PySem.W.Frag)(mg:Str→Option Value)(x:Str)(kvs:List (BF×V)):Prop:=∃ a,mg x=some (.ref a)∧MF w K a kvs
def Uk (w:World)(K:PySem.W.Frag)(kvs:List (BF×V)):TE:=fun _ H Q=>∀ a,MF w K a kvs→Q (.ref a) H
theorem OR {X:Cx}{x:Str}{kvs:List (BF×V)}{pos:Pos}(hm:QG X.w X.K X.mg x kvs)(hg:Gl X x:=by rfl)(hd:(x==("__debug__":Str))=false:=by decide):PE X (.Name x pos) (Uk X.w X.K kvs):=by
 obtain⟨a,h,k⟩:=hm
 intro pins s σ H Q I q
 exact FB I hg h ⟨.ref a,H,I,rfl,q a k⟩ hd
def Rf (w:World)(K:PySem.W.Frag)(mg:Str→Option Value)(x:Str)(kts:List (BF×List V)):Prop:=∃ kvs,QG w K mg x kvs∧Paired (fun(kv:BF×V) (kt:BF×List V)=>kv.1=kt.1∧∃ a,kv.2=.ref a∧∀ H,Ao K H a kt.2) kvs kts
def T3 (w:World)(K:PySem.W.Frag)(kts:List (BF×List V)):TE:=fun _ H Q=>∀ a kvs,MF w K a kvs→Paired (fun(kv:BF×V) (kt:BF×List V)=>kv.1=kt.1∧∃ a,kv.2=.ref a∧∀ H,Ao K H a kt.2) kvs kts→Q (.ref a) H
theorem OS {X:Cx}{x:Str}{kts:List (BF×List V)}{pos:Pos}(hm:Rf X.w X.K X.mg x kts)(hg:Gl X x:=by rfl)(hd:(x==("__debug__":Str))=false:=by decide):PE X (.Name x pos) (T3 X.w X.K kts):=by
 obtain⟨kvs,⟨a,h,k⟩,p⟩:=hm
 intro pins s σ H Q I q
 exact FB I hg h ⟨.ref a,H,I,rfl,q a kvs k p⟩ hd
section
variable {X:Cx}{o i e f:Expr}{pos apos cpos:Pos}{td ty te tf:TE}
def QH (w:World)(K:PySem.W.Frag)(td ty tx:TE):TE:=fun σ H Q=>td σ H fun x H1=>∃ a kvs,x=.ref a∧MF w K a kvs∧ty σ H1 fun y H2=>tx σ H2 fun z H3=>∃ k,y=kV k∧Q ((DK kvs k).getD z) H3
theorem Jj (ho:PE X o td)(he:PE X e te)(hf:PE X f tf)(m:M2 X o "get" apos e f cpos):PE X (.Call (.Attribute o "get" apos) [e,f] [] cpos) (QH X.w X.K td te tf):=by
 intro pins s σ H Q I h
 refine wpAny_Call_method m.base m.few m.line PySem.F.plainAttrs_dict PySem.F.slot_dict_get PySem.F.type_dict_get (BZ (ho pins s σ H _ I h) fun u s1 zq=>?_)
 obtain⟨x,H1,I1,rx,a,kvs,ex,d,q1⟩:=zq
 subst ex
 obtain rfl:u=Value.ref a:=rx
 obtain⟨_,_,dd,ob,hob,hno⟩:=d.at I1
 refine⟨dd.typeIs,fun b q=>by cases q;exact⟨ob,hob,hno⟩,?_⟩
 rw[m.trees]
 refine Calls.callWith_builtin rfl (Calls.evalArgs_plain (Calls.spliced_cons (BZ (he pins s1 σ H1 _ I1 q1) fun iv s2 ⟨y,H2,I2,ry,q2⟩=>
  Calls.spliced_cons (BZ (hf pins s2 σ H2 _ I2 q2) fun fv s3 ⟨z,H3,I3,rz,k,ey,q3⟩=>Calls.spliced_nil ?_))))
 subst ey
 obtain⟨vs3,rel3,dd3,_⟩:=d.at I3
 refine call_meetsIn PySem.F.slot_dict_get dd3.typeIs PySem.F.entry_dict_get (PySem.F.args_dict_get_3 _ _ _) (meets_dict_get_default (BR X.prog X.w) a (Jd ry) d.choose_spec.2.2 fv) ⟨_,dd3.mapOf,?_⟩
 exact⟨_,H3,I3.tok _,(rel3.val k).getD rz,q3⟩
end
section
variable {prog:Program}{w:World}{A:Around}{E:Value→Shared→Prop}{s:Shared}
theorem Eu {it t:Addr}{i:Nat}{items:Array Value}{x:Value}{Q:Value→Shared→Prop}(hit:s.heap.IsTupleIter it t i)(ht:s.heap.IsTuple t items)(hx:items[i]?=some x)
 (hQ:∀ h',h'.IsTupleIter it t (i+1)→Heap.SameBut it s.heap h'→Q x { s with heap:=h' }):wpAny (model prog w) A (Builtin.SmallTypes.nextOf (.ref it)) Q E s:=by
 obtain⟨o,ho,hc,hd⟩:=id hit
 obtain⟨ol,hol,_,nl,hdl⟩:=ht
 unfold Builtin.SmallTypes.nextOf
 refine wpAny_bind (wpAny_callSpecial?_slot (name:=Str.ofString "__next__") hit.typeIs F.slot_tuple_iterator_next (wpAny_call_entry F.slot_tuple_iterator_next hit.typeIs F.entry_tuple_iterator_next ?_ (F.args_tuple_iterator_next_1 _)))
 show wpAny _ _ (field (.ref it) 0 >>= _) _ _ s
 refine wpAny_bind (wpAny_field ho hd (x:=.ref t) rfl ?_)
 show wpAny _ _ (if(Value.ref t==Value.none)=true then _ else _) _ _ s
 rw[if_neg (show ¬ ((Value.ref t==Value.none)=true)from Bool.false_ne_true)]
 show wpAny _ _ (field (.ref it) 1 >>= _) _ _ s
 refine wpAny_bind (wpAny_field ho hd (x:=.int i 0) rfl ?_)
 show wpAny _ _ (seqItems? (.ref t) >>= _) _ _ s
 refine wpAny_bind (wpAny_seqItems hol hdl ?_)
 simp only[Int.toNat_natCast,hx]
 refine wpAny_bind (wpAny_setField ho hd (by simp) (wpAny_pure ⟨x,rfl,wpAny_pure (hQ _ ?_ (Heap.SameBut.update ..))⟩))
 exact⟨_,Heap.get?_update_self _ ho (Obj.isFreed_of_fields (Obj.data_mapFields hd _)),(Obj.cls_mapFields ..).trans hc,by
  rw[Obj.data_mapFields hd];simp[rawInt]⟩
theorem IQ {it t:Addr}{i:Nat}{items:Array Value}{Q:Value→Shared→Prop}(hh:A.handled=none)(hit:s.heap.IsTupleIter it t i)(ht:s.heap.IsTuple t items)(hx:items[i]?=none)
 (hE:∀ h' e,Heap.ExtBut it s.heap h'→(∃ o,h'.get? e=some o∧o.cls=.type "StopIteration")→E (.ref e) { s with heap:=h' }):wpAny (model prog w) A (Builtin.SmallTypes.nextOf (.ref it)) Q E s:=by
 obtain⟨o,ho,hc,hd⟩:=id hit
 obtain⟨ol,hol,_,nl,hdl⟩:=ht
 unfold Builtin.SmallTypes.nextOf
 refine wpAny_bind (wpAny_callSpecial?_slot (name:=Str.ofString "__next__") hit.typeIs F.slot_tuple_iterator_next (wpAny_call_entry F.slot_tuple_iterator_next hit.typeIs F.entry_tuple_iterator_next ?_ (F.args_tuple_iterator_next_1 _)))
 show wpAny _ _ (field (.ref it) 0 >>= _) _ _ s
 refine wpAny_bind (wpAny_field ho hd (x:=.ref t) rfl ?_)
 show wpAny _ _ (if(Value.ref t==Value.none)=true then _ else _) _ _ s
 rw[if_neg (show ¬ ((Value.ref t==Value.none)=true)from Bool.false_ne_true)]
 show wpAny _ _ (field (.ref it) 1 >>= _) _ _ s
 refine wpAny_bind (wpAny_field ho hd (x:=.int i 0) rfl ?_)
 show wpAny _ _ (seqItems? (.ref t) >>= _) _ _ s
 refine wpAny_bind (wpAny_seqItems hol hdl ?_)
 simp only[Int.toNat_natCast,hx]
 refine wpAny_bind (wpAny_rule (wpAny_bind (wpAny_setField ho hd (by simp) ?_)))
 show wpAny _ _ (newExc (.type "StopIteration") [] >>= _) _ _ _
 refine wpAny_bind ?_
 simp only[newExc,newTuple]
 refine wpAny_bind (wpAny_newObj_type ?_ (by size_fits))
 refine wpAny_bind (m:=firstArgMember _ _) (wpAny_of_eq (a:=Value.none) (by first | rfl | (simp only[firstArgMember];rfl)) ?_)
 refine wpAny_newObj_type ?_ (by size_fits)
 simp only[raiseNew]
 refine wpAny_bind (wpAny_handled ?_)
 first | rw[show A.in1.handled=none from hh] | rw[hh]
 refine wpAny_bind (wpAny_pure (wpAny_throw ?_))
 exact hE _ _ (((Heap.SameBut.update ..).extBut.push _).push _) ⟨_,Heap.get?_push_size _ rfl,rfl⟩
end
theorem Rg {h h2:Heap}:∀ fs:List Addr,(∀ b∈fs,∃ o,h.get? b=some o)→(∀ b∈fs,∃ o,h2.get? b=some o∧o.isFreed=false)→
 ∃ mid:Heap,mid.objs.size=h.objs.size∧(∀ b∈fs,mid.get? b=h2.get? b)∧∀ b,b∉fs→mid.get? b=h.get? b
 | [],_,_=>⟨h,rfl,(fun _ hb=>nomatch hb),fun _ _=>rfl⟩
 | b::fs,h1,h2'=>by
  obtain⟨m,e1,e2,e3⟩:=Rg fs (fun c hc=>h1 c (List.mem_cons_of_mem _ hc)) (fun c hc=>h2' c (List.mem_cons_of_mem _ hc))
  obtain⟨o,ho,hf⟩:=h2' b (by simp)
  obtain⟨o1,ho1⟩:∃ o1,m.get? b=some o1:=by
   by_cases c:b∈fs
   ·exact⟨o,(e2 b c).trans ho⟩
   ·obtain⟨o1,q⟩:=h1 b (by simp)
    exact⟨o1,(e3 b c).trans q⟩
  have hb:(m.update b fun _=>o).get? b=some o:=Heap.get?_update_self (fun _=>o) ho1 hf
  refine⟨m.update b fun _=>o,(Heap.size_update ..).trans e1,fun c hc=>?_,fun c hc=>?_⟩
  ·by_cases e:c=b
   ·subst e;exact hb.trans ho.symm
   ·rw[Heap.get?_update_ne _ _ _ _ e]
    rcases List.mem_cons.mp hc with z | z
    ·exact absurd z e
    ·exact e2 c z
  ·have e:c≠b:=fun z=>hc (by simp[z])
   rw[Heap.get?_update_ne _ _ _ _ e]
   exact e3 c fun z=>hc (List.mem_cons_of_mem _ z)
section
variable {X:Cx}{pins:List (Addr×Obj)}{σ:St}{H:Hp}{s:Shared}{h':Heap}
theorem Ah.turnedL {t':Nat}{fs:List Addr}(I:Ah X pins σ H s)(k:∀ b o,b∉fs→s.heap.get? b=some o→h'.get? b=some o)(ok:∀ b∈fs,Cz X pins H b):Ah X pins σ H { s with heap:=h',toks:=t' }:=by
 have nit:∀ b u,H b=some u→b∉fs:=fun b u e z=>by rw[(ok b z).1]at e;cases e
 refine I.step (g':=s.gens) (d':=s.drawn) (ch:=fs) (fun b hb=>?_) (fun b o _ _ hc e _=>k b o hc e) (fun b o _ _ hc e _=>⟨o.slots,k b o hc e⟩) (fun _ _ _ _ n=>n)
  (fun b o hc e=>⟨o,k b o hc e⟩) (fun _ _ e=>e) (fun _ _ _ e=>e) (fun b ps e=>⟨#[],by rw[e];simp⟩) (fun m hm=>?_) (fun b u e=>?_) I.bare
 ·obtain⟨f0,f1,f2,f3,f4,f5⟩:=ok b hb
  exact⟨f3,f1,f4,f5⟩
 ·obtain⟨o,es,ep,ho,r⟩:=hm
  exact⟨o,es,ep,k _ o (fun z=>(ok _ z).2.1 rfl) ho,r⟩
 ·refine(I.hok b u e).stay (fun c v hc q=>k c v ?_ q) (fun _ q=>q) fun _ _ q=>q
  rcases hc with z | z
  ·rw[z];exact nit b u e
  ·exact nit c _ z
end
inductive Jk (H:Hp):Nat→V→V→Prop where
 | fl {n:Nat} {x:V} (h:BP x=true):Jk H n x x
 | rf {n:Nat} {a:Addr}:Jk H n (.ref a) (.ref a)
 | tp {n:Nat} {a b:Addr} {xs ys:List V} (h1:H a=some (.tup xs)) (h2:H b=some (.tup ys)) (hl:xs.length=ys.length)
  (hh:∀(j:Nat) (u v:V),xs[j]?=some u→ys[j]?=some v→Jk H n u v):Jk H (n+1) (.ref a) (.ref b)
theorem NH {x:V}(h:BP x=true):JO x x=true:=by
 cases x <;> first | rfl | exact absurd (show false=true from h) Bool.false_ne_true | simp[JO]
section
variable {X:Cx}{pins:List (Addr×Obj)}{σ:St}{H:Hp}{s:Shared}
theorem Fn {n:Nat}:(List.range n).all (fun _=>true)=true:=by simp
theorem Gr (I:Ah X pins σ H s){n:Nat}{A:Around}{xs ys:List V}{us vs:List Value}(r1:A2 xs us)(r2:A2 ys vs)
 (ih:∀(j:Nat) (u v:V),xs[j]?=some u→ys[j]?=some v→∀ u' v',Am u u'→Am v v'→SeqAt.EqAt A s u' v' true):
 ∀ j (h1:j<us.toArray.size) (h2:j<vs.toArray.size),SeqAt.EqAt A s us.toArray[j] vs.toArray[j] ((fun _=>true) j):=by
 intro j h1 h2
 have l1:=r1.length
 have l2:=r2.length
 rw[List.size_toArray]at h1 h2
 have ex:xs[j]?=some (xs[j]'(by omega)):=List.getElem?_eq_getElem _
 have ey:ys[j]?=some (ys[j]'(by omega)):=List.getElem?_eq_getElem _
 obtain⟨u,hu',ru⟩:=r1.get ex
 obtain⟨v,hv',rv⟩:=r2.get ey
 have eu:us.toArray[j]'(by simpa using h1)=u:=by
  rw[List.getElem?_eq_getElem h1]at hu'
  simpa using Option.some.inj hu'
 have ev:vs.toArray[j]'(by simpa using h2)=v:=by
  rw[List.getElem?_eq_getElem h2]at hv'
  simpa using Option.some.inj hv'
 rw[eu,ev]
 exact ih j _ _ ex ey u v ru rv
theorem Jk.at (I:Ah X pins σ H s){n:Nat}{x y:V}(h:Jk H n x y):∀{A:Around} {u v:Value},A.units+n<cLine→Am x u→Am y v→SeqAt.EqAt A s u v true:=by
 induction h with
 | fl hf=>
  intro A u v _ rx ry
  have:=Ka (A:=A) (s:=s) rx ry hf hf
  rw[NH hf]at this
  exact this
 | rf=>
  intro A u v _ rx ry
  cases rx
  cases ry
  exact SeqAt.EqAt.same _
 | @tp n a b xs ys h1 h2 hl hh ih=>
  intro A u v hu rx ry
  cases rx
  cases ry
  by_cases e:a=b
  ·subst e;exact SeqAt.EqAt.same _
  obtain⟨its,r1,p,_⟩:=I.tuple (Ao.of h1)
  obtain⟨its2,r2,p2,_⟩:=I.tuple (Ao.of h2)
  have rc:=SeqAt.RcAt.tuples (A:=A) (s:=s) (e:=fun _=>true) (show s.heap.IsTuple a its.toArray from p) (show s.heap.IsTuple b its2.toArray from p2) (by omega)
   (Gr I (n:=n) r1 r2 fun j u v e1 e2 u' v' ru rv=>ih j u v e1 e2 (A:=A.in1) (show A.units+1+n<cLine by omega) ru rv)
  rw[List.size_toArray,List.size_toArray,← r1.length,← r2.length,Fn,hl]at rc
  exact SeqAt.EqAt.of_refs e (by simpa using rc)
end
section
variable {prog:Program}{w:World}{A:Around}{E:Value→Shared→Prop}{s:Shared}
theorem OT:typeLookup (.type "list_reverseiterator") "__len__"=pure none:=by rw[typeLookup_type,builtinLookup_eq_fast];kernel_rfl
theorem NI:typeLookup (.type "list_reverseiterator") "__length_hint__"=pure (some (.builtin "list_reverseiterator.__length_hint__")):=by rw[typeLookup_type,builtinLookup_eq_fast];kernel_rfl
theorem NJ {it l:Addr}{i:Int}{Q:Bool→Shared→Prop}(hit:s.heap.IsRevIter it l i)(h:Q false s):wpAny (model prog w) A (Builtin.List.listLengthHint (.ref it)) Q E s:=by
 unfold Builtin.List.listLengthHint
 refine wpAny_bind (wpAny_specialOf hit.typeIs OT ?_)
 wp_delta
 refine wpAny_ite_split (fun hab=>absurd hab (by nofun)) (fun _=>?_)
 refine wpAny_ite_split (fun hab=>absurd hab (by decide)) (fun _=>?_)
 refine wpAny_bind (wpAny_specialOf hit.typeIs NI ?_)
 generalize hid:("list_reverseiterator.__length_hint__":String)=id0
 wp_delta
 rw[show splitId id0=some ("list_reverseiterator","__length_hint__")from by subst hid;nofun]
 subst hid
 refine wpAny_bind (wpAny_isInstance (T:="list_reverseiterator") (b:=true) hit.typeIs (by rw[isSubtype_type];kernel_rfl) ?_)
 refine wpAny_ite_split (fun hab=>absurd hab (by decide)) (fun _=>?_)
 refine wpAny_ite_split (fun _=>?_) (fun hab=>absurd (by nofun) hab)
 refine wpAny_ite_split (fun hab=>absurd hab (by nofun)) (fun _=>?_)
 exact wpAny_pure h
end
section
variable {prog:Program}{w:World}{A:Around}{E:Value→Shared→Prop}{s:Shared}
theorem Kj {R:Result→Shared→Prop}{it l:Addr}{items:Array Value}(hh:A.handled=none)(hit:s.heap.IsRevIter it l ((items.size:Int)-1))(hl:s.heap.IsList l items)(hne:l≠it)(hn:items.size≤sizeLine)
 (S:Addr) (hSi:S≠it) (hSl:S≠l) (res:Value) (c₀:Nat) (hS:s.heap.get? S=some { cls:=.type "list",data:=.seq #[] c₀ })
 (hR:∀ h' tk acc' c',(∀ b o,b≠S→b≠it→s.heap.get? b=some o→h'.get? b=some o)→h'.get? S=some { cls:=.type "list",dict:=none,data:=.seq acc' c',slots:=#[] }→
  ItemsOf (fun i v=>items[items.size-1-i]?=some v) acc' items.size→R (.ok (.ret res)) { s with heap:=h',toks:=tk }):
 wpAny (model prog w) A.in1 (Builtin.List.listExtendWith (.ref S) (.ref it) res)
  (fun fin s'=>match fin with | .done f=>R (.ok f) s' | .again c'=>c'.quiet=true∧codeAny (model prog w) A c' R s') (fun e s'=>R (.error e) s') s:=by
 have hSf:S∉[it,l]:=fun hm=>by
  rcases List.mem_cons.mp hm with e | hm
  ·exact hSi e
  ·exact hSl (List.mem_singleton.mp hm)
 have W:=(Walks.listRev (prog:=prog) (w:=w) (A:=A.in1) hh it l hne items).toS
 unfold Builtin.List.listExtendWith
 refine wpAny_bind (wpAny_typeOf (T:="list_reverseiterator") hit.typeIs ?_)
 have h1:Builtin.List.listSameRef (.ref S) (.ref it)=false:=by simp[Builtin.List.listSameRef,hSi]
 have h2:(Value.type "list_reverseiterator"==Value.type "list")=false:=by decide
 have h3:(Value.type "list_reverseiterator"==Value.type "tuple")=false:=by decide
 simp only[h1,h2,h3,Bool.or_false,Bool.false_eq_true,if_false]
 refine wpAny_bind (wpAny_pyIter_revIter hit ?_)
 refine wpAny_bind (wpAny_holding (NJ hit ?_))
 rw[if_neg (by nofun)]
 have e0:(items.size:Int)-1-((0:Nat):Int)=(items.size:Int)-1:=by omega
 refine wpAny_pure ⟨plainId_quiet F.plain_extend_loop _,codeAny_extend_loopS W hn S hSf res items.size 0 s #[] c₀ rfl (Nat.zero_le _) ⟨Nat.zero_le _,by rw[e0];exact hit,hl⟩ hS (ItemsOf.nil _) fun s' acc' c' hm hS' hacc=>?_⟩
 rw[Moved.eq_with hm]
 refine hR s'.heap s'.toks acc' c' (fun b o hb hb2 e=>hm.heap b o (fun hmem=>?_) e) hS' hacc
 rcases List.mem_cons.mp hmem with e' | hmem
 ·exact hb e'
 ·exact hb2 (List.mem_singleton.mp hmem)
theorem Hh {R:Result→Shared→Prop}{it l:Addr}{items:Array Value}(hh:A.handled=none)(hit:s.heap.IsRevIter it l ((items.size:Int)-1))(hl:s.heap.IsList l items)(hne:l≠it)(hn:items.size≤sizeLine)
 (S:Addr) (hSi:S≠it) (hSl:S≠l) (hS:s.heap.get? S=some { cls:=.type "list",data:=.seq #[] })
 (hR:∀ h' tk acc' c',(∀ b o,b≠S→b≠it→s.heap.get? b=some o→h'.get? b=some o)→h'.get? S=some { cls:=.type "list",dict:=none,data:=.seq acc' c',slots:=#[] }→
  ItemsOf (fun i v=>items[items.size-1-i]?=some v) acc' items.size→R (.ok (.ret .none)) { s with heap:=h',toks:=tk }):
 wpAny (model prog w) A.in1 (Builtin.«list.__init__» ⟨[.ref S,.ref it],[]⟩)
  (fun fin s'=>match fin with | .done f=>R (.ok f) s' | .again c'=>c'.quiet=true∧codeAny (model prog w) A c' R s') (fun e s'=>R (.error e) s') s:=by
 show wpAny _ _ (do let old ← Builtin.List.listItems (.ref S);Builtin.List.listUpdate (.ref S) (fun _=>#[]);letGo old.toList.reverse;Builtin.List.listExtendWith (.ref S) (.ref it) .none) _ _ s
 refine wpAny_bind ?_
 unfold Builtin.List.listItems
 refine wpAny_bind (wpAny_seqItems hS rfl (wpAny_pure ?_))
 show wpAny _ _ (updateSeq S (fun _=>#[]) >>= fun _=>letGo (#[]:Array Value).toList.reverse >>= fun _=>Builtin.List.listExtendWith (.ref S) (.ref it) .none) _ _ s
 refine wpAny_bind (wpAny_updateSeq hS rfl ?_)
 have hS₂:=Heap.get?_update_self (Obj.mapSeq (fun _=>(#[]:Array Value))) hS rfl
 have oth:∀ b o,b≠S→s.heap.get? b=some o→(s.heap.update S (Obj.mapSeq (fun _=>(#[]:Array Value)))).get? b=some o:=
  fun b o hb e=>(Heap.get?_update_other _ _ (Ne.symm hb)).trans e
 refine wpAny_bind (wpAny_letGo ?_)
 refine Kj hh (hit.at fun o e=>oth _ o (Ne.symm hSi) e) (hl.at fun o e=>oth _ o (Ne.symm hSl) e) hne hn S hSi hSl .none _ hS₂ fun h' tk acc' c' hk hS' hacc=>?_
 exact hR h' tk acc' c' (fun b o hb hb2 e=>hk b o hb hb2 (oth b o hb e)) hS' hacc
theorem Hi {Q:Value→Shared→Prop}{it l:Addr}{items:Array Value}(hh:A.handled=none)(hit:s.heap.IsRevIter it l ((items.size:Int)-1))(hl:s.heap.IsList l items)(hne:l≠it)(hn:items.size≤sizeLine)
 (hQ:∀ h' tk acc' c',(∀ b o,b≠it→s.heap.get? b=some o→h'.get? b=some o)→
  h'.get? s.heap.objs.size=some { cls:=.type "list",dict:=none,data:=.seq acc' c',slots:=#[] }→ItemsOf (fun i v=>items[items.size-1-i]?=some v) acc' items.size→Q (.ref s.heap.objs.size) { s with heap:=h',toks:=tk }):
 wpAny (model prog w) A (call (.type "list") [.ref it]) Q E s:=by
 refine callType_codes (Q₁:=fun obj s₁=>obj=.ref s.heap.objs.size∧s₁={ s with heap:=s.heap.push { cls:=.type "list",data:=.seq #[] } }) F.called_list (F.typeCall_list_1 _) F.entry_list_init
  (code_list_new _ ⟨rfl,rfl⟩) fun obj s₁ h₁=>?_
 obtain⟨rfl,rfl⟩:=h₁
 have hS:(s.heap.push { cls:=.type "list",data:=.seq #[] }).get? s.heap.objs.size=some { cls:=.type "list",data:=.seq #[] }:=Heap.get?_push_size _ rfl
 have i1:s.heap.objs.size≠it:=by obtain⟨o,q,_⟩:=hit;exact Nat.ne_of_gt (Heap.lt_size q)
 have i2:s.heap.objs.size≠l:=by obtain⟨o,q,_⟩:=hl;exact Nat.ne_of_gt (Heap.lt_size q)
 refine⟨⟨_,hS,rfl⟩,F.args_list_init_2 _ _,Hh (A:=A.in1) hh (hit.at fun o e=>Heap.get?_push_of_some _ e) (hl.at fun o e=>Heap.get?_push_of_some _ e) hne hn _ i1 i2 hS fun h' tk acc' c' hk hS' hacc=>?_⟩
 exact⟨rfl,hQ h' tk acc' c' (fun b o hb e=>hk b o (Nat.ne_of_lt (Heap.lt_size e)) hb (Heap.get?_push_of_some _ e)) hS' hacc⟩
end
theorem MG {its:List Value}{acc:Array Value}(h:ItemsOf (fun i v=>its.toArray[its.toArray.size-1-i]?=some v) acc its.toArray.size):acc=its.reverse.toArray:=by
 obtain⟨h1,h2⟩:=h
 apply Array.ext'
 rw[List.toList_toArray]
 apply List.ext_getElem?
 intro j
 have hz:acc.toList.length=its.length:=by rw[Array.length_toList,h1,List.size_toArray]
 by_cases c:j<its.length
 ·have hj:acc[j]?=some (acc[j]'(by rw[h1,List.size_toArray];exact c)):=Array.getElem?_eq_getElem _
  have e:=h2 j _ hj
  rw[List.getElem?_reverse c,Array.getElem?_toList,hj,← e]
  simp
 ·rw[List.getElem?_eq_none (by omega),List.getElem?_eq_none (by rw[List.length_reverse];omega)]
section
variable {X:Cx}
def Rh (K:PySem.W.Frag)(te:TE):TE:=fun σ H Q=>te σ H fun x H1=>∃ a xs,x=.ref a∧A3 K H1 a xs∧∀ l,H1 l=none→Q (.ref l) (upd H1 l (.lst xs.reverse))
theorem Jl:bootBuiltins "reversed"=some (.type "reversed"):=by nofun
theorem Kk {e:Expr}{te:TE}{p p2 pos pos2:Pos}(hc:X.calm=true)(hg:Gl X "list")(hm:X.mg "list"=none)(hv:bootBuiltins "list"=some (.type "list"))(hg2:Gl X "reversed")(hm2:X.mg "reversed"=none)(he:PE X e te)
 (hs:starEach [e] X.env=(false,eval e X.env)::starEach [] X.env:=by rfl):
 PE X (.Call (.Name "list" p) [.Call (.Name "reversed" p2) [e] [] pos2] [] pos) (Rh X.K te):=by
 intro pins s σ H Q I h
 refine wpAny_Call_Name_kw (DJ I hg hm hv ?_)
 refine PyProof.Rows.callWith_type1 ?_ rfl rfl
 show wpAny _ _ (spliced ((false,eval (.Call (.Name "reversed" p2) [e] [] pos2) X.env)::backTo pos (starEach [] X.env))) _ _ s
 refine Calls.spliced_cons ?_
 refine wpAny_Call_Name_kw (DJ I hg2 hm2 Jl ?_)
 refine PyProof.Rows.callWith_type1 ?_ hs rfl
 rw[hs]
 show wpAny _ _ (spliced ((false,eval e X.env)::backTo pos2 (starEach [] X.env))) _ _ s
 refine Calls.spliced_cons (BZ (he pins s σ H _ I h) fun u s1 ⟨x,H1,I1,r1,q1⟩=>Calls.spliced_nil ?_)
 obtain⟨a,xs,rfl,hq,q⟩:=q1
 cases r1
 obtain⟨its,rv,pl,hz⟩:=I1.list hq
 have hlen:=rv.length
 have hl:=pl.isList
 refine call_reversed_list hl (Calls.spliced_nil ?_)
 have la:a<s1.heap.objs.size:=by obtain⟨o,z,_⟩:=hl;exact Heap.lt_size z
 refine Hi (items:=its.toArray) (I.ok.hd hc) ⟨_,Heap.get?_push_size _ rfl,rfl,rfl⟩ (hl.at fun o z=>Heap.get?_push_of_some _ z) (Nat.ne_of_lt la) (by rw[List.size_toArray];omega) fun h' tk acc' c' hk hS' hacc=>?_
 have e:=MG hacc
 subst e
 have hp:s1.heap.objs.size≤(s1.heap.push (revObj a ((its.toArray.size:Int)-1))).objs.size:=by rw[Heap.size_push];exact Nat.le_succ _
 refine⟨.ref _,_,I1.laid (t':=tk) (o:=.lst xs.reverse) (fun b o z=>hk b o (Nat.ne_of_lt (Heap.lt_size z)) (Heap.get?_push_of_some _ z)) hp ?_,rfl,q _ (I1.hok.fresh hp)⟩
 exact⟨by rw[List.length_reverse];exact hz,its.reverse,c',NG rv,hS'⟩
end
def BM (mg:Str→Option Value)(base:Heap):Prop:=
 ∃ bm o,mg "__builtins__"=some (.ref bm)∧(bm≠builtinsNs∧bm≠mainGlobals)∧base.get? bm=some o∧o.cls=.type "module"∧o.dict=some builtinsNs∧o.data=.plain
def IR (H:Hp)(q:Str)(c:Addr):Prop:=∃ o vs t,H c=some (.frz o (.own 0))∧o.data=.fields vs∧vs[1]?=some (.str q t)
def Bq (H:Hp)(P:Addr)(q:Str):Prop:=∃ ps,H P=some (.tbl ps)∧TriplesOk ps.toList∧∀ pos cv,codeAmong pos ps.toList=some cv→∃ c,cv=.ref c∧IR H q c
theorem IR.keep {H H':Hp}{q:Str}{c:Addr}(x:IR H q c)(h:∀ b o,H b=some (.frz o (.own 0))→H' b=some (.frz o (.own 0))):IR H' q c:=by
 obtain⟨o,vs,t,e,r⟩:=x
 exact⟨o,vs,t,h _ _ e,r⟩
theorem Bq.sm {H H':Hp}{P:Addr}{q:Str}(x:Bq H P q)(h:AH H H'):Bq H' P q:=by
 obtain⟨ps,e,t,k⟩:=x
 refine⟨ps,h _ _ e,t,fun pos cv z=>?_⟩
 obtain⟨c,e1,e2⟩:=k pos cv z
 exact⟨c,e1,e2.keep fun b o=>h b _⟩
theorem Bq.nil {H:Hp}{P:Addr}{q:Str}(h:H P=some (.tbl #[])):Bq H P q:=⟨#[],h,trivial,fun _ _ z=>by cases z⟩
theorem Ii {a b:Int}{ta tb:Tok}{c:Value}:∀ l:List Value,TriplesOk l→TriplesOk (l++[.int a ta,.int b tb,c]):=fun l=>by
 fun_induction TriplesOk l with
 | case1=>intro _;exact trivial
 | case2 a t b u x rest ih=>intro h;exact ih h
 | case3=>intro h;exact h.elim
theorem Kl {p:Pos}{a b:Int}{ta tb:Tok}{c cv:Value}:∀ l:List Value,TriplesOk l→codeAmong p (l++[.int a ta,.int b tb,c])=some cv→codeAmong p l=some cv∨cv=c:=fun l=>by
 fun_induction TriplesOk l with
 | case1=>
  intro _ h
  simp only[List.nil_append,codeAmong]at h
  split at h
  ·cases h;exact .inr rfl
  ·cases h
 | case2 a t b u x rest ih=>
  intro ht h
  simp only[List.cons_append,codeAmong]at h ⊢
  split at h
  ·rename_i hc;rw[if_pos hc];exact .inl h
  ·rename_i hc;rw[if_neg hc];exact ih ht h
 | case3=>intro h;exact h.elim
def Ri (H:Hp)(q:Str)(f:Addr)(params:Arguments)(body:Expr)(scope:Scope)(cl:List (Str×Addr))(pm:Value):Prop:=
 ∃ c ctv,H f=some (.frz (PySem.W.kla_obj "<lambda>" q params body scope cl pm c ctv) (.own 0))∧IR H q c
def T4 (P:Addr)(q:Str)(params:Arguments)(body:Expr)(scope:Scope)(cl:List (Str×Addr))(pm:Value):TE:=fun _ H Q=>Bq H P q∧
 ∀ f H',H f=none→(∀ b o,b≠P→H b=some o→H' b=some o)→Bq H' P q→Ri H' q f params body scope cl pm→Q (.ref f) H'
section
variable {X:Cx}{pins:List (Addr×Obj)}{σ:St}{H:Hp}{s:Shared}
theorem NK {P f c:Addr}{h1:Heap}{o oc:Obj}{ps:Array Value}{i j:Int}{ta tb:Tok}{tk:Nat}(I:Ah X pins σ H s)(hP:H P=some (.tbl ps))
 (hx:Heap.ExtBut P s.heap h1) (hge:s.heap.objs.size≤c) (hlt:c<h1.objs.size) (hf:f=h1.objs.size) (hc:h1.get? c=some oc) (htb:h1.get? P=some (PySem.W.tabObj (ps++#[.int i ta,.int j tb,.ref c])))
 (hof:o.isFreed=false):
 Ah X pins σ (upd (upd (upd H P (.tbl (ps++#[.int i ta,.int j tb,.ref c]))) c (.frz oc (.own 0))) f (.frz o (.own 0))) { s with heap:=h1.push o,toks:=tk }:=by
 subst hf
 have Plt:P<s.heap.objs.size:=I.hok.lt hP
 have hcP:c≠P:=fun z=>by rw[z]at hge;exact absurd Plt (Nat.not_lt.mpr hge)
 have hfP:h1.objs.size≠P:=fun z=>by rw[← z]at Plt;exact absurd (Nat.lt_trans Plt (Nat.lt_of_le_of_lt hge hlt)) (Nat.lt_irrefl _)
 have hfc:h1.objs.size≠c:=(Nat.ne_of_lt hlt).symm
 have other:∀ b,b<s.heap.objs.size→b≠P→(upd (upd (upd H P (.tbl (ps++#[.int i ta,.int j tb,.ref c]))) c (.frz oc (.own 0))) h1.objs.size (.frz o (.own 0))) b=H b:=fun b hb hne=>by
  rw[AT (Nat.ne_of_lt (Nat.lt_trans (Nat.lt_of_lt_of_le hb hge) hlt)),AT (Nat.ne_of_lt (Nat.lt_of_lt_of_le hb hge)),AT hne]
 have keep:∀ b u,b≠P→s.heap.get? b=some u→(h1.push o).get? b=some u:=fun b u hb e=>Heap.get?_push_of_some _ (hx b u hb e)
 have atP:(h1.push o).get? P=some (PySem.W.tabObj (ps++#[.int i ta,.int j tb,.ref c])):=Heap.get?_push_of_some _ htb
 have hPv:(upd (upd (upd H P (.tbl (ps++#[.int i ta,.int j tb,.ref c]))) c (.frz oc (.own 0))) h1.objs.size (.frz o (.own 0))) P=some (.tbl (ps++#[.int i ta,.int j tb,.ref c])):=by
  rw[AT hfP.symm,AT hcP.symm,AD]
 have nP:∀ b,H b=none→b≠P:=fun b n z=>by rw[z,hP]at n;cases n
 refine I.un (t':=tk) ⟨fun b u e n _ _=>keep b u (nP b n) e,fun b u e n _ _=>⟨u.slots,keep b u (nP b n) e⟩,fun b u e n _=>?_,fun b u e _=>?_,fun b xs e=>?_,fun b u xs e=>?_,fun b qs e=>?_⟩ fun b u e=>?_
 ·rw[other b (Heap.lt_size e) (nP b n)];exact n
 ·by_cases hb:b=P
  ·subst hb;exact⟨_,atP⟩
  ·exact⟨u,keep b u hb e⟩
 ·rw[other b (I.hok.lt e) fun z=>by rw[z,hP]at e;cases e];exact e
 ·rw[other b (I.hok.lt e) fun z=>by rw[z,hP]at e;cases e];exact e
 ·by_cases hb:b=P
  ·subst hb
   rw[hP]at e;cases e
   exact⟨_,hPv⟩
  ·exact⟨#[],by rw[other b (I.hok.lt e) hb,e];simp⟩
 ·by_cases hbf:b=h1.objs.size
  ·subst hbf
   rw[AD]at e;cases e
   exact⟨Heap.get?_push_size _ hof,_,Heap.get?_push_size _ hof⟩
  ·by_cases hbc:b=c
   ·subst hbc
    rw[AT hbf,AD]at e;cases e
    exact⟨Heap.get?_push_of_some _ hc,_,Heap.get?_push_of_some _ hc⟩
   ·by_cases hbP:b=P
    ·subst hbP
     rw[hPv]at e;cases e
     exact atP
    ·rw[AT hbf,AT hbc,AT hbP]at e
     refine(I.hok b u e).stay (fun d v hd q=>keep d v ?_ q) (fun d z=>?_) fun d xs z=>?_
     ·rcases hd with z | z
      ·rw[z];exact hbP
      ·intro y;rw[y,hP]at z;cases z
     ·rw[other d (I.hok.lt z) fun y=>by rw[y,hP]at z;cases z];exact z
     ·rw[other d (I.hok.lt z) fun y=>by rw[y,hP]at z;cases z];exact z
theorem QI {params:Arguments}{body:Expr}{scope:Scope}{pos:Pos}{c P:Addr}{clos:List (Str×Addr)}(hdef:defaultsOf params X.env=([],[]))(hcl:closureFor scope X.env=pure clos)(hcode:X.env.code=.ref c)
 (C:PySem.W.CodeHd X.base c P) (B:BM X.mg X.base):PE X (.Lambda params body scope pos) (T4 P (X.env.qual++"<lambda>") params body scope clos ((X.mg "__name__").getD .none)):=by
 intro pins s σ H Q I h
 obtain⟨⟨ps,hP,ht,hall⟩,hq⟩:=h
 obtain⟨bm,ob,b1,⟨b2,b3⟩,b4,b5,b6,b7⟩:=B
 have hPh:s.heap.get? P=some (PySem.W.tabObj ps):=I.hok P _ hP
 have hgs:=I.mod.glob.keeps I.bk
 have hgP:mainGlobals≠P:=fun q=>by
  obtain⟨o,es,ep,e,hd,_⟩:=hgs
  rw[q,hPh]at e;cases e;cases hd
 have hbP:bm≠P:=fun q=>by
  have e:=I.bk _ _ b4
  rw[q,hPh]at e;cases e;cases b5
 have hb:s.heap.BuiltinsAt X.mg P:=⟨bm,ob,b1,b2,b3,hbP,I.bk _ _ b4,b5,b6,b7⟩
 refine PySem.W.kla_eval hdef ?_
 cases hf:codeAmong pos ps.toList with
 | none=>
  refine PySem.W.kla_makeFunction (mg:=X.mg) hcl I.ok.glob hgs hcode (C.keeps I.bk) hPh ht hf hgP hb fun c' ctv h' tk hx hge hlt hrec htb=>?_
  obtain⟨c₂,oc,vs,t,e2,hoc,hd,hv⟩:=hrec
  cases e2
  have Plt:P<s.heap.objs.size:=I.hok.lt hP
  have ltf:s.heap.objs.size<h'.objs.size:=Nat.lt_of_le_of_lt hge hlt
  have fnew:H h'.objs.size=none:=I.hok.fresh (Nat.le_of_lt ltf)
  have cnew:H c'=none:=I.hok.fresh hge
  have hcP:c'≠P:=fun z=>by rw[z]at hge;exact absurd Plt (Nat.not_lt.mpr hge)
  have hfP:h'.objs.size≠P:=fun z=>by rw[← z]at Plt;exact absurd (Nat.lt_trans Plt ltf) (Nat.lt_irrefl _)
  have I2:=NK (tk:=tk) (o:=PySem.W.kla_obj "<lambda>" (X.env.qual++"<lambda>") params body scope clos ((X.mg "__name__").getD .none) c' ctv) I hP hx hge hlt rfl hoc htb rfl
  have hfc:c'≠h'.objs.size:=Nat.ne_of_lt hlt
  refine⟨.ref h'.objs.size,_,I2,rfl,hq _ _ fnew (fun b o hb e=>?_) ⟨ps++#[rawInt pos.line,rawInt pos.col,.ref c'],?_,?_,fun p cv z=>?_⟩ ⟨c',ctv,AD,oc,vs,t,?_,hd,hv⟩⟩
  ·rw[AT (Aa e fnew),AT (Aa e cnew),AT hb];exact e
  ·rw[AT hfP.symm,AT hcP.symm,AD];rfl
  ·rw[Array.toList_append];exact Ii _ ht
  ·rw[Array.toList_append]at z
   rcases Kl _ ht z with z | z
   ·obtain⟨d,e1,o,vs',t',e3,r⟩:=hall p cv z
    have ndP:d≠P:=fun y=>by rw[y,hP]at e3;cases e3
    exact⟨d,e1,o,vs',t',by rw[AT (Aa e3 fnew),AT (Aa e3 cnew),AT ndP];exact e3,r⟩
   ·exact⟨c',z,oc,vs,t,by rw[AT hfc,AD],hd,hv⟩
  ·rw[AT hfc,AD]
 | some cv=>
  obtain⟨c',rfl,o,vs,t,ec,r⟩:=hall pos cv hf
  refine PySem.W.kla_makeFunctionHit (mg:=X.mg) hcl I.ok.glob hgs hcode (C.keeps I.bk) hPh ht hf hb fun ctv h' tk hk hsz=>?_
  have fnew:H h'.objs.size=none:=I.hok.fresh hsz
  have k2:∀ b u,s.heap.get? b=some u→(h'.push (PySem.W.kla_obj "<lambda>" (X.env.qual++"<lambda>") params body scope clos ((X.mg "__name__").getD .none) c' ctv)).get? b=some u:=fun b u e=>Heap.get?_push_of_some _ (hk b u e)
  have sm:AH H (upd H h'.objs.size (.frz (PySem.W.kla_obj "<lambda>" (X.env.qual++"<lambda>") params body scope clos ((X.mg "__name__").getD .none) c' ctv) (.own 0))):=fun b u e=>by rw[AT (Aa e fnew)];exact e
  have I2:=I.laid (t':=tk) (a:=h'.objs.size) (o:=.frz (PySem.W.kla_obj "<lambda>" (X.env.qual++"<lambda>") params body scope clos ((X.mg "__name__").getD .none) c' ctv) (.own 0)) k2 hsz ⟨Heap.get?_push_size _ rfl,_,Heap.get?_push_size _ rfl⟩
  exact⟨.ref h'.objs.size,_,I2,rfl,hq _ _ fnew (fun b o _ e=>sm b o e) (Bq.sm ⟨ps,hP,ht,hall⟩ sm) ⟨c',ctv,AD,o,vs,t,sm _ _ ec,r⟩⟩
end
def OU (q:Str)(o:Obj):Bool:=match o.data with
 | .func fd=>fd.qualname==q
 | .fields vs=>(match (vs[1]?:Option Value)with
  | some (.str z _)=>z==q
  | _=>false)
 | _=>false
def kn (q:Str):Option HO→Option Obj
 | some (.frz o (.own 0))=>if OU q o=true then some o else none
 | _=>none
section
variable {q:Str}
theorem GQ {x:Option HO}{o:Obj}(h:kn q x=some o):x=some (.frz o (.own 0)):=by
 unfold kn at h
 split at h
 ·split at h
  ·cases h;rfl
  ·cases h
 ·cases h
theorem PP {H:Hp}{b:Addr}{o:Obj}(h:H b=some (.frz o (.own 0)))(w:OU q o=true):kn q (H b)=some o:=by rw[h];unfold kn;exact if_pos w
theorem NL {o:Obj}{vs:Array Value}{t:Tok}{z:Str}(d:o.data=.fields vs)(h:vs[1]?=some (.str z t)):OU q o=(z==q):=by
 unfold OU
 rw[d]
 dsimp only
 rw[h]
def Ij (q:Str)(H:Hp):Hp:=fun b=>if(kn q (H b)).isSome=true then none else H b
def put (q:Str)(H H':Hp):Hp:=fun b=>match kn q (H b)with
 | some o=>some (.frz o (.own 0))
 | none=>H' b
theorem Km {H:Hp}{b:Addr}{o:Obj}(h:kn q (H b)=some o):Ij q H b=none:=if_pos (by rw[h];rfl)
theorem Ik {H:Hp}{b:Addr}(h:kn q (H b)=none):Ij q H b=H b:=if_neg (by rw[h];exact Bool.false_ne_true)
theorem Gs {H:Hp}{b:Addr}{o:HO}(h:H b=some o)(n:kn q (some o)=none):Ij q H b=some o:=by rw[Ik (by rw[h];exact n),h]
theorem CW {H:Hp}{b:Addr}(h:H b=none):Ij q H b=none:=by
 unfold Ij
 split
 ·rfl
 ·exact h
theorem NM {H:Hp}{b:Addr}{o:HO}(h:Ij q H b=some o):H b=some o∧kn q (H b)=none:=by
 unfold Ij at h
 split at h
 ·cases h
 ·rename_i n
  refine⟨h,?_⟩
  cases w:kn q (H b)with
  | none=>rfl
  | some u=>exact absurd (by rw[w];rfl) n
theorem Kn {H H':Hp}{b:Addr}{o:Obj}(h:kn q (H b)=some o):put q H H' b=some (.frz o (.own 0)):=by
 unfold put
 rw[h]
theorem DE {H H':Hp}{b:Addr}(h:kn q (H b)=none):put q H H' b=H' b:=by
 unfold put
 rw[h]
end
structure Jm (X:Cx)(σ:St)(q:Str)(H:Hp)(base':Heap):Prop where
 sub:∀ b o,X.base.get? b=some o→base'.get? b=some o
 sz:X.base.objs.size≤base'.objs.size
 mod:Mod X.K X.mg base'
 old:Mod X.K X.mg X.base
 new:∀ b o,kn q (H b)=some o→base'.get? b=some o
 cel:∀ x c,X.env.cells.lookup x=some c→∃ v,base'.IsCell c v
 val:∀(i:Nat) (x:Str) (v:V) (c:Addr),X.N[i]?=some x→σ[i]?=some (some v)→X.env.scope.names.lookup x=some .cell→X.env.cells.lookup x=some c→∃ u,Am v u∧base'.IsCell c (some u)
 inj:∀ x y c,X.env.cells.lookup x=some c→X.env.cells.lookup y=some c→x=y
section
variable {P:Program}{w:World}{K:PySem.W.Frag}{mg:Str→Option Value}{base base':Heap}{k:Nat}{f:Addr}{fd:FuncData}{ps:List Str}{sp:Sp}
def FV (P:Program)(w:World)(K:PySem.W.Frag)(mg:Str→Option Value)(base:Heap)(k:Nat)(f:Addr)(sp:Sp):Prop:=
 ∃ fd ps oc od sl,base.get? f=some ⟨oc,od,.func fd,sl⟩∧(∀(s:Shared) (us:List Value),K.In s.heap→us.length=ps.length→BindsTo s fd ⟨us,[]⟩ (ps.zip us))∧Az P w K mg base Bd k f fd ps sp
end
theorem IS {h base base':Heap}:∀{l:List Env},h.FunFrames base l→(∀ b∈Hg l,base'.get? b=none)→h.FunFrames base' l
 | [],_,_=>trivial
 | _::_,⟨a,⟨L,o,f,n,e,d⟩,r⟩,hn=>⟨a,⟨L,o,f,hn L (by unfold Hg;rw[List.filterMap_cons,f];exact List.mem_cons_self),e,d⟩,IS r fun b hb=>hn b (by unfold Hg;rw[List.filterMap_cons,f];exact List.mem_cons_of_mem _ hb)⟩
theorem OV {q:Str}{P:Program}{w:World}{H:Hp}{h:Heap}(x:Ej P w H h):Ej P w (Ij q H) h:=fun b o e=>by
 obtain⟨e1,_⟩:=NM e
 exact(x b o e1).stay (fun _ _ _ e=>e) (fun c e=>Gs e rfl) fun c xs e=>Gs e rfl
section
variable {X:Cx}{pins:List (Addr×Obj)}{σ:St}{H:Hp}{s:Shared}{q:Str}
def QJ (X:Cx)(q:Str)(H:Hp)(s:Shared):Heap:=PySem.W.hideAll (F8 s.heap (Ij q H)) (Hg X.stack)
theorem Ko {b:Addr}{o:Obj}(e:s.heap.get? b=some o)(n:Ij q H b=none)(hb:b∉Hg X.stack):(QJ X q H s).get? b=some o:=PySem.W.hideAll_get _ (JR e n) hb
theorem QK {b:Addr}{o:Obj}(e:(QJ X q H s).get? b=some o):s.heap.get? b=some o∧Ij q H b=none:=LL (PySem.W.of_hideAll _ e)
theorem Jn:(QJ X q H s).objs.size=s.heap.objs.size:=(PySem.W.hideAll_size _ _).trans (IB _ _)
theorem Ah.wider (I:Ah X pins σ H s)(hfn:∀ x,X.fn x=true):Jm X σ q H (QJ X q H s):=by
 have nst:∀ b,b≠X.env.locals→b∉X.fs→b∉Hg X.stack:=fun b h1 h2 z=>(List.mem_cons.mp (I.stkSub b z)).elim h1 h2
 have sub:∀ b o,X.base.get? b=some o→(QJ X q H s).get? b=some o:=fun b o e=>by
  obtain⟨e1,n⟩:=I.bs b o e
  refine Ko e1 (CW n) (nst b (fun z=>?_) (I.ok.nofr e))
  have h1:=Heap.lt_size e
  rw[z]at h1
  exact absurd (Nat.lt_of_lt_of_le h1 (Nat.le_trans I.ok.bsz I.ok.above)) (Nat.lt_irrefl _)
 have cst:∀ x c,X.env.cells.lookup x=some c→c∉Hg X.stack:=fun x c e=>nst c (I.cne x c e) fun z=>by
  obtain⟨_,o,ho,_⟩:=I.ok.funs.mem z
  exact absurd (Nat.lt_of_lt_of_le (Heap.lt_size ho) (I.ok.cab x c (hfn x) e)) (Nat.lt_irrefl _)
 have cin:∀ x c v,X.env.cells.lookup x=some c→s.heap.IsCell c v→(QJ X q H s).IsCell c v:=fun x c v e ⟨o,ho,hd⟩=>⟨o,Ko ho (CW (I.freeC x c e)) (cst x c e),hd⟩
 refine⟨sub,?_,⟨I.ok.mod.kin.keeps sub,I.ok.mod.glob.keeps sub,?_,I.ok.mod.nolimit.keeps sub⟩,I.ok.mod,fun b o e=>?_,fun x c e=>?_,fun i x v c e1 e2 e3 e4=>?_,I.ok.inj⟩
 ·rw[Jn];exact Nat.le_trans I.ok.bsz I.sz
 ·obtain⟨mb,h1,h2⟩:=I.ok.mod.blt
  exact⟨mb,h1.keeps sub,h2⟩
 ·have e1:=GQ e
  refine Ko (I.hok _ _ e1).1 (Km e) fun z=>?_
  rw[I.stkFree b z]at e1;cases e1
 ·obtain⟨v,hv⟩:=I.cell x c e
  exact⟨v,cin x c v e hv⟩
 ·obtain⟨m,hn,hl⟩:=I.loc
  obtain⟨u,r,l⟩:=hl i x v e1 e2 (.inr (.inl e3))
  refine⟨u,r,?_⟩
  rcases l with⟨k,_⟩ | ⟨_,c',ec,z⟩
  ·have k':X.env.scope.names.lookup x=some .local:=k
   rw[e3]at k';cases k'
  ·rw[e4]at ec;cases ec
   exact cin x c _ e4 z
theorem Ah.envL (I:Ah X pins σ H s)(hfn:∀ x,X.fn x=true):JW X.prog X.w X.K X.mg (QJ X q H s) X.A X.stack s (Ij q H):=
 ⟨I.ok.frames,(I.wider (q:=q) hfn).mod,fun _ _ e=>QK e,Nat.le_of_eq Jn,IS I.stack fun _ hb=>PySem.W.hideAll_none _ hb,fun b hb=>CW (I.stkFree b hb),OV I.hok,I.bare⟩
theorem Ah.afterL {Q:VK}{u:Value}{s':Shared}(I:Ah X pins σ H s)(h:CE X.stack X.prog X.w (Ij q H) s (fun v H2=>(∀ b o,kn q (H b)=some o→H2 b=none)→Q v (put q H H2)) u s'):EP X pins σ Q u s':=by
 obtain⟨v,H',os,bare,un,hok,r,qq⟩:=h
 have nkn:∀ b o,H b=some o→kn q (some o)=none→kn q (H b)=none:=fun b o e n=>by rw[e];exact n
 have kfree:∀ b o,kn q (H b)=some o→s.heap.get? b=some o∧H' b=none∧s'.heap.get? b=some o:=fun b o e=>by
  have e1:=GQ e
  have e2:=(I.hok _ _ e1).1
  refine⟨e2,un.free b o e2 (Km e) (by simp),un.keep b o e2 (Km e) (fun z=>?_) (by simp)⟩
  rw[I.stkFree b z]at e1;cases e1
 refine I.after ⟨v,put q H H',os,bare,⟨fun b o e n=>un.keep b o e (CW n),fun b o e n=>un.slot b o e (CW n),fun b o e n hx=>?_,un.there,fun b xs e=>?_,fun b o w e=>?_,fun b ps e=>?_⟩,fun b o e=>?_,r,qq fun b o e=>(kfree b o e).2.1⟩
 ·rw[DE (by rw[n];rfl)];exact un.free b o e (CW n) hx
 ·rw[DE (nkn b _ e rfl)];exact un.tups b xs (Gs e rfl)
 ·cases z:kn q (H b)with
  | none=>rw[DE z];exact un.frzs b o w (by rw[Ik z];exact e)
  | some u=>
   rw[Kn z]
   rw[GQ z]at e
   exact e
 ·rw[DE (nkn b _ e rfl)];exact un.tbls b ps (Gs e rfl)
 ·cases z:kn q (H b)with
  | none=>
   rw[DE z]at e
   have np:∀ c u,H' c=some u→kn q (H c)=none:=fun c u ec=>by
    cases y:kn q (H c)with
    | none=>rfl
    | some w=>rw[(kfree c w y).2.1]at ec;cases ec
   exact(hok b o e).stay (fun _ _ _ e=>e) (fun c e=>by rw[DE (np c _ e)];exact e) fun c xs e=>by rw[DE (np c _ e)];exact e
  | some u=>
   rw[Kn z]at e;cases e
   exact⟨(kfree b u z).2.2,_,(kfree b u z).2.2⟩
end
def NN (P:Program)(w:World)(K:PySem.W.Frag)(mg:Str→Option Value)(base:Heap)(N:List Str)(q:Str)(scope:Scope)(f:Addr)(cd:Value)(cl:List (Str×Addr))(A:Around)(outer:List Env)(s:Shared)(H:Hp):Cx where
 prog:=P
 w:=w
 K:=K
 mg:=mg
 base:=base
 A:=A.deeper (PySem.W.envX q scope s.heap.objs.size f cd cl)
 N:=N
 s₀:=s
 H₀:=H
 env:=PySem.W.envX q scope s.heap.objs.size f cd cl
 outer:=outer
 stack:=PySem.W.envX q scope s.heap.objs.size f cd cl::outer
 ex:=[]
 calm:=true
 fn:=fun _=>false
 pn:=[]
 xe:=fun _ _=>False
structure NO (X:Cx)(scope:Scope)(cl:List (Str×Addr))(ps fv:List Str)(js:List Nat):Prop where
 kind:scope.kind=.function
 co:scope.isCoroutine=false
 gen:scope.isGenerator=false
 nc:∀ y∈scope.names,y.2≠.cell
 par:∀ y∈ps,scope.names.lookup y=some .local
 fr:∀ y∈scope.names,y.2=.free→y.1∈fv
 nd:(ps++fv).Nodup
 vis:∀ y∈fv,scope.names.lookup y=some .free∧X.env.scope.names.lookup y=some .cell∧(cl.lookup y).isSome=true
 cls:∀ p∈cl,X.env.cells.lookup p.1=some p.2
 sl:Paired (fun y j=>X.N[j]?=some y) fv js
theorem F0:∀(ps:List Str) (us:List Value),List.Sublist ((ps.zip us).map (·.1)) ps
 | [],_=>.slnil
 | _::_,[]=>List.nil_sublist _
 | p::ps,u::us=>.cons₂ p (F0 ps us)
theorem Jo {x:Str}{u:Value}:∀{ps:List Str} {us:List Value} {i:Nat},ps.Nodup→ps[i]?=some x→us[i]?=some u→(ps.zip us).reverse.lookup x=some u:=fun {ps us i} nd h1 h2=>by
 have hm:(x,u)∈ps.zip us:=by
  refine List.mem_of_getElem? (i:=i) ?_
  rw[List.getElem?_zip_eq_some]
  exact⟨h1,h2⟩
 have nd2:((ps.zip us).reverse.map (·.1)).Nodup:=by
  rw[List.map_reverse]
  refine List.nodup_iff_pairwise_ne.mpr (List.pairwise_reverse.mpr (List.Pairwise.imp (fun h=>Ne.symm h) (List.nodup_iff_pairwise_ne.mp ?_)))
  exact List.Nodup.sublist (F0 ps us) nd
 have go:∀ l:List (Str×Value),(l.map (·.1)).Nodup→(x,u)∈l→l.lookup x=some u:=by
  intro l
  induction l with
  | nil=>intro _ h;cases h
  | cons p r ih=>
   intro hn h
   obtain⟨y,v⟩:=p
   rw[List.map_cons,List.nodup_cons]at hn
   rcases List.mem_cons.mp h with e | e
   ·cases e;simp[List.lookup_cons]
   ·have ne:(x==y)=false:=by
     cases q:x==y with
     | false=>rfl
     | true=>exact absurd (eq_of_beq q▸List.mem_map_of_mem (f:=(·.1)) e) hn.1
    simp only[List.lookup_cons,ne]
    exact ih hn.2 e
 exact go _ nd2 (List.mem_reverse.mpr hm)
theorem Jm.lam {X:Cx}{σ:St}{Hk:Hp}{base':Heap}{k:Nat}{f c:Addr}{q:Str}{params:Arguments}{body:Expr}{scope:Scope}{cl:List (Str×Addr)}{pm ctv:Value}{ps fv:List Str}{js:List Nat}{sp:Sp}(W:Jm X σ q Hk base')
 (hf:Hk f=some (.frz (PySem.W.kla_obj "<lambda>" q params body scope cl pm c ctv) (.own 0))) (hc:IR Hk q c) (S:NO X scope cl ps fv js)
 (hbind:∀ us:List Value,us.length=ps.length→bindArgs (PySem.W.kla_fn "<lambda>" q params body scope cl pm (.ref c) ctv) ⟨us,[]⟩=pure (ps.zip us)) (len:∀ vs H Q E,sp vs H Q E→vs.length=ps.length)
 (hbody:∀(A:Around) (outer:List Env) (s:Shared) (H:Hp) (vs:List V) (Q:VK) (E:XK),Bx k (A.deeper (PySem.W.envX q scope s.heap.objs.size f (.ref c) cl))→sp vs H Q E→
  ∃ te,PE (NN X.prog X.w X.K X.mg base' (ps++fv) q scope f (.ref c) cl A outer s H) body te∧te (vs.map some++Ff js σ) H Q):FV X.prog X.w X.K X.mg base' (k+1) f sp:=by
 obtain⟨oc,vc,tc,ec,dc,qc⟩:=hc
 have bf:=W.new f _ (PP hf (show(q==q)=true from beq_self_eq_true q))
 have bc:=W.new c _ (PP ec ((NL dc qc).trans (beq_self_eq_true q)))
 refine⟨_,ps,_,_,_,bf,fun s us _ hl=>.of_eq (hbind us hl),len,fun A outer s H args us vs Q E hr e0 hb r hsp=>?_⟩
 have hl:=len _ _ _ _ hsp
 have lim:s.heap.NoLimit:=e0.mod.nolimit.keeps fun b o e=>(e0.bs b o e).1
 have hps:us.length=ps.length:=by rw[← r.length];exact hl
 refine PySem.W.kla_callFunE hr.depth (e0.bs _ _ bf).1 rfl S.co S.gen rfl ⟨c,oc,vc,tc,rfl,(e0.bs _ _ bc).1,dc,qc⟩ (hb _ _ _ _ ?_)
 refine wpAny_newFunctionEnv S.nc (fun y hy=>S.par y.1 (List.of_mem_zip hy).1) (fun h₁ hns hsb=>⟨lim.fresh _ hsb,?_⟩) S.kind
 have hk₁:∀ b o,s.heap.get? b=some o→h₁.get? b=some o:=fun b o e=>hsb.extBut b o (Nat.ne_of_lt (Heap.lt_size e)) (Heap.get?_push_of_some _ e)
 obtain⟨te,hte,hq⟩:=hbody A outer s H vs Q E (hr.deeper _) hsp
 have cellOf:∀ y cc,cl.lookup y=some cc→X.env.cells.lookup y=some cc:=fun y cc e=>S.cls (y,cc) (PySem.mem_of_lookup e)
 have noA:∀ b:Addr,b∉(NN X.prog X.w X.K X.mg base' (ps++fv) q scope f (.ref c) cl A outer s H).ex:=fun b z=>absurd (show b∈([]:List Addr)from z) (by simp)
 have I:Ah (NN X.prog X.w X.K X.mg base' (ps++fv) q scope f (.ref c) cl A outer s H) [] (vs.map some++Ff js σ) H { s with heap:=h₁,toks:=s.toks+(ps.zip us).length }:=by
  refine⟨⟨e0.mod,S.kind,rfl,rfl,Nat.le_refl _,fun y z d h1 h2=>W.inj y z d (cellOf y d h1) (cellOf z d h2),fun y hy=>?_,fun y d h=>absurd (show false=true from h) Bool.false_ne_true,fun _=>hr.hd,Around.frames_deeper e0.frames,.inr ⟨rfl,rfl⟩,fun b z=>absurd z (noA b),e0.bs,e0.bsz,
   fun b _ _=>noA b,fun b z=>absurd z (noA b),e0.funs,e0.frf⟩,rfl,e0.bare,Un.kept hk₁,⟨_,hns,fun i y v h1 h2 h3=>?_⟩,fun y d h=>?_,e0.hok.fresh (Nat.le_refl _),fun y d h=>?_,fun p hp=>absurd (show p∈([]:List (Addr×Obj))from hp) (by simp),e0.hok.kept hk₁,?_⟩
  ·have hy':scope.names.lookup y=some .cell∨scope.names.lookup y=some .free:=hy
   rcases hy' with z | z
   ·exact absurd rfl (S.nc _ (PySem.mem_of_lookup z))
   ·exact Option.isSome_iff_exists.mp (S.vis y (S.fr _ (PySem.mem_of_lookup z) rfl)).2.2
  ·have h1':(ps++fv)[i]?=some y:=h1
   by_cases hi:i<ps.length
   ·rw[List.getElem?_append_left hi]at h1'
    rw[List.getElem?_append_left (by rw[List.length_map,hl];exact hi),List.getElem?_map]at h2
    have h2':vs[i]?=some v:=by
     cases z:vs[i]? with
     | none=>rw[z]at h2;cases h2
     | some a=>rw[z]at h2;cases h2;rfl
    obtain⟨u,hu,rv⟩:=r.get h2'
    have nd:ps.Nodup:=(List.nodup_append.mp S.nd).1
    exact⟨u,rv,.inl ⟨S.par y (List.mem_of_getElem? h1'),Jo nd h1' hu⟩⟩
   ·have hi':ps.length≤i:=Nat.not_lt.mp hi
    rw[List.getElem?_append_right hi']at h1'
    rw[List.getElem?_append_right (by rw[List.length_map,hl];exact hi'),List.length_map,hl]at h2
    obtain⟨j,hj,hN⟩:=Er S.sl h1'
    have hv:σ[j]?=some (some v):=by
     unfold Ff at h2
     rw[List.getElem?_map,hj]at h2
     have z':(σ[j]?).getD none=some v:=Option.some.inj h2
     cases z:σ[j]? with
     | none=>rw[z]at z';cases z'
     | some o=>rw[z]at z';exact congrArg some z'
    obtain⟨hfree,hcell,hsome⟩:=S.vis y (List.mem_of_getElem? h1')
    obtain⟨d,hd⟩:=Option.isSome_iff_exists.mp hsome
    obtain⟨u,ru,o,ho,hdt⟩:=W.val j y v d hN hv hcell (cellOf y d hd)
    exact⟨u,ru,.inr ⟨.inr hfree,d,hd,o,hk₁ _ _ (e0.bs _ _ ho).1,hdt⟩⟩
  ·obtain⟨v,o,ho,hd⟩:=W.cel y d (cellOf y d h)
   exact⟨v,o,hk₁ _ _ (e0.bs _ _ ho).1,hd⟩
  ·obtain⟨v,o,ho,hd⟩:=W.cel y d (cellOf y d h)
   exact(e0.bs _ _ ho).2
  ·show(vs.map some++Ff js σ).length=(ps++fv).length
   have:fv.length=js.length:=Paired.length S.sl
   simp[Ff,this,hl]
 refine PySem.W.kla_codeExpr (wpAny_mono (hte [] _ _ H Q I hq) (fun v s' hs=>?_) fun e s' hs=>False.elim hs)
 obtain⟨x,H',J,rv,qv⟩:=hs
 exact⟨x,H',J.os,J.bare,J.base,J.hok,rv,qv⟩
section
variable {P:Program}{w:World}{K:PySem.W.Frag}{mg:Str→Option Value}{base:Heap}
theorem Fun.okC {x qual:Str}{st:Stmt}{f:Addr}{fd:FuncData}{N ps:List Str}{k:Nat}{sp:Sp}(F:Fun K x qual st f fd)(S:AZ N ps (AM st))(len:∀ vs H Q E,sp vs H Q E→vs.length=ps.length)
 (hbody:∀(cdv:Value) (A:Around) (outer:List Env) (s:Shared) (H:Hp) (vs:List V) (Q:VK) (E:XK),fd.code=cdv→Bx k (A.deeper (envOfC qual (AM st) s.heap.objs.size f cdv))→sp vs H Q E→
  ∃ t,JU (Gk Bd P w K mg base N qual (AM st) f cdv A outer s H E).nox (CD st) t∧t { nx:=fun _ H'=>Q .non H',rt:=Q } (EA N vs) H):Az P w K mg base Bd (k+1) f fd ps sp:=by
 obtain⟨oc,od,kV,doc,pm,an,cdv,ct,osl,rfl,lk,hcd⟩:=F.ex
 refine PL lk hcd S len fun A outer s H vs Q E hr hsp=>?_
 obtain⟨t,h,q⟩:=hbody cdv A outer s H vs Q E rfl hr hsp
 exact⟨t,h.nox,q⟩
theorem OW {x qual:Str}{st:Stmt}{f c T:Addr}{fd:FuncData}(F:Fun K x qual st f fd)(hn:PySem.W.nsIn K mainGlobals x=some (some (.ref f)))(ht:PySem.W.tabIn K x=some (c,T)):fd.code=.ref c:=by
 obtain⟨oc,od,kV,doc,pm,an,cdv,ct,osl,rfl,lk,hcd⟩:=F.ex
 unfold PySem.W.tabIn at ht
 rw[hn]at ht
 dsimp only at ht
 rw[lk]at ht
 dsimp only at ht
 split at ht
 ·rename_i c' e
  split at ht
  ·split at ht
   ·cases ht
    rfl
   ·cases ht
  ·cases ht
 ·cases ht
end
theorem QL {p:Program}{x:Str}(h:(recsOf p).any (fun e=>e.name==x)=true):∃ d,(recsOf p).find? (fun e=>e.name==x)=some d:=by
 obtain⟨d,hd,e⟩:=List.any_eq_true.mp h
 cases q:(recsOf p).find? (fun e=>e.name==x)with
 | some u=>exact⟨u,rfl⟩
 | none=>exact absurd e (by simpa using List.find?_eq_none.mp q d hd)
theorem MH {P:Program}{w:World}{K:PySem.W.Frag}{mg mb:Str→Option Value}{CX:Mg}{k:Nat}{fa a:Addr}{fd:FuncData}{x:Str}{sp:Sp}{s₁:Shared}{vs:List Value}{ns:List Int}{tabs:List (Addr×Addr)}
 (KX:K.In s₁.heap) (hns:s₁.heap.Ns mainGlobals mg) (hb:s₁.heap.Ns builtinsNs mb) (hbb:∀ x:Str,x≠"__name__"→mb x=bootBuiltins x) (hlim:s₁.heap.NoLimit) (hg:s₁.gens=#[])
 (ha:s₁.heap.get? a=some { cls:=.type "list",data:=.seq vs.toArray }) (hi:IntsAre vs ns) (hl:ns.length≤sizeLine) (hr:Bx k callerA)
 (hBM:BM mg s₁.heap) (F:∀ base:Heap,K.In base→base.Ns mainGlobals mg→(∀ q∈tabs,PySem.W.CodeHd base q.1 q.2)→BM mg base→Az P w K mg base CX k fa fd [x] sp) (hbind:∀(s:Shared) (u:Value),BindsTo s fd ⟨[u],[]⟩ [(x,u)])
 (hT:PySem.W.TabsAt tabs s₁.heap) (hKT:PySem.W.noTabs K=true)
 (hsp:∀ H:Hp,(∀ q∈tabs,H q.2=some (.tbl #[]))→A3 K H a (ns.map V.int)→sp [.ref a] H (fun v _=>v=.bl true) fun _ _ _=>False)
 (hCX:∀ H e s',CX [] H s₁ (fun _ _ _=>False) e s'→False):
 codeAny (model P w) callerA (.call (.ref fa) ⟨[.ref a],[]⟩) (fun r s'=>r=.ok (.ret (.bool true))∧OldK s₁.heap s'.heap∧s'.os=s₁.os∧AllBare s'.gens) s₁:=by
 have rv:=IM hi
 have lenV:=hi.length
 have noKT:∀ b,b∈tabs.map (·.2)→K.lookup b=none:=fun b hb=>by
  obtain⟨q,hq,rfl⟩:=List.mem_map.mp hb
  cases e:K.lookup q.2 with
  | none=>rfl
  | some o=>
   have h1:=KX _ _ e
   rw[(hT q hq).2]at h1
   cases h1
   have h2:=List.all_eq_true.mp hKT _ (PySem.W.mem_of_lookupK e)
   cases h2
 have core:∀ H:Hp,(∀ q∈tabs,H q.2=some (.tbl #[]))→(∀ b,b∉tabs.map (·.2)→H b=none∨∃ o xs,H b=some (.frz o (.lst xs)))→A3 K H a (ns.map V.int)→Ej P w H s₁.heap→(∀ b,H b≠none→b=a∨b∈tabs.map (·.2))→(H a≠none→K.lookup a=none)→
  codeAny (model P w) callerA (.call (.ref fa) ⟨[.ref a],[]⟩) (fun r s'=>r=.ok (.ret (.bool true))∧OldK s₁.heap s'.heap∧s'.os=s₁.os∧AllBare s'.gens) s₁:=by
  intro H hTb hO hS hok hA hK
  have base_of:∀{b:Addr} {o:Obj},s₁.heap.get? b=some o→H b=none→(F8 s₁.heap H).get? b=some o:=fun e n=>JR e n
  have noA:∀{b:Addr} {o:Obj} {es:Array DictEntry} {ep:Nat},s₁.heap.get? b=some o→o.data=.dict es ep→H b=none:=fun {b o es ep} e d=>by
   cases q:H b with
   | none=>rfl
   | some u=>
    rcases hA b (by rw[q];simp)with e' | e'
    ·subst e'
     rw[ha]at e;cases e
     have d':Data.seq vs.toArray _=Data.dict es ep:=d
     cases d'
    ·obtain⟨r,hr',rfl⟩:=List.mem_map.mp e'
     rw[(hT r hr').2]at e
     cases e
     cases d
  have nsK:∀{b:Addr} {m:Str→Option Value},s₁.heap.Ns b m→(F8 s₁.heap H).Ns b m:=fun {b m} ⟨o,es,ep,e,d,r⟩=>⟨o,es,ep,base_of e (noA e d),d,r⟩
  have hKb:K.In (F8 s₁.heap H):=fun b o e=>base_of (KX b o e) (by
   cases q:H b with
   | none=>rfl
   | some u=>
    rcases hA b (by rw[q];simp)with e' | e'
    ·subst e'
     rw[hK (by rw[q];simp)]at e;cases e
    ·rw[noKT b e']at e;cases e)
  have hM:Mod K mg (F8 s₁.heap H):=⟨hKb,nsK hns,⟨mb,nsK hb,hbb⟩,let ⟨mc,h1,h2⟩:=hlim;⟨mc,nsK h1,h2⟩⟩
  have e0:JW P w K mg (F8 s₁.heap H) callerA [] s₁ H:=⟨rfl,hM,fun b o e=>LL e,Nat.le_of_eq (IB _ _),trivial,fun b hb=>absurd (show b∈([]:List Addr)from hb) (by simp),hok,.of_eq hg⟩
  have noB:∀{b:Addr} {o:Obj} {n:String},s₁.heap.get? b=some o→o.cls=.type n→n≠"list"→H b=none:=fun {b o n} e d dn=>by
   cases q:H b with
   | none=>rfl
   | some u=>
    rcases hA b (by rw[q];simp)with e' | e'
    ·subst e'
     rw[ha]at e;cases e
     have d':Value.type "list"=Value.type n:=d
     cases d'
     exact absurd rfl dn
    ·obtain⟨r,hr',rfl⟩:=List.mem_map.mp e'
     rw[(hT r hr').2]at e
     cases e
     cases d
  have hCd:∀ q∈tabs,PySem.W.CodeHd (F8 s₁.heap H) q.1 q.2:=fun q hq=>by
   obtain⟨o,vs,file,tf,flags,tg,inF,text,tt,e,ec,r⟩:=(hT q hq).1
   exact⟨o,vs,file,tf,flags,tg,inF,text,tt,base_of e (noB e ec (by decide)),ec,r⟩
  have hBd:BM mg (F8 s₁.heap H):=by
   obtain⟨bm,o,b1,b2,b3,b4,b5⟩:=hBM
   exact⟨bm,o,b1,b2,base_of b3 (noB b3 b4 (by decide)),b4,b5⟩
  refine codeAny_mono ((F _ hKb (nsK hns) hCd hBd).run callerA [] s₁ H ⟨[.ref a],[]⟩ [.ref a] [.ref a] _ _ hr e0 (hbind s₁ (.ref a)) (.cons rfl .nil) (hsp H hTb hS)) fun r s' h=>?_
  cases r with
  | error e=>exact(hCX H e s' h).elim
  | ok fl=>
   cases fl with
   | next=>exact False.elim h
   | brk=>exact False.elim h
   | cont=>exact False.elim h
   | ret u=>
    obtain⟨v,H',os,bare,un,hok',r',q⟩:=h
    have q':v=.bl true:=q
    subst q'
    obtain rfl:u=Value.bool true:=r'
    refine⟨rfl,⟨fun b o e=>?_,fun b o e=>un.there b o e (by simp)⟩,os,bare⟩
    by_cases hb:b∈tabs.map (·.2)
    ·obtain⟨q,hq,rfl⟩:=List.mem_map.mp hb
     obtain⟨more,e2⟩:=un.tbls _ _ (hTb q hq)
     have e3:s'.heap.get? q.2=some { cls:=.none,data:=.fields (#[]++more) }:=hok' _ _ e2
     rw[(hT q hq).2]at e
     cases e
     obtain⟨oc,vc,file,tf,flags,tg,inF,text,tt,g1,g2,g3,g4,_⟩:=(hT q hq).1
     exact .inr (.inl ⟨⟨_,_,_,g1,g2,g3,g4⟩,rfl,_,_,rfl,e3⟩)
    ·refine .inl ?_
     rcases hO b hb with q | ⟨ob,xs,z⟩
     ·exact un.keep b o e q (fun z=>absurd (show b∈([]:List Addr)from z) (by simp)) (by simp)
     ·obtain⟨e1,_⟩:=hok b _ z
      obtain⟨e2,_⟩:=hok' b _ (un.frzs b ob _ z)
      rw[e]at e1;cases e1
      exact e2
 have nTa:a∉tabs.map (·.2):=fun hm=>by
  obtain⟨q,hq,e⟩:=List.mem_map.mp hm
  have h1:=(hT q hq).2
  rw[e,ha]at h1
  cases h1
 have tok:∀ q∈tabs,s₁.heap.get? q.2=some { cls:=.none,data:=.fields #[] }:=fun q hq=>(hT q hq).2
 cases hk:K.lookup a with
 | some o=>
  have e:=KX a o hk
  rw[ha]at e
  cases e
  refine core (fun b=>if b∈tabs.map (·.2)then some (.tbl #[])else none) (fun q hq=>if_pos (List.mem_map_of_mem hq)) (fun b hb=>.inl (if_neg hb)) (.inr ⟨_,vs.toArray,_,hk,rfl,rfl,rfl,by rw[List.size_toArray,lenV];exact hl,by simpa using rv⟩) (fun b u z=>?_) (fun b z=>?_) (fun z=>absurd (if_neg nTa) z)
  ·by_cases hb:b∈tabs.map (·.2)
   ·have z':=(if_pos hb).symm.trans z
    cases z'
    obtain⟨q,hq,rfl⟩:=List.mem_map.mp hb
    exact tok q hq
   ·have z':=(if_neg hb).symm.trans z
    cases z'
  ·by_cases hb:b∈tabs.map (·.2)
   ·exact .inr hb
   ·exact absurd (if_neg hb) z
 | none=>
  refine core (fun b=>if b∈tabs.map (·.2)then some (.tbl #[])else if b=a then some (.frz { cls:=.type "list",data:=.seq vs.toArray } (.lst (ns.map V.int)))else none) (fun q hq=>if_pos (List.mem_map_of_mem hq)) (fun b hb=>?_) (.inl (.inr ⟨{ cls:=.type "list",data:=.seq vs.toArray },(if_neg nTa).trans (if_pos rfl)⟩)) (fun b u z=>?_) (fun b z=>?_) (fun _=>hk)
  ·by_cases hba:b=a
   ·exact .inr ⟨_,_,(if_neg hb).trans (if_pos hba)⟩
   ·exact .inl ((if_neg hb).trans (if_neg hba))
  ·by_cases hb:b∈tabs.map (·.2)
   ·have z':=(if_pos hb).symm.trans z
    cases z'
    obtain⟨q,hq,rfl⟩:=List.mem_map.mp hb
    exact tok q hq
   ·by_cases hba:b=a
    ·have z':=((if_neg hb).trans (if_pos hba)).symm.trans z
     cases z'
     subst hba
     exact⟨ha,by rw[List.length_map];exact hl,vs,_,rv,ha⟩
    ·have z':=((if_neg hb).trans (if_neg hba)).symm.trans z
     cases z'
  ·by_cases hb:b∈tabs.map (·.2)
   ·exact .inr hb
   ·by_cases hba:b=a
    ·exact .inl hba
    ·exact absurd ((if_neg hb).trans (if_neg hba)) z
theorem Rj {p:Program}{loose:List Str}{mean:ExcName→Option Value}{mg mb:Str→Option Value}{h:Heap}(T:Top p loose mean mg mb h):BM mg h:=by
 obtain⟨bm,ob,b1,b2,b3,b4,b5,b6⟩:=T.bmain
 refine⟨bm,ob,b1,⟨b2,fun q=>?_⟩,b3,b4,b5,b6⟩
 obtain⟨o,es,ep,e,hd,_⟩:=T.g
 rw[q,e]at b3
 cases b3
 rw[hd]at b6
 cases b6
theorem NP {l:PySem.W.OpenLaw}{n k:Nat}{q:Program}{loose:List Str}{XP:(Str→Option Value)→Heap→Prop}{YP:World→Heap→Prop}{d:DefRec}{K:Params→PySem.W.Frag}{x:Str}
 (hn:l.most=some n) (hn2:n≤sizeLine) (hdf:d.params.defaults=[]) (hr:Bx k callerA) (hY:∀(w:World) (h:Heap),YP w h→(K w.params).In h) (hKT:∀ w:World,PySem.W.noTabs (K w.params)=true)
 (F:∀(w:World) (mean:ExcName→Option Value) (mg mb:Str→Option Value) (fa:Addr) (h:Heap),(K w.params).In h→Top q (PySem.W.looseW q loose) mean mg mb h→mg d.name=some (.ref fa)→
  ∃(fd:FuncData) (tabs:List (Addr×Addr)) (sp:Sp),(∀(s:Shared) (u:Value),BindsTo s fd ⟨[u],[]⟩ [(x,u)])∧PySem.W.TabsAt tabs h∧
   (∀(H:Hp) (a:Addr) (ns:List Int),ns.length≤n→(∀ q∈tabs,H q.2=some (.tbl #[]))→A3 (K w.params) H a (ns.map V.int)→sp [.ref a] H (fun v _=>v=.bl true) E0)∧
   ∀ base:Heap,(K w.params).In base→base.Ns mainGlobals mg→(∀ q∈tabs,PySem.W.CodeHd base q.1 q.2)→BM mg base→Az l.prog w (K w.params) mg base Bd k fa fd [x] sp):
 PySem.W.WalkO q loose XP YP l.row.toRowW d [] (fun f vs=>PySem.call f vs):=by
 refine Att.JZ hn hdf fun w s₀ s₁ mg mb fa o pm cd doc a vs ns G Y ho hd hcd hmg hobj hints hlen hg=>?_
 have KX:=hY w _ Y
 obtain⟨fd,tabs,sp,hb,hT,hS,hF⟩:=F w _ mg mb fa _ KX G.T hmg
 exact MH KX G.T.g G.T.b G.T.builtins G.T.nolimit hg hobj hints (Nat.le_trans hlen hn2) hr (Rj G.T) hF hb hT (hKT w) (fun H hO hS'=>hS H a ns hlen hO hS') fun H e s' h=>h.elim
section
variable {prog:Program}{w:World}{A:Around}{E:Value→Shared→Prop}{s:Shared}
theorem MI {z TI TO i1 i2 l1 l2:Addr}{k1 k2:Nat}{xs ys:Array Value}{x y a b:Value}{Q:Value→Shared→Prop}(D:ZipApart z TI TO i1 i2 l1 l2)
 (hz:IsZip s.heap z TI TO .none) (hTI:IsPair s.heap TI (.ref i1) (.ref i2)) (hTO:IsPair s.heap TO a b)
 (h1:s.heap.IsTupleIter i1 l1 k1) (h2:s.heap.IsTupleIter i2 l2 k2) (hl1:s.heap.IsTuple l1 xs) (hl2:s.heap.IsTuple l2 ys) (hx:xs[k1]?=some x) (hy:ys[k2]?=some y)
 (hQ:∀ h',IsZip h' z TI TO (rawInt s.heap.objs.size)→IsPair h' TO x y→h'.IsTupleIter i1 l1 (k1+1)→h'.IsTupleIter i2 l2 (k2+1)→IsPair h' s.heap.objs.size x y→h'.objs.size=s.heap.objs.size+1→
  (∀ c o,c≠z→c≠TO→c≠i1→c≠i2→s.heap.get? c=some o→h'.get? c=some o)→Q (.ref s.heap.objs.size) { s with heap:=h' }):
 wpAny (model prog w) A (Builtin.«zip.__next__» ⟨[.ref z],[]⟩) (fun fin s'=>∃ v,fin=.done (.ret v)∧Q v s') E s:=by
 show wpAny _ _ (field (.ref z) 2 >>= _) _ _ _
 refine wpAny_bind (wpAny_field hz rfl (x:=.bool false) rfl ?_)
 show wpAny _ _ (field (.ref z) 3 >>= _) _ _ _
 refine wpAny_bind (wpAny_field hz rfl (x:=.ref TI) rfl ?_)
 refine wpAny_bind (wpAny_seqItems hTI rfl ?_)
 show wpAny _ _ (Builtin.SmallTypes.ownedTupleIsFree (.ref z) >>= _) _ _ _
 refine wpAny_bind ?_
 unfold Builtin.SmallTypes.ownedTupleIsFree
 refine wpAny_bind (wpAny_field hz rfl (x:=.none) rfl (wpAny_pure ?_))
 simp only[if_true]
 refine wpAny_bind (wpAny_rule ?_)
 refine wpAny_bind (wpAny_field hz rfl (x:=.ref TO) rfl ?_)
 refine wpAny_bind (wpAny_setField_rec hz (by simp) fun h₁ hz₁ hs₁=>?_)
 replace hz₁:IsZip h₁ z TI TO .ellipsis:=hz₁
 refine wpAny_bind ?_
 simp only[List.zipIdx_cons,List.zipIdx_nil,List.forIn_cons,List.forIn_nil]
 refine wpAny_bind (wpAny_bind (wpAny_onRaise ?_))
 show wpAny _ _ (Builtin.SmallTypes.nextOf (.ref i1) >>= _) _ _ _
 refine wpAny_bind (Eu (h1.extBut hs₁.extBut D.i1z) (hl1.extBut hs₁.extBut D.l1z) hx fun h₂ h1₂ hs₂=>wpAny_pure ?_)
 have hTO₂:IsPair h₂ TO a b:=hs₂.extBut _ _ D.TOi1 (hs₁.extBut _ _ D.TOz hTO)
 refine wpAny_bind (wpAny_seqItems hTO₂ rfl ?_)
 refine wpAny_bind (wpAny_updateSeq_pair hTO₂ fun h₃ hTO₃ hs₃=>?_)
 replace hTO₃:IsPair h₃ TO x b:=hTO₃
 refine wpAny_bind (wpAny_letGo (wpAny_pure ?_))
 refine wpAny_bind (wpAny_bind (wpAny_onRaise ?_))
 show wpAny _ _ (Builtin.SmallTypes.nextOf (.ref i2) >>= _) _ _ _
 refine wpAny_bind (Eu (((h2.extBut hs₁.extBut D.i2z).extBut hs₂.extBut D.i12.symm).extBut hs₃.extBut D.TOi2.symm)
  (((hl2.extBut hs₁.extBut D.l2z).extBut hs₂.extBut D.l2i1).extBut hs₃.extBut D.l2TO) hy fun h₄ h2₄ hs₄=>wpAny_pure ?_)
 have hTO₄:IsPair h₄ TO x b:=hs₄.extBut _ _ D.TOi2 hTO₃
 refine wpAny_bind (wpAny_seqItems hTO₄ rfl ?_)
 refine wpAny_bind (wpAny_updateSeq_pair hTO₄ fun h₅ hTO₅ hs₅=>?_)
 replace hTO₅:IsPair h₅ TO x y:=hTO₅
 refine wpAny_bind (wpAny_letGo (wpAny_pure (wpAny_pure ?_)))
 refine wpAny_bind (wpAny_seqItems hTO₅ rfl ?_)
 refine wpAny_bind (wpAny_newTuple ?_)
 have hsz:h₅.objs.size=s.heap.objs.size:=by rw[hs₅.1,hs₄.1,hs₃.1,hs₂.1,hs₁.1]
 have hz₅:IsZip h₅ z TI TO .ellipsis:=hs₅.extBut _ _ D.TOz.symm (hs₄.extBut _ _ D.i2z.symm (hs₃.extBut _ _ D.TOz.symm (hs₂.extBut _ _ D.i1z.symm hz₁)))
 have hk₅:∀ c o,c≠z→c≠TO→c≠i1→c≠i2→s.heap.get? c=some o→h₅.get? c=some o:=fun c o c1 c2 c3 c4 e=>
  hs₅.extBut _ _ c2 (hs₄.extBut _ _ c4 (hs₃.extBut _ _ c2 (hs₂.extBut _ _ c3 (hs₁.extBut _ _ c1 e))))
 have h1₅:h₅.IsTupleIter i1 l1 (k1+1):=((h1₂.extBut hs₃.extBut D.TOi1.symm).extBut hs₄.extBut D.i12).extBut hs₅.extBut D.TOi1.symm
 have h2₅:h₅.IsTupleIter i2 l2 (k2+1):=h2₄.extBut hs₅.extBut D.TOi2.symm
 have hzlt:z<h₅.objs.size:=Heap.lt_size hz₅
 show wpAny _ _ (Builtin.SmallTypes.ownedTupleHandOut (.ref z) (.ref h₅.objs.size) >>= _) _ _ _
 refine wpAny_bind ?_
 unfold Builtin.SmallTypes.ownedTupleHandOut
 have hz₆:IsZip (h₅.push { cls:=.type "tuple",data:=.seq #[x,y] }) z TI TO .ellipsis:=Heap.get?_push_of_some _ hz₅
 refine wpAny_bind (wpAny_setField_rec hz₆ (by simp) fun h₇ hz₇ hs₇=>?_)
 replace hz₇:IsZip h₇ z TI TO (rawInt h₅.objs.size):=hz₇
 refine wpAny_setField_rec hz₇ (by simp) fun h₈ hz₈ hs₈=>?_
 replace hz₈:IsZip h₈ z TI TO (rawInt h₅.objs.size):=hz₈
 have up:∀ c o,c≠z→h₅.get? c=some o→h₈.get? c=some o:=fun c o c1 e=>hs₈.extBut _ _ c1 (hs₇.extBut _ _ c1 (Heap.get?_push_of_some _ e))
 have hT₈:IsPair h₈ h₅.objs.size x y:=hs₈.extBut _ _ (Nat.ne_of_gt hzlt) (hs₇.extBut _ _ (Nat.ne_of_gt hzlt) (Heap.get?_push_size _ rfl))
 have hz8:h₈.objs.size=h₅.objs.size+1:=by rw[hs₈.1,hs₇.1,Heap.size_push]
 rw[hsz]at hz₈ hT₈ hz8
 refine wpAny_pure ⟨_,rfl,?_⟩
 show Q (.ref h₅.objs.size) _
 rw[hsz]
 exact hQ h₈ hz₈ (up _ _ D.TOz hTO₅) (h1₅.at fun o e=>up _ o D.i1z e) (h2₅.at fun o e=>up _ o D.i2z e) hT₈ hz8 fun c o c1 c2 c3 c4 e=>up c o c1 (hk₅ c o c1 c2 c3 c4 e)
theorem NQ {z TI TO i1 i2 l1 l2:Addr}{k1 k2:Nat}{xs ys:Array Value}{a b:Value}{Q:Fin→Shared→Prop}(hh:A.handled=none)(D:ZipApart z TI TO i1 i2 l1 l2)
 (hz:IsZip s.heap z TI TO .none) (hTI:IsPair s.heap TI (.ref i1) (.ref i2)) (hTO:IsPair s.heap TO a b)
 (h1:s.heap.IsTupleIter i1 l1 k1) (h2:s.heap.IsTupleIter i2 l2 k2) (hl1:s.heap.IsTuple l1 xs) (hl2:s.heap.IsTuple l2 ys) (hend:xs[k1]?=none∨ys[k2]?=none)
 (hE:∀ h' e,(∀ c o,c≠z→c≠TO→c≠i1→c≠i2→s.heap.get? c=some o→h'.get? c=some o)→(∃ o,h'.get? e=some o∧o.cls=.type "StopIteration")→E (.ref e) { s with heap:=h' }):
 wpAny (model prog w) A (Builtin.«zip.__next__» ⟨[.ref z],[]⟩) Q E s:=by
 show wpAny _ _ (field (.ref z) 2 >>= _) _ _ _
 refine wpAny_bind (wpAny_field hz rfl (x:=.bool false) rfl ?_)
 show wpAny _ _ (field (.ref z) 3 >>= _) _ _ _
 refine wpAny_bind (wpAny_field hz rfl (x:=.ref TI) rfl ?_)
 refine wpAny_bind (wpAny_seqItems hTI rfl ?_)
 show wpAny _ _ (Builtin.SmallTypes.ownedTupleIsFree (.ref z) >>= _) _ _ _
 refine wpAny_bind ?_
 unfold Builtin.SmallTypes.ownedTupleIsFree
 refine wpAny_bind (wpAny_field hz rfl (x:=.none) rfl (wpAny_pure ?_))
 simp only[if_true]
 refine wpAny_bind (wpAny_rule ?_)
 refine wpAny_bind (wpAny_field hz rfl (x:=.ref TO) rfl ?_)
 refine wpAny_bind (wpAny_setField_rec hz (by simp) fun h₁ hz₁ hs₁=>?_)
 replace hz₁:IsZip h₁ z TI TO .ellipsis:=hz₁
 refine wpAny_bind ?_
 simp only[List.zipIdx_cons,List.zipIdx_nil,List.forIn_cons,List.forIn_nil]
 refine wpAny_bind (wpAny_bind (wpAny_onRaise ?_))
 show wpAny _ _ (Builtin.SmallTypes.nextOf (.ref i1) >>= _) _ _ _
 cases hx:xs[k1]? with
 | none=>
  refine wpAny_bind (IQ hh (h1.extBut hs₁.extBut D.i1z) (hl1.extBut hs₁.extBut D.l1z) hx fun h₂ e hs₂ he=>?_)
  obtain⟨oe,hoe,hce⟩:=he
  have hz₂:IsZip h₂ z TI TO .ellipsis:=hs₂ _ _ D.i1z.symm hz₁
  have hez:e≠z:=fun x=>by subst x;rw[hz₂]at hoe;cases hoe;simp at hce
  refine wpAny_setField_rec hz₂ (by simp) fun h₃ _ hs₃=>hE h₃ e (fun c o c1 _ c3 _ x=>hs₃.extBut _ _ c1 (hs₂ _ _ c3 (hs₁.extBut _ _ c1 x))) ⟨oe,hs₃.extBut _ _ hez hoe,hce⟩
 | some x=>
  have hy:ys[k2]?=none:=by rcases hend with h | h;rw[hx]at h;cases h;exact h
  refine wpAny_bind (Eu (h1.extBut hs₁.extBut D.i1z) (hl1.extBut hs₁.extBut D.l1z) hx fun h₂ h1₂ hs₂=>wpAny_pure ?_)
  have hTO₂:IsPair h₂ TO a b:=hs₂.extBut _ _ D.TOi1 (hs₁.extBut _ _ D.TOz hTO)
  refine wpAny_bind (wpAny_seqItems hTO₂ rfl ?_)
  refine wpAny_bind (wpAny_updateSeq_pair hTO₂ fun h₃ hTO₃ hs₃=>?_)
  refine wpAny_bind (wpAny_letGo (wpAny_pure ?_))
  refine wpAny_bind (wpAny_bind (wpAny_onRaise ?_))
  show wpAny _ _ (Builtin.SmallTypes.nextOf (.ref i2) >>= _) _ _ _
  refine wpAny_bind (IQ hh (((h2.extBut hs₁.extBut D.i2z).extBut hs₂.extBut D.i12.symm).extBut hs₃.extBut D.TOi2.symm)
   (((hl2.extBut hs₁.extBut D.l2z).extBut hs₂.extBut D.l2i1).extBut hs₃.extBut D.l2TO) hy fun h₄ e hs₄ he=>?_)
  obtain⟨oe,hoe,hce⟩:=he
  have hz₄:IsZip h₄ z TI TO .ellipsis:=hs₄ _ _ D.i2z.symm (hs₃.extBut _ _ D.TOz.symm (hs₂.extBut _ _ D.i1z.symm hz₁))
  have hez:e≠z:=fun x=>by subst x;rw[hz₄]at hoe;cases hoe;simp at hce
  refine wpAny_setField_rec hz₄ (by simp) fun h₅ _ hs₅=>hE h₅ e (fun c o c1 c2 c3 c4 x=>hs₅.extBut _ _ c1 (hs₄ _ _ c4 (hs₃.extBut _ _ c2 (hs₂.extBut _ _ c3 (hs₁.extBut _ _ c1 x))))) ⟨oe,hs₅.extBut _ _ hez hoe,hce⟩
theorem Il {z TI TO i1 i2 l1 l2:Addr}{k1 k2:Nat}{xs ys:Array Value}{x y a b:Value}{Q:Option Value→Shared→Prop}(D:ZipApart z TI TO i1 i2 l1 l2)
 (hz:IsZip s.heap z TI TO .none) (hTI:IsPair s.heap TI (.ref i1) (.ref i2)) (hTO:IsPair s.heap TO a b)
 (h1:s.heap.IsTupleIter i1 l1 k1) (h2:s.heap.IsTupleIter i2 l2 k2) (hl1:s.heap.IsTuple l1 xs) (hl2:s.heap.IsTuple l2 ys) (hx:xs[k1]?=some x) (hy:ys[k2]?=some y)
 (hQ:∀ h',IsZip h' z TI TO (rawInt s.heap.objs.size)→IsPair h' TO x y→h'.IsTupleIter i1 l1 (k1+1)→h'.IsTupleIter i2 l2 (k2+1)→IsPair h' s.heap.objs.size x y→h'.objs.size=s.heap.objs.size+1→
  (∀ c o,c≠z→c≠TO→c≠i1→c≠i2→s.heap.get? c=some o→h'.get? c=some o)→Q (some (.ref s.heap.objs.size)) { s with heap:=h' }):
 wpAny (model prog w) A (pyNext (.ref z)) Q E s:=by
 have hT:s.TypeIs (.ref z) "zip":=⟨_,hz,rfl⟩
 unfold pyNext
 exact wpAny_bind (wpAny_attempt (wpAny_callSpecial?_slot (name:=Str.ofString "__next__") hT F.slot_zip_next
  (wpAny_call_entry F.slot_zip_next hT F.entry_zip_next (MI D hz hTI hTO h1 h2 hl1 hl2 hx hy fun h' a1 a2 a3 a4 a5 a6 a7=>wpAny_pure (hQ h' a1 a2 a3 a4 a5 a6 a7)) (F.args_zip_next_1 _))))
theorem Jp {z TI TO i1 i2 l1 l2:Addr}{k1 k2:Nat}{xs ys:Array Value}{a b:Value}{Q:Option Value→Shared→Prop}(hh:A.handled=none)(D:ZipApart z TI TO i1 i2 l1 l2)
 (hz:IsZip s.heap z TI TO .none) (hTI:IsPair s.heap TI (.ref i1) (.ref i2)) (hTO:IsPair s.heap TO a b)
 (h1:s.heap.IsTupleIter i1 l1 k1) (h2:s.heap.IsTupleIter i2 l2 k2) (hl1:s.heap.IsTuple l1 xs) (hl2:s.heap.IsTuple l2 ys) (hend:xs[k1]?=none∨ys[k2]?=none)
 (hQ:∀ h',(∀ c o,c≠z→c≠TO→c≠i1→c≠i2→s.heap.get? c=some o→h'.get? c=some o)→Q none { s with heap:=h' }):wpAny (model prog w) A (pyNext (.ref z)) Q E s:=by
 have hT:s.TypeIs (.ref z) "zip":=⟨_,hz,rfl⟩
 unfold pyNext
 refine wpAny_bind (wpAny_attempt (wpAny_callSpecial?_slot (name:=Str.ofString "__next__") hT F.slot_zip_next
  (wpAny_call_entry F.slot_zip_next hT F.entry_zip_next (NQ hh D hz hTI hTO h1 h2 hl1 hl2 hend fun h' e hk he=>?_) (F.args_zip_next_1 _))))
 obtain⟨o,ho,hc⟩:=he
 refine wpAny_bind (wpAny_isInstance (T:="StopIteration") (b:=true) ⟨o,ho,hc⟩ isSubtype_stop ?_)
 exact wpAny_pure (hQ _ hk)
end
abbrev TH (h:Heap)(l1:Addr):Heap:=h.push { cls:=.type "tuple_iterator",data:=.fields #[.ref l1,.int 0 0] }
abbrev TJ (h:Heap)(l1 l2:Addr):Heap:=(TH h l1).push { cls:=.type "tuple_iterator",data:=.fields #[.ref l2,.int 0 0] }
abbrev TL (h:Heap)(l1 l2:Addr):Heap:=(TJ h l1 l2).push { cls:=.type "tuple",data:=.seq #[.ref h.objs.size,.ref (TH h l1).objs.size] }
abbrev TM (h:Heap)(l1 l2:Addr):Heap:=(TL h l1 l2).push { cls:=.type "tuple",data:=.seq #[.none,.none] }
abbrev QM (h:Heap)(l1 l2:Addr):Heap:=(TM h l1 l2).push { cls:=.type "zip",data:=.fields #[.none,.bool false,.bool false,.ref (TJ h l1 l2).objs.size,.ref (TL h l1 l2).objs.size] }
theorem Kq (l1 l2:Addr)(xs ys:Array Value):
 Meets (Builtin.«zip.__new__» ⟨[.type "zip",.ref l1,.ref l2],[]⟩) (fun _ R s=>s.heap.IsTuple l1 xs∧s.heap.IsTuple l2 ys∧R (.ok (.ret (.ref (TM s.heap l1 l2).objs.size))) { s with heap:=QM s.heap l1 l2 }):=
 .of_wp fun prog w A R s h=>by
  obtain⟨hp,g,d,tk,os⟩:=s;obtain⟨hl1,hl2,h⟩:=h
  have hsub:=sub_zip
  have hL1:Heap.IsTuple (Shared.heap ⟨hp,g,d,tk,os⟩) l1 xs:=hl1
  have hL2:Heap.IsTuple (Shared.heap ⟨hp.push { cls:=.type "tuple_iterator",data:=.fields #[.ref l1,.int 0 0] },g,d,tk,os⟩) l2 ys:=hl2.at fun o e=>Heap.get?_push_of_some _ e
  wp_walk using wpAny_pyIter_tuple hL1,wpAny_pyIter_tuple hL2
  exact⟨_,rfl,h⟩
section
variable {prog:Program}{w:World}{A:Around}{E:Value→Shared→Prop}{s:Shared}
theorem MJ {l1 l2:Addr}{xs ys:Array Value}{Q:Value→Shared→Prop}(hl1:s.heap.IsTuple l1 xs)(hl2:s.heap.IsTuple l2 ys)
 (h:∀ h',IsZip h' (s.heap.objs.size+4) (s.heap.objs.size+2) (s.heap.objs.size+3) .none→IsPair h' (s.heap.objs.size+2) (.ref s.heap.objs.size) (.ref (s.heap.objs.size+1))→
  IsPair h' (s.heap.objs.size+3) .none .none→h'.IsTupleIter s.heap.objs.size l1 0→h'.IsTupleIter (s.heap.objs.size+1) l2 0→h'.objs.size=s.heap.objs.size+5→
  (∀ c o,s.heap.get? c=some o→h'.get? c=some o)→Q (.ref (s.heap.objs.size+4)) { s with heap:=h' }):
 wpAny (model prog w) A (call (.type "zip") [.ref l1,.ref l2]) Q E s:=by
 refine callType_new F.called_zip (by decide) (F.typeCall_zip_2 _ _) (F.newCall_zip_2 _ _) (fun obj=>F.args_object_init_3 obj _ _) F.entry_zip_new (Kq l1 l2 xs ys) ⟨hl1,hl2,?_⟩
 have z1:(TH s.heap l1).objs.size=s.heap.objs.size+1:=Heap.size_push ..
 have z2:(TJ s.heap l1 l2).objs.size=s.heap.objs.size+2:=by rw[Heap.size_push,z1]
 have z3:(TL s.heap l1 l2).objs.size=s.heap.objs.size+3:=by rw[Heap.size_push,z2]
 have z4:(TM s.heap l1 l2).objs.size=s.heap.objs.size+4:=by rw[Heap.size_push,z3]
 have z5:(QM s.heap l1 l2).objs.size=s.heap.objs.size+5:=by rw[Heap.size_push,z4]
 have g5:(QM s.heap l1 l2).get? (TM s.heap l1 l2).objs.size=some _:=Heap.get?_push_size _ rfl
 have g4:(QM s.heap l1 l2).get? (TL s.heap l1 l2).objs.size=some _:=Heap.get?_push_of_some _ (Heap.get?_push_size _ rfl)
 have g3:(QM s.heap l1 l2).get? (TJ s.heap l1 l2).objs.size=some _:=Heap.get?_push_of_some _ (Heap.get?_push_of_some _ (Heap.get?_push_size _ rfl))
 have g2:(QM s.heap l1 l2).get? (TH s.heap l1).objs.size=some _:=Heap.get?_push_of_some _ (Heap.get?_push_of_some _ (Heap.get?_push_of_some _ (Heap.get?_push_size _ rfl)))
 have g1:(QM s.heap l1 l2).get? s.heap.objs.size=some _:=Heap.get?_push_of_some _ (Heap.get?_push_of_some _ (Heap.get?_push_of_some _ (Heap.get?_push_of_some _ (Heap.get?_push_size _ rfl))))
 show _∧_
 rw[z2,z3,z4]at g5
 rw[z1,z2]at g3
 rw[z3]at g4
 rw[z1]at g2
 rw[z4]
 exact⟨⟨_,g5,rfl⟩,h _ g5 g3 g4 ⟨_,g1,rfl,rfl⟩ ⟨_,g2,rfl,rfl⟩ z5 fun c o x=>
  Heap.get?_push_of_some _ (Heap.get?_push_of_some _ (Heap.get?_push_of_some _ (Heap.get?_push_of_some _ (Heap.get?_push_of_some _ x))))⟩
end
def Rk (K:PySem.W.Frag)(t l:Addr):It:=
 ⟨fun i H=>∃ xs ys x y,Ao K H t xs∧Ao K H l ys∧xs[i]?=some x∧ys[i]?=some y,
  fun i H v H'=>∃ x y b,(∀ xs,Ao K H t xs→xs[i]?=some x)∧(∀ ys,Ao K H l ys→ys[i]?=some y)∧H b=none∧v=.ref b∧H'=upd H b (.tup [x,y]),
  fun i H=>∃ xs ys,Ao K H t xs∧Ao K H l ys∧(xs.length≤i∨ys.length≤i)⟩
theorem MK {P:Program}{w:World}{K:PySem.W.Frag}{els:List Expr}{x1}{pt:Pos}(t l z TI TO i1 i2:Addr)(D:ZipApart z TI TO i1 i2 t l):
 KU P w K (.Tuple els x1 pt) (Rk K t l) [z,TI,TO,i1,i2] z (fun i h=>IsZip h z TI TO .none∧IsPair h TI (.ref i1) (.ref i2)∧(∃ a b,IsPair h TO a b)∧h.IsTupleIter i1 t i∧h.IsTupleIter i2 l i) where
 mem:=by simp
 obj:=fun i h st b hb=>by
  obtain⟨h1,h2,⟨_,_,h3⟩,⟨o4,h4,_,d4⟩,⟨o5,h5,_,d5⟩⟩:=st
  have hb':b=z∨b=TI∨b=TO∨b=i1∨b=i2:=by simpa using hb
  rcases hb' with rfl | rfl | rfl | rfl | rfl
  ·exact⟨_,h1,fun v z=>by cases z⟩
  ·exact⟨_,h2,fun v z=>by cases z⟩
  ·exact⟨_,h3,fun v z=>by cases z⟩
  ·exact⟨_,h4,fun v z=>by rw[d4]at z;cases z⟩
  ·exact⟨_,h5,fun v z=>by rw[d5]at z;cases z⟩
 keep:=fun i h h' st k=>by
  obtain⟨h1,h2,⟨a,b,h3⟩,h4,h5⟩:=st
  exact⟨k z (by simp) _ h1,k TI (by simp) _ h2,⟨a,b,k TO (by simp) _ h3⟩,h4.at fun o q=>k i1 (by simp) o q,h5.at fun o q=>k i2 (by simp) o q⟩
 item:=by
  intro X hP hw hK hc i pins s σ H E I hf st hg
  subst hP hw hK
  obtain⟨xs,ys,x,y,hqx,hqy,hx,hy⟩:=hg
  obtain⟨hz,hTI,⟨a,b,hTO⟩,h1,h2⟩:=st
  obtain⟨its,rv,p,_⟩:=I.tuple hqx
  obtain⟨its2,rv2,p2,_⟩:=I.tuple hqy
  obtain⟨u,hu,ru⟩:=rv.get hx
  obtain⟨v,hv,rv'⟩:=rv2.get hy
  refine Il D hz hTI hTO h1 h2 (show s.heap.IsTuple t its.toArray from p) (show s.heap.IsTuple l its2.toArray from p2) (x:=u) (y:=v) (by simpa using hu) (by simpa using hv) fun h1' hz1 hTO1 hi1 hi2 hT1 hsz1 hk1=>⟨_,rfl,?_⟩
  refine wpAny_letOwnedTupleGo_zip (s:={ s with heap:=h1' }) hz1 fun h2' hz2 hs2=>?_
  replace hs2:Heap.SameBut z h1' h2':=hs2
  have zH:z<s.heap.objs.size:=Heap.lt_size hz
  have TOH:TO<s.heap.objs.size:=Heap.lt_size hTO
  have TIH:TI<s.heap.objs.size:=Heap.lt_size hTI
  have i1H:i1<s.heap.objs.size:=by obtain⟨_,q,_⟩:=id h1;exact Heap.lt_size q
  have i2H:i2<s.heap.objs.size:=by obtain⟨_,q,_⟩:=id h2;exact Heap.lt_size q
  have hTI2:IsPair h2' TI (.ref i1) (.ref i2):=hs2.extBut _ _ D.TIz (hk1 _ _ D.TIz D.TITO D.TIi1 D.TIi2 hTI)
  have hTO2:IsPair h2' TO u v:=hs2.extBut _ _ D.TOz hTO1
  have hi12:h2'.IsTupleIter i1 t (i+1):=hi1.extBut hs2.extBut D.i1z
  have hi22:h2'.IsTupleIter i2 l (i+1):=hi2.extBut hs2.extBut D.i2z
  have hT2:IsPair h2' s.heap.objs.size u v:=hs2.extBut _ _ (Nat.ne_of_gt zH) hT1
  obtain⟨o1,ho1,_,hd1⟩:=id hi12
  obtain⟨o2,ho2,_,hd2⟩:=id hi22
  obtain⟨mid,hm1,hm2,hm3⟩:=Rg (h:=s.heap) (h2:=h2') [z,TI,TO,i1,i2] (fun b hb=>by
   have hb':b=z∨b=TI∨b=TO∨b=i1∨b=i2:=by simpa using hb
   rcases hb' with rfl | rfl | rfl | rfl | rfl
   ·exact⟨_,hz⟩
   ·exact⟨_,hTI⟩
   ·exact⟨_,hTO⟩
   ·obtain⟨o,q,_⟩:=id h1;exact⟨o,q⟩
   ·obtain⟨o,q,_⟩:=id h2;exact⟨o,q⟩) (fun b hb=>by
   have hb':b=z∨b=TI∨b=TO∨b=i1∨b=i2:=by simpa using hb
   rcases hb' with rfl | rfl | rfl | rfl | rfl
   ·exact⟨_,hz2,rfl⟩
   ·exact⟨_,hTI2,rfl⟩
   ·exact⟨_,hTO2,rfl⟩
   ·exact⟨_,ho1,Obj.isFreed_of_fields hd1⟩
   ·exact⟨_,ho2,Obj.isFreed_of_fields hd2⟩)
  have I1:Ah X pins σ H { s with heap:=mid }:=I.turnedL (t':=s.toks) (fs:=[z,TI,TO,i1,i2]) (fun b o hb q=>(hm3 b hb).trans q) hf
  have k2:∀ b o,mid.get? b=some o→h2'.get? b=some o:=fun b o q=>by
   by_cases c:b∈[z,TI,TO,i1,i2]
   ·exact(hm2 b c).symm.trans q
   ·rw[hm3 b c]at q
    have c':b≠z∧b≠TI∧b≠TO∧b≠i1∧b≠i2:=by simpa using c
    exact hs2.extBut _ _ c'.1 (hk1 _ _ c'.1 c'.2.2.1 c'.2.2.2.1 c'.2.2.2.2 q)
  have fz:mid.objs.size≤s.heap.objs.size:=by rw[hm1];exact Nat.le_refl _
  have I3:Ah X pins σ (upd H s.heap.objs.size (.tup [x,y])) { s with heap:=h2' }:=
   I1.laid (t':=s.toks) k2 fz (show BI X.prog X.w _ h2' _ (.tup [x,y])from⟨by show 2≤sizeLine;rw[sizeLine_eq];decide,[u,v],.cons ru (.cons rv' .nil),⟨_,hT2,rfl,_,rfl⟩⟩)
  refine⟨.ref s.heap.objs.size,_,I3,rfl,⟨x,y,s.heap.objs.size,(fun zs hz=>by rw[I.tuple_inj hz hqx];exact hx),(fun zs hz=>by rw[I.tuple_inj hz hqy];exact hy),I.hok.fresh (Nat.le_refl _),rfl,rfl⟩,⟨hz2,hTI2,⟨_,_,hTO2⟩,hi12,hi22⟩,fun b hb=>?_⟩
  have lt:b<s.heap.objs.size:=by
   have hb':b=z∨b=TI∨b=TO∨b=i1∨b=i2:=by simpa using hb
   rcases hb' with rfl | rfl | rfl | rfl | rfl <;> assumption
  rw[AT (Nat.ne_of_lt lt)]
  exact(hf b hb).1
 done:=by
  intro X hP hw hK hc i pins s σ H E I hf st hg
  subst hP hw hK
  obtain⟨xs,ys,hqx,hqy,hx⟩:=hg
  obtain⟨hz,hTI,⟨a,b,hTO⟩,h1,h2⟩:=st
  obtain⟨its,rv,p,_⟩:=I.tuple hqx
  obtain⟨its2,rv2,p2,_⟩:=I.tuple hqy
  have l1:=rv.length
  have l2:=rv2.length
  refine Jp (I.ok.hd hc) D hz hTI hTO h1 h2 (show s.heap.IsTuple t its.toArray from p) (show s.heap.IsTuple l its2.toArray from p2) (hx.imp (fun q=>by simp;omega) (fun q=>by simp;omega)) fun h' hk=>⟨rfl,?_⟩
  refine I.turnedL (t':=s.toks) (fs:=[z,TI,TO,i1,i2]) (fun b o hb q=>?_) hf
  have c':b≠z∧b≠TI∧b≠TO∧b≠i1∧b≠i2:=by simpa using hb
  exact hk _ _ c'.1 c'.2.2.1 c'.2.2.2.1 c'.2.2.2.2 q
 self:=fun _ _ _ _ _ st h=>wpAny_pyIter_zip st.1 h
section
variable {X:Cx}
def Rl (K:PySem.W.Frag)(ta:TA):TI:=fun σ H R=>ta σ H fun vs H1=>∃ t l,vs=[V.ref t,V.ref l]∧(∃ xs,Ao K H1 t xs)∧(∃ ys,Ao K H1 l ys)∧R (Rk K t l) H1
theorem Ld {a c:Expr}{ta:TA}{p pos pt:Pos}{els:List Expr}{x1}(hg:Gl X "zip")(hm:X.mg "zip"=none)(hv:bootBuiltins "zip"=some (.type "zip"))(ha:PA X [a,c] ta)(hs:starEach [a,c] X.env=(false,eval a X.env)::starEach [c] X.env:=by rfl)(hs2:(backTo pos (starEach [c] X.env)).any (·.1)=false:=by rfl):
 PI X (.Tuple els x1 pt) (.Call (.Name "zip" p) [a,c] [] pos) (Rl X.K ta):=by
 intro pins s σ H R I h
 refine Call_ (DJ I hg hm hv (PyProof.Rows.callWith_type1 (BZ (ha pos pins s σ H _ I h) fun us s1 zq=>?_) hs hs2))
 obtain⟨vs,H1,I1,r1,q1⟩:=zq
 obtain⟨t,l,e,⟨xs,hqx⟩,⟨ys,hqy⟩,q⟩:=q1
 subst e
 obtain⟨u,v,rfl,ru,rv⟩:=A2.two r1
 cases ru
 cases rv
 obtain⟨its,rv,pt',_⟩:=I1.tuple hqx
 obtain⟨its2,rv2,pl,_⟩:=I1.tuple hqy
 have tl:t<s1.heap.objs.size:=by obtain⟨o,q,_⟩:=(show s1.heap.IsTuple t its.toArray from pt');exact Heap.lt_size q
 have ll:l<s1.heap.objs.size:=by obtain⟨o,q,_⟩:=(show s1.heap.IsTuple l its2.toArray from pl);exact Heap.lt_size q
 refine MJ (show s1.heap.IsTuple t its.toArray from pt') (show s1.heap.IsTuple l its2.toArray from pl) fun h' hz hTI hTO hi1 hi2 hsz kp=>wpAny_pyIter_zip (s:={ s1 with heap:=h' }) hz ?_
 have I2:Ah X pins σ H1 { s1 with heap:=h' }:=I1.kept (t':=s1.toks) kp
 generalize hn:s1.heap.objs.size=n at *
 have ge:∀ b∈[n+4,n+2,n+3,n,n+1],n≤b:=fun b hb=>by
  have hb':b=n+4∨b=n+2∨b=n+3∨b=n∨b=n+1:=by simpa using hb
  rcases hb' with rfl | rfl | rfl | rfl | rfl
  ·exact Nat.le_add_right _ _
  ·exact Nat.le_add_right _ _
  ·exact Nat.le_add_right _ _
  ·exact Nat.le_refl _
  ·exact Nat.le_add_right _ _
 have D:ZipApart (n+4) (n+2) (n+3) n (n+1) t l:=by
  have a1:t<n+4:=Nat.lt_of_lt_of_le tl (Nat.le_add_right _ _)
  have a2:l<n+4:=Nat.lt_of_lt_of_le ll (Nat.le_add_right _ _)
  have b1:t<n+3:=Nat.lt_of_lt_of_le tl (Nat.le_add_right _ _)
  have b2:l<n+3:=Nat.lt_of_lt_of_le ll (Nat.le_add_right _ _)
  have c1:t<n+1:=Nat.lt_of_lt_of_le tl (Nat.le_add_right _ _)
  have c2:l<n+1:=Nat.lt_of_lt_of_le ll (Nat.le_add_right _ _)
  have nn:∀{i j:Nat},i≠j→(n+i:Nat)≠n+j:=fun h z=>h (Nat.add_left_cancel z)
  exact⟨nn (by decide),nn (by decide),nn (i:=0) (by decide),nn (by decide),nn (by decide),nn (j:=0) (by decide),nn (by decide),nn (j:=0) (by decide),nn (by decide),nn (i:=0) (by decide),
   Nat.ne_of_lt a1,Nat.ne_of_lt b1,Nat.ne_of_lt tl,Nat.ne_of_lt c1,Nat.ne_of_lt a2,Nat.ne_of_lt b2,Nat.ne_of_lt ll,Nat.ne_of_lt c2⟩
 exact⟨n+4,_,_,_,H1,rfl,I2,MK t l _ _ _ _ _ D,⟨hz,hTI,⟨_,_,hTO⟩,hi1,hi2⟩,fun b hb=>I1.fpOk (by rw[hn];exact ge b hb) (I1.hok.fresh (by rw[hn];exact ge b hb)),q⟩
end
end L2
namespace L2
open PySem PySem.Spec PyProof.Rows PySem.W
section
variable {prog:Program}{w:World}{A:Around}{E:Value→Shared→Prop}{s:Shared}
def seen (val:Nat→Str)(i:Nat):Str→Bool:=fun z=>(List.range i).any fun j=>decide (z=val j)
theorem ML (val:Nat→Str)(i:Nat):(fun k'=>seen val i k'||decide (k'=val i))=seen val (i+1):=by
 funext z
 unfold seen
 rw[List.range_succ,List.any_append]
 simp
theorem OX {val:Nat→Str}{i:Nat}(h:∀ j,j<i→val j≠val i):seen val i (val i)=false:=by
 unfold seen
 rw[List.any_eq_false]
 intro j hj
 have:=h j (List.mem_range.mp hj)
 simp only[decide_eq_true_eq]
 exact fun e=>this e.symm
theorem DF {wr:List Addr}{S:Addr}{G:Array GenState→Array GenState→Prop}(gt:∀ a b c,G a b→G b c→G a c){s s' s'':Shared}(a:Moved (S::wr) G s s')(b:Moved (S::wr) G s' s''):Moved (S::wr) G s s'':=
 ⟨fun c o h e=>b.heap c o h (a.heap c o h e),gt _ _ _ a.gens b.gens,b.drawn.trans a.drawn,b.os.trans a.os,Nat.le_trans a.toks b.toks⟩
theorem Le {wr:List Addr}{S:Addr}{G:Array GenState→Array GenState→Prop}{s s':Shared}(a:Moved wr G s s'):Moved (S::wr) G s s':=⟨fun b o h e=>a.heap b o (fun q=>h (List.mem_cons_of_mem _ q)) e,a.gens,a.drawn,a.os,a.toks⟩
theorem NR {K:Type}[DecidableEq K]{knd:KeyKind prog w K}{h h':Heap}{a:Addr}{S:K→Bool}{n:Nat}(x:Heap.SetOf knd h a S n)(k:∀ o,h.get? a=some o→h'.get? a=some o):Heap.SetOf knd h' a S n:=by
 obtain⟨o,es,ep,t,e,r⟩:=x
 exact⟨o,es,ep,t,k o e,r⟩
theorem Kr (z:Str)(t:Tok):(strKind prog w).is z (.str z t)=true:=by
 show Value.isStrOf z (.str z t)=true
 simp[Value.isStrOf]
end
section
variable {X:Cx}
theorem QN:bootBuiltins "set"=some (.type "set"):=by nofun
def Rm:List V→Hp→VK→Prop:=fun xs H Q=>∃(a p:Addr) (ys:List V),xs=[.ref a,.ref p]∧H a=some (.lst ys)∧H p=some (.tup [.ty "list",.ty "tuple"])∧Q (.bl true) H
theorem Hj:CC X (.builtin "isinstance") Rm:=by
 intro pins s σ H xs us Q I r h
 obtain⟨a,p,ys,rfl,ha,hp,q⟩:=h
 obtain⟨u,w',rfl,r1,r2⟩:=LR r
 cases r1
 cases r2
 obtain⟨_,_,n,_,h1⟩:=(show BI X.prog X.w H s.heap a (.lst ys)from I.hok a _ ha)
 obtain⟨_,its,rv',ob,ho,hcl,n,hd⟩:=I.hok p _ hp
 have e:its=[.type "list",.type "tuple"]:=by
  cases rv' with
  | cons r t=>
   cases r
   cases t with
   | cons r t=>
    cases r
    cases t
    rfl
 subst e
 obtain⟨oc,od,oda,osl⟩:=ob
 dsimp only at hcl hd
 subst hcl hd
 exact PySem.W.kia_tup PySem.W.kitx_list I.kIn ⟨_,h1,rfl⟩ ho (by unfold PySem.W.kitAny;simp[PySem.W.kitOne]) (fun z=>nomatch z) fun tk=>⟨.bl true,H,I.tok tk,rfl,q⟩
end
section
variable {X:Cx}
theorem OY (hu:X.A.units+1<cLine):EX X (compareOp .NotIn) (fun y x H Q=>∃ a o,x=.ref a∧M8 H a y o∧Q (.bl (!o.isSome)) H):=by
 intro pins s σ H x y v u Q I rx ry h
 obtain⟨a,o,rfl,g,q⟩:=h
 cases ry
 exact ON hu I g rx fun s' I'=>⟨.bl _,H,I',rfl,q⟩
end
end L2
namespace L2.PSt
open PySem PySem.Spec PyProof.Rows L2
def d0:Str:=⟨#[]⟩
theorem Lg {a b:Str}(h:a.cps.toList=b.cps.toList):a=b:=by
 cases a with
 | mk x=>
  cases b with
  | mk y=>exact congrArg Str.mk (Array.toList_inj.mp h)
section
variable {P:Program}{w:World}{A:Around}{E:Value→Shared→Prop}{s:Shared}
theorem Jq {l:Addr}{vs:List Value}{Q:List Value→Shared→Prop}(hl:IsTup s.heap l vs.toArray)
 (h:Q vs { s with heap:=(s.heap.push (seqObj "list" #[] 0)).update s.heap.objs.size (Obj.mapSeq (·++vs.toArray)) }) (hsz:vs.length≤sizeLine):
 wpAny (model P w) A (collect (.ref l)) Q E s:=by
 obtain⟨o,ho,hc,n,hd⟩:=id hl
 unfold collect
 refine wpAny_bind (wpAny_runValue (codeAny_builtin entry_proto_collect' ?_))
 show wpAny _ _ (do again (.builtin "list.__iadd__" ⟨[← newList [],.ref l],[]⟩)) _ _ s
 refine wpAny_bind (wpAny_newList (wpAny_pure ⟨Code.quiet_builtin _ (by nofun),codeAny_builtin entry_list_iadd' ?_⟩))
 show wpAny _ _ (Builtin.List.listExtendWith (.ref s.heap.objs.size) (.ref l) (.ref s.heap.objs.size)) _ _ { s with heap:=s.heap.push (seqObj "list" #[] 0) }
 unfold Builtin.List.listExtendWith
 have ho':(s.heap.push (seqObj "list" #[] 0)).get? l=some o:=Heap.get?_push_of_some _ ho
 refine wpAny_bind (wpAny_typeOf (T:="tuple") ⟨o,ho',hc⟩ ?_)
 have ht:(Value.type "tuple"==Value.type "tuple")=true:=by rfl
 rw[if_pos (by rw[ht];simp)]
 refine wpAny_bind (listItems_at ho' hd ?_)
 refine wpAny_bind (listItems_at (xs:=#[]) (n:=0) (Heap.get?_push_size _ rfl) rfl ?_)
 rw[if_neg (by simp)]
 refine wpAny_bind (listUpdate_at (xs:=#[]) (n:=0) (Heap.get?_push_size _ rfl) rfl ?_ (Nat.zero_le _) (by show(#[]++vs.toArray).size≤sizeLine+1;simp only[Array.size_append,List.size_toArray,List.length_nil];omega))
 refine wpAny_pure ?_
 show wpAny (model P w) A (do
  let o ← load s.heap.objs.size
  match o.data with
  | .seq xs _=>pure xs.toList
  | _=>unsupported "internal:collect") Q E { s with heap:=(s.heap.push (seqObj "list" #[] 0)).update s.heap.objs.size (Obj.mapSeq (·++vs.toArray)) }
 refine wpAny_bind (wpAny_load (get?_update_seq (Heap.get?_push_size _ rfl) _) ?_)
 show wpAny _ _ (pure ((#[]:Array Value)++vs.toArray).toList) Q E _
 rw[show((#[]:Array Value)++vs.toArray).toList=vs by simp]
 exact wpAny_pure h
end
end L2.PSt
namespace L2.KSt
open PySem PySem.Spec PyProof.Rows L2
def slt (p q:Str):Bool:=decide (p.cps.toList<q.cps.toList)
theorem slt_ord (k:Nat→Str):StrT.Ord (fun i j=>slt (k i) (k j)) where
 tr:=fun a b c h1 h2=>by
  simp only[slt,decide_eq_false_iff_not]at *
  exact List.not_lt.mpr (List.le_trans (List.not_lt.mp h1) (List.not_lt.mp h2))
 as:=fun a b h1=>by
  simp only[slt,decide_eq_false_iff_not,decide_eq_true_eq]at *
  exact fun z=>absurd (List.lt_trans h1 z) (List.lt_irrefl _)
def TxAt (v:Value)(z:Str):Prop:=∃ t,v=.str z t
section
variable {P:Program}{w:World}{A:Around}{E:Value→Shared→Prop}{s:Shared}
theorem slt_ask {x y:Value}{p q:Str}(hx:TxAt x p)(hy:TxAt y q){C:Bool→Shared→Prop}(h:C (slt p q) s):
 wpAny (model P w) A (keyLt' oneType' x y) C (fun _ _=>False) s:=by
 obtain⟨t,rfl⟩:=hx
 obtain⟨u,rfl⟩:=hy
 rw[keyLt'_oneType]
 exact oneLt_str h
theorem keys_kind {ks:List Value}{zs:List Str}{Q:SortKind→Shared→Prop}(h2:2≤ks.length)(r:Paired TxAt ks zs)(h:Q oneType' s):wpAny (model P w) A (keyKind' ks.toArray) Q E s:=by
 have key:∀{ks:List Value} {zs:List Str},Paired TxAt ks zs→StrsAre ks zs:=by
  intro ks zs r
  induction r with
  | nil=>exact .nil
  | cons x _ ih=>
   obtain⟨t,rfl⟩:=x
   exact .cons _ _ ih
 match ks,h2,r with
 | v1::v2::vs,_,r=>
  rw[keyKind_strs (key r)]
  exact wpAny_pure h
theorem sort_keyed {D f:Addr}{n:Nat}{vs:List Value}{R:PySem.Fin→Shared→Prop}(ho:s.heap.get? D=some (seqObj "list" vs.toArray n))(h64:vs.length<64)
 (h:∀(hh:Heap) (e1 kS:Nat),(∀ b o,b≠D→s.heap.get? b=some o→hh.get? b=some o)→s.heap.objs.size<kS→hh.get? D=some (seqObj "list" #[] e1)→hh.get? kS=some (seqObj "list" #[] 0)→wpAny (model P w) A (ksk_rest D (.ref f) false vs.toArray e1 (.ref kS)) R E { s with heap:=hh }):
 wpAny (model P w) A (Builtin.«list.sort» ⟨[.ref D],[("key",.ref f)]⟩) R E s:=by
 have hs0:sizeLine=16777216:=sizeLine_eq
 rw[show Builtin.«list.sort» ⟨[.ref D],[("key",.ref f)]⟩=ksk_tree D (.ref f) false from by ksk_a3]
 unfold ksk_tree
 refine wpAny_bind (listItems_at ho rfl (wpAny_bind (listUpdate_at ho rfl ?_ (by rw[List.size_toArray];omega) (Nat.zero_le _))))
 obtain⟨e1,ho1⟩:∃ e1,(s.heap.update D (Obj.mapSeq fun _=>#[])).get? D=some (seqObj "list" #[] e1):=⟨_,get?_update_seq ho _⟩
 refine wpAny_bind (seqEpoch_at ho1 rfl (wpAny_bind (wpAny_newTuple (wpAny_bind (wpAny_newList (wpAny_holding ?_) (Nat.zero_le _))) (by show vs.length≤_;omega))))
 refine h _ e1 _ (fun b o hb e=>Heap.get?_push_of_some _ (Heap.get?_push_of_some _ ((Heap.get?_update_ne _ _ _ _ hb).trans e))) ?_ (Heap.get?_push_of_some _ (Heap.get?_push_of_some _ ho1)) (Heap.get?_push_size _ rfl)
 show s.heap.objs.size<(Heap.push _ _).objs.size
 rw[size_push',Heap.size_update];exact Nat.lt_succ_self _
end
end L2.KSt
namespace L2
open PySem PySem.Spec PyProof.Rows
theorem OZ {q:Str}{H:Hp}:put q H (Ij q H)=H:=by
 funext b
 cases w:kn q (H b)with
 | none=>rw[DE w,Ik w]
 | some o=>rw[Kn w,GQ w]
section
variable {X:Cx}{pins:List (Addr×Obj)}{σ:St}{H:Hp}{s:Shared}{h':Heap}
theorem Ah.adopt {t':Nat}{it:Addr}{o:HO}(I:Ah X pins σ H s)(k:∀ b u,b≠it→s.heap.get? b=some u→h'.get? b=some u)(f:Cz X pins H it)
 (new:BI X.prog X.w (upd H it o) h' it o):Ah X pins σ (upd H it o) { s with heap:=h',toks:=t' }:=by
 obtain⟨f0,f1,f2,f3,f4,f5⟩:=f
 have nit:∀ b u,H b=some u→b≠it:=fun b u e z=>by rw[z,f0]at e;cases e
 refine I.step (g':=s.gens) (d':=s.drawn) (ch:=[it]) (fun b hb=>?_) (fun b o _ _ hc e _=>k b o (fun z=>hc (by simp[z])) e) (fun b o _ _ hc e _=>⟨o.slots,k b o (fun z=>hc (by simp[z])) e⟩) (fun b _ hc _ n=>by rw[AT (fun z=>hc (by simp[z]))];exact n)
  (fun b o hc e=>⟨o,k b o (fun z=>hc (by simp[z])) e⟩) (fun b _ e=>by rw[AT (nit b _ e)];exact e) (fun b _ _ e=>by rw[AT (nit b _ e)];exact e) (fun b ps e=>⟨#[],by rw[AT (nit b _ e),e];simp⟩) (fun m hm=>?_) (fun b u e=>?_) I.bare
 ·have e:b=it:=by simpa using hb
  subst e
  exact⟨f3,f1,f4,f5⟩
 ·obtain⟨o,es,ep,ho,r⟩:=hm
  exact⟨o,es,ep,k _ o (Ne.symm f1) ho,r⟩
 ·by_cases hb:b=it
  ·subst hb
   rw[AD]at e
   cases e
   exact new
  ·rw[AT hb]at e
   refine(I.hok b u e).stay (fun c v hc q=>k c v ?_ q) (fun c q=>by rw[AT (nit c _ q)];exact q) fun c xs q=>by rw[AT (nit c _ q)];exact q
   rcases hc with z | z
   ·rw[z];exact hb
   ·exact nit c _ z
end
theorem MM {X:Cx}{elt iter:Expr}{ifs:List Expr}{x y:Str}{px py tp:Pos}{kk:Nat}{pos:Pos}{scope:Scope}{cl:List (Str×Addr)}{fv:List Str}{js:List Nat}{wi:TI}{tt:TT}{te:TE}(hc:X.calm=true)(hclos:closureFor scope X.env=pure cl)
 (S2:Et X scope cl x y fv js) (hi:PI X (.Tuple [.Name x px,.Name y py] kk tp) iter wi)
 (ht:∀(C:Addr) (s₀:Shared) (H₀:Hp) (ex:List Addr) (pn:List (Addr×Obj)),PF (BG X scope cl C (x::y::fv) s₀ H₀ ex pn) ifs tt)
 (he:∀(C:Addr) (s₀:Shared) (H₀:Hp) (ex:List Addr) (pn:List (Addr×Obj)),PE (BG X scope cl C (x::y::fv) s₀ H₀ ex pn) elt te)
 (hs:∀ x,foldedSetIterable iter X.env x=pure x) {use:Option (Value→Sem Unit)} {QQ:Value→Shared→Prop} {pins:List (Addr×Obj)} {s:Shared} {σ:St} {H:Hp} {Q:VK} (I:Ah X pins σ H s) (h:NF wi (OF X.K 2 (Gc (DU 0) (Gc (DU 1) OE))) js tt te σ H Q)
 (hfin:∀(D:Addr) (s3:Shared) (H3:Hp) (fp:List Addr) (pn:List (Addr×Obj)) (N:List Str) (pins':List (Addr×Obj)) (σ':St) (H':Hp) (s':Shared),Ah X pins σ H3 s3→(∀ b∈fp,Cz X pins H3 b)→
  Ah (BG X scope cl s3.heap.objs.size N s3 H3 fp pn) pins' σ' H' s'→Q (.ref D) H'→compPost (model X.prog X.w) X.A X.xe use QQ (.ref D) s3.heap.objs.size (.ok .next) s'):
 wpAny (model X.prog X.w) X.A (comprehension (.ListComp elt [⟨.Tuple [.Name x px,.Name y py] kk tp,iter,ifs,0⟩] scope pos) scope X.env (firstIterPos [⟨.Tuple [.Name x px,.Name y py] kk tp,iter,ifs,0⟩] pos) (newList []) (firstAsync [⟨.Tuple [.Name x px,.Name y py] kk tp,iter,ifs,0⟩]) (firstIter [⟨.Tuple [.Name x px,.Name y py] kk tp,iter,ifs,0⟩] X.env) use) QQ X.xe s:=by
 have S:=S2.S
 refine wpAny_comprehension_free (use:=use) rfl hs hclos S.kind S.nm (BZ (hi pins s σ H _ I h) fun v s1 h1=>BZ h1 fun itv s2 h2=>?_)
 obtain⟨it,fp,tn,J,H2,e,I2,T,st2,f2,hW⟩:=h2
 subst e
 have hD:H2 s2.heap.objs.size=none:=I2.hok.fresh (Nat.le_refl _)
 obtain⟨W,⟨m0,w0⟩,turn⟩:=hW s2.heap.objs.size hD
 have lt2:∀ b∈fp,b<s2.heap.objs.size:=fun b hb=>by
  obtain⟨o,e,_⟩:=T.obj _ _ st2 b hb
  exact Heap.lt_size e
 refine wpAny_newObj_type (wpAny_newFunctionEnv S.nc (by intro y hy;simp at hy) (fun h₁ hns₁ hsb₁=>?_) S.kind)
 dsimp only at hns₁ hsb₁ ⊢
 have I3:Ah X pins σ (upd H2 s2.heap.objs.size (.lst [])) { s2 with heap:=s2.heap.push { cls:=.type "list",dict:=none,data:=.seq ([]:List Value).toArray } }:=I2.lnew (t':=s2.toks) .nil (Nat.zero_le _)
 generalize hS3:({ s2 with heap:=s2.heap.push { cls:=.type "list",dict:=none,data:=.seq ([]:List Value).toArray } }:Shared)=s3 at I3
 have eh:s3.heap=s2.heap.push { cls:=.type "list",dict:=none,data:=.seq ([]:List Value).toArray }:=by rw[← hS3]
 rw[← eh]at hns₁ hsb₁ ⊢
 have hsz:s3.heap.objs.size=s2.heap.objs.size+1:=by rw[eh,Heap.size_push]
 have k23:∀ b o,s2.heap.get? b=some o→s3.heap.get? b=some o:=fun b o e=>by rw[eh];exact Heap.get?_push_of_some _ e
 have k34:∀ b o,s3.heap.get? b=some o→h₁.get? b=some o:=fun b o e=>hsb₁.extBut b o (Nat.ne_of_lt (Heap.lt_size e)) (Heap.get?_push_of_some _ e)
 have f3:∀ b∈fp,Cz X pins (upd H2 s2.heap.objs.size (.lst [])) b:=fun b hb=>⟨by rw[AT (Nat.ne_of_lt (lt2 b hb))];exact(f2 b hb).1,(f2 b hb).2⟩
 have lt3:∀ b∈fp,b<s3.heap.objs.size:=fun b hb=>by rw[hsz];exact Nat.lt_succ_of_lt (lt2 b hb)
 have I4:=Ji (tk:=s3.toks) S2 I3 f3 lt3 (h₁:=h₁) (by simpa using hns₁) k34
 generalize hY:BG X scope cl s3.heap.objs.size (x::y::fv) s3 (upd H2 s2.heap.objs.size (.lst [])) fp (X.pn++pins)=Y at I4
 have hYp:Y.prog=X.prog:=by rw[← hY];rfl
 have hYw:Y.w=X.w:=by rw[← hY];rfl
 have hYK:Y.K=X.K:=by rw[← hY];rfl
 have hYA:Y.A=X.A:=by rw[← hY];rfl
 have hYc:Y.calm=true:=by rw[← hY];exact hc
 have hYe:Y.env=compEnvC scope cl s3.heap.objs.size X.env:=by rw[← hY];rfl
 have hYx:Y.xe=fun _ _=>False:=by rw[← hY];rfl
 have hYN:Y.N=x::y::fv:=by rw[← hY];rfl
 have hgY:PG Y (.Tuple [.Name x px,.Name y py] kk tp) (OF X.K 2 (Gc (DU 0) (Gc (DU 1) OE))):=by
  rw[← hYK]
  exact Mi hYc (Ci (Be (X:=Y) (i:=0) (by rw[hYN];exact S2.nd) (by rw[hYN];rfl) (.inl (by rw[hYe];exact lookup_relabel_local S.hx)) (.inr (by rw[hYe];exact lookup_relabel_local S.hx)))
   (Ci (Be (X:=Y) (i:=1) (by rw[hYN];exact S2.nd) (by rw[hYN];rfl) (.inl (by rw[hYe];exact lookup_relabel_local S2.hy)) (.inr (by rw[hYe];exact lookup_relabel_local S2.hy))) Id))
 have heY:PE Y elt te:=by rw[← hY];exact he _ _ _ _ _
 have htY:PF Y ifs tt:=by rw[← hY];exact ht _ _ _ _ _
 have stat:∀{H':Hp},(∀ b∈fp,H' b=none)→∀ b∈fp,Cz Y [] H' b:=fun {H'} hn b hb=>by
  obtain⟨g0,g1,g2,g3,g4,g5⟩:=f3 b hb
  rw[← hY]
  refine⟨hn b hb,Nat.ne_of_lt (lt3 b hb),fun z=>?_,.inl hb,fun y c e=>g4 y c (S.cell_of e),fun p hp=>g5 p (by simpa [BG]using hp)⟩
  rcases List.mem_cons.mp (I3.stkSub b z)with q | q
  ·exact g1 q
  ·exact g2 q
 have fin:∀{i:Nat} {m:Nat} {σ':St} {H':Hp} {s':Shared},Ah Y [] σ' H' s'→Q (.ref s2.heap.objs.size) H'→compPost (model X.prog X.w) X.A X.xe use QQ (.ref s2.heap.objs.size) s3.heap.objs.size (.ok .next) s':=fun {i m σ' H' s'} J q=>by
  rw[← hY]at J
  exact hfin _ _ _ _ _ _ _ _ _ _ I3 f3 J q
 have st4:∀ s4:Shared,s4={ s3 with heap:=h₁,toks:=s3.toks }→tn 0 s4.heap:=fun s4 e=>by
  subst e
  exact T.keep _ _ _ st2 fun b hb o e=>k34 b o (k23 b o e)
 have loop:codeAny (model X.prog X.w) X.A (.compLoop (.ListComp elt [⟨.Tuple [.Name x px,.Name y py] kk tp,iter,ifs,0⟩] scope pos) 0 (.ref it) (.ref s2.heap.objs.size) (compEnvC scope cl s3.heap.objs.size X.env))
  (compPost (model X.prog X.w) X.A X.xe use QQ (.ref s2.heap.objs.size) s3.heap.objs.size) { s3 with heap:=h₁,toks:=s3.toks }:=by
  refine Fy (fun n s'=>∃(i:Nat) (o1 o2:Option V) (H':Hp),Ah Y [] (o1::o2::Ff js σ) H' s'∧tn i s'.heap∧(∀ b∈fp,H' b=none)∧W i n H') ?_ m0 ⟨0,none,none,_,I4,st4 _ rfl,fun b hb=>(f3 b hb).1,w0⟩
  rintro n s5 ⟨i,o1,o2,H5,I5,st5,fr5,w5⟩
  rcases turn i n H5 w5 with⟨stop,q⟩ | ⟨go,step⟩
  ·have r:=T.done Y hYp hYw hYK hYc i [] s5 _ H5 (fun _ _=>False) I5 (stat fr5) st5 stop
   rw[hYA]at r
   refine BZ r fun r s6 zq=>?_
   obtain⟨hr,I6⟩:=zq
   subst hr
   exact fin (i:=i) (m:=n) I6 q
  ·have r:=T.item Y hYp hYw hYK hYc i [] s5 _ H5 (fun _ _=>False) I5 (stat fr5) st5 go
   rw[hYA]at r
   refine BZ r fun r s6 zq=>?_
   obtain⟨u,hr,h6⟩:=zq
   subst hr
   refine BZ h6 fun _ s7 zq=>?_
   obtain⟨y,H7,I7,r7,y7,st7,fr7⟩:=zq
   have I7':=I7.pinned (stat fr7) (T.obj _ _ st7)
   have r8:=hgY _ s7 _ H7 y u _ I7' r7 (step y _ o1 o2 y7)
   rw[hYp,hYw,hYA,hYe,hYx]at r8
   refine BZ r8 fun _ s8 zq=>?_
   obtain⟨σ8,H8,I8,⟨v1,v2,e1⟩,q8⟩:=zq
   subst e1
   have r9:=htY _ s8 _ _ _ I8 q8
   rw[hYp,hYw,hYA,hYe,hYx]at r9
   refine BZ r9 fun b s9 zq=>?_
   obtain⟨H9,I9,q9⟩:=zq
   have again:∀{σ':St} {H':Hp} {s':Shared},Ah Y ([]++Fh fp s7.heap) (some v1::some v2::Ff js σ) H' s'→(∃ m',m'<n∧W (i+1) m' H')→
    ∃ m,m<n∧∃(i:Nat) (o1 o2:Option V) (H':Hp),Ah Y [] (o1::o2::Ff js σ) H' s'∧tn i s'.heap∧(∀ b∈fp,H' b=none)∧W i m H':=fun {σ' H' s'} K7 ⟨m',hm,w7⟩=>by
    refine⟨m',hm,i+1,some v1,some v2,H',K7.unpinned,T.keep _ _ _ st7 fun b hb o e=>(K7.pin (b,o) (List.mem_append_right _ (List.mem_append_right _ (CQ hb e)))).1,fun b hb=>?_,w7⟩
    obtain⟨o,e,d⟩:=T.obj _ _ st7 b hb
    exact(K7.pin (b,o) (List.mem_append_right _ (List.mem_append_right _ (CQ hb e)))).2.1
   cases b with
   | false=>
    rw[if_neg Bool.false_ne_true]at q9 ⊢
    exact again (σ':=[]) I9 q9
   | true=>
    rw[if_pos rfl]at q9 ⊢
    have r10:=heY _ s9 _ _ _ I9 q9
    rw[hYp,hYw,hYA,hYe,hYx]at r10
    refine BZ r10 fun v s10 zq=>?_
    obtain⟨y10,H10,I10,ry,xs,hxs,hlen,m',hm,w10⟩:=zq
    have r11:=Ch (X:=Y) _ s10 _ H10 (.ref s2.heap.objs.size) [y10] (.ref s2.heap.objs.size) [v] (fun _ H'=>H'=upd H10 s2.heap.objs.size (.lst (xs++[y10]))) I10 rfl (.cons ry .nil) ⟨_,xs,y10,rfl,rfl,hxs,hlen,rfl⟩
    rw[hYp,hYw,hYA,hYx]at r11
    refine BZ r11 fun _ s11 zq=>?_
    obtain⟨_,H11,I11,_,e11⟩:=zq
    subst e11
    exact again (σ':=[]) I11 ⟨m',hm,w10⟩
 have loop':∀ s4:Shared,s4={ s3 with heap:=h₁,toks:=s3.toks }→codeAny (model X.prog X.w) X.A (.compLoop (.ListComp elt [⟨.Tuple [.Name x px,.Name y py] kk tp,iter,ifs,0⟩] scope pos) 0 (.ref it) (.ref s2.heap.objs.size) (compEnvC scope cl s3.heap.objs.size X.env))
  (compPost (model X.prog X.w) X.A X.xe use QQ (.ref s2.heap.objs.size) s3.heap.objs.size) s4:=fun s4 e=>by subst e;exact loop
 have e4:∀ t,t=s3.toks→({ s3 with heap:=h₁,toks:=t }:Shared)={ s3 with heap:=h₁,toks:=s3.toks }:=fun t e=>by rw[e]
 have fin4:∀ s4:Shared,s4={ s3 with heap:=h₁,toks:=s3.toks }→codeAny (model X.prog X.w) X.A (.compStart (.ListComp elt [⟨.Tuple [.Name x px,.Name y py] kk tp,iter,ifs,0⟩] scope pos) 0 (.ref it) (.ref s2.heap.objs.size) (compEnvC scope cl s3.heap.objs.size X.env))
  (compPost (model X.prog X.w) X.A X.xe use QQ (.ref s2.heap.objs.size) s3.heap.objs.size) s4:=fun s4 e=>
  codeAny_compStart_list (loop' s4 e) (T.self X.A 0 s4 _ _ (st4 s4 e) (loop' s4 e))
 have es:({ s2 with heap:=s2.heap.push { cls:=.type "list",dict:=none,data:=.seq ([]:List Value).toArray } }:Shared)=s3:=hS3
 refine fin4 _ ?_
 rw[← es]
 rfl
theorem IT {X:Cx}{elt iter:Expr}{ifs:List Expr}{x y:Str}{px py tp:Pos}{kk:Nat}{pos:Pos}{scope:Scope}{cl:List (Str×Addr)}{fv:List Str}{js:List Nat}{wi:TI}{tt:TT}{te:TE}(hc:X.calm=true)(hclos:closureFor scope X.env=pure cl)
 (S2:Et X scope cl x y fv js) (hi:PI X (.Tuple [.Name x px,.Name y py] kk tp) iter wi)
 (ht:∀(C:Addr) (s₀:Shared) (H₀:Hp) (ex:List Addr) (pn:List (Addr×Obj)),PF (BG X scope cl C (x::y::fv) s₀ H₀ ex pn) ifs tt)
 (he:∀(C:Addr) (s₀:Shared) (H₀:Hp) (ex:List Addr) (pn:List (Addr×Obj)),PE (BG X scope cl C (x::y::fv) s₀ H₀ ex pn) elt te)
 (hs:∀ x,foldedSetIterable iter X.env x=pure x:=by intro _;rfl):PE X (.ListComp elt [⟨.Tuple [.Name x px,.Name y py] kk tp,iter,ifs,0⟩] scope pos) (NF wi (OF X.K 2 (Gc (DU 0) (Gc (DU 1) OE))) js tt te):=by
 intro pins s σ H Q I h
 rw[eval_ListComp]
 refine MM (use:=none) hc hclos S2 hi ht he hs I h ?_
 intro L s3 H3 fp pn N pins' σ' H' s' I3 f3 J q
 obtain⟨mm,hn,_⟩:=id J.loc
 exact⟨mm,hn,fun h'' sb=>⟨.ref _,H',Go I3 f3 J sb,rfl,q⟩⟩
theorem Bh {X:Cx}{elt iter:Expr}{ifs:List Expr}{x:Str}{px pos:Pos}{scope:Scope}{cl:List (Str×Addr)}{fv:List Str}{js:List Nat}{wi:TI}{tt:TT}{te:TE}(hc:X.calm=true)(hclos:closureFor scope X.env=pure cl)
 (S:Bu X scope cl x fv js) (hi:PI X (.Name x px) iter wi)
 (ht:∀(C:Addr) (s₀:Shared) (H₀:Hp) (ex:List Addr) (pn:List (Addr×Obj)),PF (BG X scope cl C (x::fv) s₀ H₀ ex pn) ifs tt)
 (he:∀(C:Addr) (s₀:Shared) (H₀:Hp) (ex:List Addr) (pn:List (Addr×Obj)),PE (BG X scope cl C (x::fv) s₀ H₀ ex pn) elt te)
 (hs:∀ x,foldedSetIterable iter X.env x=pure x:=by intro _;rfl):PE X (.ListComp elt [⟨.Name x px,iter,ifs,0⟩] scope pos) (M3 wi js tt te):=by
 intro pins s σ H Q I h
 rw[eval_ListComp]
 refine Jc (use:=none) hc hclos S hi ht he hs I h ?_
 intro L s3 H3 fp pn N pins' σ' H' s' I3 f3 J q
 obtain⟨mm,hn,_⟩:=id J.loc
 exact⟨mm,hn,fun h'' sb=>⟨.ref _,H',Go I3 f3 J sb,rfl,q⟩⟩
end L2
namespace L2.TSt
open PySem PySem.Spec PyProof.Rows PySem.W L2
def fI (m i:Nat):Nat:=(i*5+1)%(m+1)
def Oa (m:Nat):Nat→Nat→Nat
 | 0,i=>i
 | n+1,i=>Oa m n (fI m i)
theorem Im (m a b i:Nat):Oa m (a+b) i=Oa m b (Oa m a i):=by
 induction a generalizing i with
 | zero=>rw[Nat.zero_add];rfl
 | succ a ih=>rw[Nat.succ_add];exact ih (fI m i)
def T5 (m:Nat):Nat→Nat→List Nat
 | 0,_=>[]
 | n+1,i=>i::T5 m n (fI m i)
theorem Lh {m e:Nat}:∀{n i:Nat},e∈T5 m n i→∃ k,k<n∧Oa m k i=e
 | 0,_,h=>nomatch h
 | n+1,i,h=>by
  rcases List.mem_cons.mp h with h | h
  ·exact⟨0,Nat.succ_pos _,h.symm⟩
  ·obtain⟨k,a,b⟩:=Lh h
   exact⟨k+1,Nat.succ_lt_succ a,b⟩
def UP (m:Nat):Bool:=decide (Oa m (m+1) 0=0)&&(List.range (m+1)).all fun e=>(T5 m (m+1) 0).contains e
def Mh (m:Nat):Prop:=m=7∨m=31∨m=127
theorem QO {m:Nat}(h:Mh m):UP m=true:=by
 rcases h with rfl | rfl | rfl <;> nofun
theorem T6 {m i e:Nat}(h:Mh m)(hi:i≤m)(he:e≤m):∃ k,k≤m∧Oa m k i=e:=by
 have h:=QO h
 unfold UP at h
 rw[Bool.and_eq_true,decide_eq_true_eq,List.all_eq_true]at h
 have f:∀ x,x≤m→∃ k,k<m+1∧Oa m k 0=x:=fun x hx=>Lh (List.elem_iff.mp (h.2 x (List.mem_range.mpr (Nat.lt_succ_of_le hx))))
 obtain⟨a,ha,ea⟩:=f i hi
 obtain⟨b,hb,eb⟩:=f e he
 by_cases c:a≤b
 ·refine⟨b-a,by omega,?_⟩
  rw[← ea,← Im,Nat.add_sub_cancel' c,eb]
 ·refine⟨b+(m+1)-a,by omega,?_⟩
  rw[← ea,← Im,show a+(b+(m+1)-a)=(m+1)+b by omega,Im,h.1,eb]
def lp (m:Nat):Nat→Nat×Nat→Nat×Nat
 | 0,p=>p
 | n+1,p=>lp m n (SetTable.leap m p.1 p.2)
theorem PQ {m:Nat}:∀(n:Nat) {p:Nat×Nat},p.1≤m→(lp m n p).1≤m
 | 0,_,h=>h
 | n+1,p,_=>PQ n (Nat.le_of_lt_succ (Nat.mod_lt _ (Nat.succ_pos _)))
theorem Rn {m:Nat}:∀(n i:Nat),lp m n (i,0)=(Oa m n i,0)
 | 0,i=>rfl
 | n+1,i=>by
  show lp m n (SetTable.leap m i 0)=_
  rw[show SetTable.leap m i 0=(fI m i,0)by simp[SetTable.leap,fI]]
  exact Rn n _
theorem NS {m:Nat}:∀(a b:Nat) (p:Nat×Nat),lp m (a+b) p=lp m b (lp m a p)
 | 0,b,p=>by rw[Nat.zero_add];rfl
 | a+1,b,p=>by rw[Nat.succ_add];exact NS a b _
theorem Ro {m:Nat}:∀(n:Nat) (p:Nat×Nat),(lp m n p).2=p.2 / 32 ^ n
 | 0,p=>by rw[Nat.pow_zero,Nat.div_one];rfl
 | n+1,p=>by
  show(lp m n (SetTable.leap m p.1 p.2)).2=_
  rw[Ro n,show(SetTable.leap m p.1 p.2).2=p.2 / 32 from rfl,Nat.div_div_eq_div_mul,Nat.pow_succ,Nat.mul_comm 32]
theorem Li {m:Nat}{p:Nat×Nat}(h:Mh m)(hi:p.1≤m)(hp:p.2<2 ^ 64){e:Nat}(he:e≤m):∃ k,1≤k∧k≤m+13∧(lp m k p).1=e:=by
 have z:(lp m 13 p).2=0:=by rw[Ro];exact Nat.div_eq_of_lt (Nat.lt_trans hp (by decide))
 obtain⟨k,hk,ek⟩:=T6 h (PQ 13 hi) he
 refine⟨13+k,by omega,by omega,?_⟩
 rw[NS,show lp m 13 p=((lp m 13 p).1,0)by rw[← z],Rn]
 exact ek
def Io (t:SetTable):Nat→SetTable.Probe→SetTable.Probe
 | 0,p=>p
 | n+1,p=>Io t n (t.advance p)
theorem Lj (t:SetTable):∀(a b:Nat) (p:SetTable.Probe),Io t (a+b) p=Io t b (Io t a p)
 | 0,b,p=>by rw[Nat.zero_add];rfl
 | a+1,b,p=>by rw[Nat.succ_add];exact Lj t a b _
theorem Dd (t:SetTable):∀(n:Nat) (p:SetTable.Probe),p.more=n→Io t (n+1) p={ p with j:=(SetTable.leap t.mask p.i p.perturb).1,more:=SetTable.runEnd t.mask (SetTable.leap t.mask p.i p.perturb).1-(SetTable.leap t.mask p.i p.perturb).1,i:=(SetTable.leap t.mask p.i p.perturb).1,perturb:=(SetTable.leap t.mask p.i p.perturb).2 }
 | 0,p,h=>by
  show t.advance p=_
  unfold SetTable.advance
  rw[if_neg (by omega)]
 | n+1,p,h=>by
  show Io t (n+1) (t.advance p)=_
  have e:t.advance p={ p with j:=p.j+1,more:=p.more-1 }:=by
   unfold SetTable.advance
   rw[if_pos (by omega)]
  rw[Dd t n _ (by rw[e];show p.more-1=n;omega),e]
theorem Ip (m i:Nat):SetTable.runEnd m i-i≤9:=by unfold SetTable.runEnd;split <;> omega
theorem NT (t:SetTable):∀(k:Nat) (p:SetTable.Probe),p.more≤9→∃ n,n≤10*(k+1)∧(Io t n p).j=(lp t.mask (k+1) (p.i,p.perturb)).1∧(Io t n p).i=(lp t.mask (k+1) (p.i,p.perturb)).1∧(Io t n p).perturb=(lp t.mask (k+1) (p.i,p.perturb)).2∧(Io t n p).more≤9
 | 0,p,h=>⟨p.more+1,by omega,by rw[Dd t _ p rfl];rfl,by rw[Dd t _ p rfl];rfl,by rw[Dd t _ p rfl];rfl,by rw[Dd t _ p rfl];exact Ip _ _⟩
 | k+1,p,h=>by
  obtain⟨n,a,b,c,d,e⟩:=NT t k _ (show(Io t (p.more+1) p).more≤9 by rw[Dd t _ p rfl];exact Ip _ _)
  refine⟨p.more+1+n,by omega,?_⟩
  rw[Lj]
  have q:lp t.mask (k+1) ((Io t (p.more+1) p).i,(Io t (p.more+1) p).perturb)=lp t.mask (k+1+1) (p.i,p.perturb):=by rw[Dd t _ p rfl];rfl
  rw[q]at b c d
  exact⟨b,c,d,e⟩
structure OA (t:SetTable)(p:SetTable.Probe):Prop where
 hi:p.i≤t.mask
 hp:p.perturb<2 ^ 64
 hm:p.more≤9
 hd:p.dummy=none
theorem OA.next {t:SetTable}{p:SetTable.Probe}(h:OA t p):OA t (t.advance p):=by
 unfold SetTable.advance
 split
 ·exact⟨h.hi,h.hp,(by have:=h.hm;show p.more-1≤9;omega),h.hd⟩
 ·exact⟨Nat.le_of_lt_succ (Nat.mod_lt _ (Nat.succ_pos _)),Nat.lt_of_le_of_lt (Nat.div_le_self _ _) h.hp,Ip _ _,h.hd⟩
theorem IU (t:SetTable)(h:Int):OA t (t.probeStart h):=by
 refine⟨Nat.le_of_lt_succ (Nat.mod_lt _ (Nat.succ_pos _)),?_,Ip _ _,rfl⟩
 show SetTable.bits h<_
 unfold SetTable.bits
 have:=Int.emod_lt_of_pos h (show(0:Int)<2 ^ 64 by decide)
 have:=Int.emod_nonneg h (show(2 ^ 64:Int)≠0 by decide)
 omega
theorem Rp {t:SetTable}{p:SetTable.Probe}(h:Mh t.mask)(s:OA t p){e:Nat}(he:e≤t.mask):∃ n,n<10*SetTable.turns t.mask∧(Io t n p).j=e:=by
 obtain⟨k,k1,k2,ek⟩:=Li h (p:=(p.i,p.perturb)) s.hi s.hp he
 obtain⟨n,a,b,_⟩:=NT t (k-1) p s.hm
 rw[show k-1+1=k by omega]at a b
 exact⟨n,by unfold SetTable.turns;omega,by rw[b,ek]⟩
theorem Jr {t:SetTable}{hashAt:Nat→Int}{h:Int}{e:Nat}(hd:t.dummies=#[])(he:t.slot e=.empty):∀(n fuel:Nat) (p:SetTable.Probe),OA t p→n<fuel→(Io t n p).j=e→
 (∃ j,SetTable.probe.go t hashAt h fuel p=some (.empty j none))∨∃ j i q n',SetTable.probe.go t hashAt h fuel p=some (.candidate j i q)∧t.slot j=.live i∧OA t q∧n'<n∧(Io t n' q).j=e
 | n,0,p,_,hf,_=>absurd hf (Nat.not_lt_zero _)
 | n,fuel+1,p,st,hf,ej=>by
  unfold SetTable.probe.go
  cases hs:t.slot p.j with
  | empty=>exact .inl ⟨p.j,by rw[st.hd]⟩
  | dummy=>
   exfalso
   unfold SetTable.slot at hs
   rw[hd]at hs
   dsimp only at hs
   split at hs
   ·cases hs
   ·rw[if_neg (by simp[SetTable.has])]at hs
    cases hs
  | live i=>
   have hn:0<n:=Nat.pos_of_ne_zero fun z=>by
    subst z
    rw[show p.j=e from ej,he]at hs
    cases hs
   obtain⟨n,rfl⟩:∃ k,n=k+1:=⟨n-1,by omega⟩
   dsimp only
   by_cases c:(hashAt i==h)=true
   ·rw[if_pos c]
    exact .inr ⟨p.j,i,_,n,rfl,hs,st.next,Nat.lt_succ_self _,ej⟩
   ·rw[if_neg c]
    rcases Jr (hashAt:=hashAt) (h:=h) hd he n fuel _ st.next (by omega) ej with r | ⟨j,i,q,n',a,b,c,d,f⟩
    ·exact .inl r
    ·exact .inr ⟨j,i,q,n',a,b,c,by omega,f⟩
theorem NU {t:SetTable}{e:Nat}(hd:t.dummies=#[])(h:e∉t.place.toList):t.slot e=.empty:=by
 unfold SetTable.slot
 rw[hd]
 dsimp only
 rw[if_neg,if_neg (by simp[SetTable.has])]
 intro z
 rw[beq_iff_eq]at z
 exact h (Array.mem_toList_iff.mpr (Array.mem_of_getElem? z))
theorem MN {t:SetTable}{j i:Nat}(h:t.slot j=.live i):i<t.place.size:=by
 unfold SetTable.slot at h
 dsimp only at h
 split at h
 ·rename_i c
  cases h
  rw[beq_iff_eq]at c
  exact(Array.getElem?_eq_some_iff.mp c).1
 ·split at h <;> cases h
theorem MO {t:SetTable}(hd:t.dummies=#[])(hs:t.place.size≤t.mask):∃ e,e≤t.mask∧t.slot e=.empty:=by
 apply Classical.byContradiction
 intro no
 have all:∀ e∈List.range (t.mask+1),e∈t.place.toList:=fun e he=>Classical.byContradiction fun z=>no ⟨e,Nat.le_of_lt_succ (List.mem_range.mp he),NU hd z⟩
 have:=(List.nodup_range (n:=t.mask+1)).length_le_of_subset all
 rw[List.length_range,Array.length_toList]at this
 omega
def GB (l:List (Option Nat)):Nat:=l.countP (·.isSome)
theorem Lk {k:Nat}:∀{l:List (Option Nat)} {j:Nat},l[j]?=some none→GB (l.set j (some k))=GB l+1
 | [],j,h=>by simp at h
 | x::l,0,h=>by
  simp at h
  subst h
  simp[GB]
 | x::l,j+1,h=>by
  have ih:=Lk (k:=k) (l:=l) (j:=j) (by simpa using h)
  unfold GB at ih ⊢
  rw[List.set_cons_succ,List.countP_cons,List.countP_cons,ih]
  omega
theorem Js:∀{l:List (Option Nat)},GB l<l.length→∃ j:Nat,l[j]?=some none
 | [],h=>absurd h (Nat.not_lt_zero _)
 | none::l,_=>⟨0,rfl⟩
 | some x::l,h=>by
  unfold GB at h
  rw[List.countP_cons,List.length_cons]at h
  obtain⟨j,hj⟩:=Js (l:=l) (by unfold GB;simp at h;omega)
  exact⟨j+1,hj⟩
theorem Ll {m:Nat}{owner:Array (Option Nat)}{e:Nat}(hs:owner.size=m+1)(he:owner[e]?=some none):∀(k fuel i p:Nat),k<fuel→(lp m k (i,p)).1=e→∃ j,SetTable.layClean.free m owner fuel i p=some j∧owner[j]?=some none
 | k,0,i,p,h,_=>absurd h (Nat.not_lt_zero _)
 | k,fuel+1,i,p,h,hl=>by
  unfold SetTable.layClean.free
  have g:∀ x,(owner.getD x (some 0)).isNone=true→owner[x]?=some none:=fun x hx=>by
   rw[Array.getD_eq_getD_getElem?]at hx
   cases q:owner[x]? with
   | none=>rw[q]at hx;simp at hx
   | some y=>rw[q]at hx;cases y with
    | none=>rfl
    | some z=>simp at hx
  cases hf:(List.range (SetTable.runEnd m i+1-i)).find? fun k=>(owner.getD (i+k) (some 0)).isNone with
  | some x=>exact⟨i+x,rfl,g _ (List.find?_some (p:=fun k=>(owner.getD (i+k) (some 0)).isNone) hf)⟩
  | none=>
   cases k with
   | zero=>
    exfalso
    have ei:i=e:=hl
    have:=List.find?_eq_none.mp hf 0 (List.mem_range.mpr (by unfold SetTable.runEnd;split <;> omega))
    apply this
    rw[Nat.add_zero,ei,Array.getD_eq_getD_getElem?,he]
    rfl
   | succ k=>exact Ll hs he k fuel _ _ (by omega) hl
theorem Ob (h:Int):SetTable.bits h<2 ^ 64:=by
 unfold SetTable.bits
 have:=Int.emod_lt_of_pos h (show(0:Int)<2 ^ 64 by decide)
 have:=Int.emod_nonneg h (show(2 ^ 64:Int)≠0 by decide)
 omega
def QP (m n:Nat)(owner:Array (Option Nat)):Prop:=owner.size=m+1∧GB owner.toList=n∧∀ j k:Nat,owner[j]?=some (some k)→k<n
theorem Jt {m:Nat}(hm:Mh m):∀(hs:List Int) (owner:Array (Option Nat)) (k:Nat),QP m k owner→k+hs.length≤m→
 ∃ o',hs.foldl (fun acc h=>do
  let (owner,k) ← acc
  let j ← SetTable.layClean.free m owner (SetTable.turns m) (SetTable.bits h%(m+1)) (SetTable.bits h)
  pure (owner.setIfInBounds j (some k),k+1)) (some (owner,k))=some (o',k+hs.length)∧QP m (k+hs.length) o'
 | [],owner,k,h,_=>⟨owner,rfl,h⟩
 | x::hs,owner,k,⟨h1,h2,h3⟩,hk=>by
  rw[List.length_cons]at hk ⊢
  obtain⟨e,he⟩:=Js (l:=owner.toList) (by rw[h2,Array.length_toList,h1];omega)
  rw[Array.getElem?_toList]at he
  have hle:e≤m:=by have:=(Array.getElem?_eq_some_iff.mp he).1;omega
  obtain⟨q,_,q2,eq⟩:=Li hm (p:=(SetTable.bits x%(m+1),SetTable.bits x)) (Nat.le_of_lt_succ (Nat.mod_lt _ (Nat.succ_pos _))) (Ob x) hle
  obtain⟨j,ej,hj⟩:=Ll h1 he q (SetTable.turns m) _ _ (by unfold SetTable.turns;omega) eq
  have hlt:=(Array.getElem?_eq_some_iff.mp hj).1
  have hc:GB (owner.setIfInBounds j (some k)).toList=k+1:=by
   rw[Array.toList_setIfInBounds,Lk (by rw[Array.getElem?_toList];exact hj),h2]
  have hd:∀ i z:Nat,(owner.setIfInBounds j (some k))[i]?=some (some z)→z<k+1:=fun i z hz=>by
   rw[Array.getElem?_setIfInBounds]at hz
   split at hz
   ·simp at hz;omega
   ·have:=h3 i z hz;omega
  obtain⟨o',a,b⟩:=Jt hm hs (owner.setIfInBounds j (some k)) (k+1) ⟨by simp[h1],hc,hd⟩ (by omega)
  refine⟨o',?_,by rw[show k+(hs.length+1)=k+1+hs.length by omega];exact b⟩
  rw[List.foldl_cons,show k+(hs.length+1)=k+1+hs.length by omega]
  rw[← a]
  congr 1
  show(SetTable.layClean.free m owner (SetTable.turns m) (SetTable.bits x%(m+1)) (SetTable.bits x)).bind _=_
  rw[ej]
  rfl
theorem NV {m:Nat}(hm:Mh m){hs:Array Int}(hl:hs.size≤m):∃ owner,SetTable.layClean m hs=some owner∧QP m hs.size owner:=by
 obtain⟨o',a,b⟩:=Jt hm hs.toList (Array.replicate (m+1) none) 0 ⟨by simp,by simp[GB,List.countP_replicate],fun j k h=>by
  rw[Array.getElem?_replicate]at h
  split at h <;> simp at h⟩ (by rw[Array.length_toList];omega)
 rw[Nat.zero_add,Array.length_toList]at a b
 refine⟨o',?_,b⟩
 unfold SetTable.layClean
 rw[← Array.foldl_toList]
 exact congrArg (Option.map (·.1)) a
theorem Ju {l:List (Option Nat)}{owner:Array (Option Nat)}(e:owner.toList=l):∀ n,n≤l.length→((List.range n).filterMap fun j=>(owner.getD j none).map (j,·)).length=GB (l.take n)
 | 0,_=>rfl
 | n+1,h=>by
  have hn:n<l.length:=h
  rw[List.range_succ,List.filterMap_append,List.length_append,Ju e n (by omega),List.take_add_one,List.getElem?_eq_getElem hn]
  unfold GB
  rw[List.countP_append]
  congr 1
  have g:owner.getD n none=l[n]:=by
   subst e
   rw[Array.getD_eq_getD_getElem?,← Array.getElem?_toList,List.getElem?_eq_getElem hn]
   rfl
  rw[List.filterMap_cons,g]
  cases l[n] <;> rfl
theorem MP {t:SetTable}{hs:Array Int}{wanted m:Nat}(em:SetTable.sizeAbove wanted-1=m)(hm:Mh m)(hl:hs.size≤m):∃ t' order,t.relaid hs wanted=some (t',order)∧t'.mask=m∧t'.dummies=#[]∧t'.place.size=hs.size∧order.size=hs.size∧∀ k∈order.toList,k<hs.size:=by
 obtain⟨owner,a,h1,h2,h3⟩:=NV hm hl
 unfold SetTable.relaid SetTable.laid
 rw[em,a]
 have ll:=Ju (owner:=owner) rfl (m+1) (by rw[Array.length_toList,h1];exact Nat.le_refl _)
 rw[List.take_of_length_le (by rw[Array.length_toList,h1];exact Nat.le_refl _),h2]at ll
 refine⟨_,_,rfl,rfl,rfl,?_,?_,fun k hk=>?_⟩
 ·rw[List.size_toArray,List.length_map,ll]
 ·rw[List.size_toArray,List.length_map,ll]
 ·rw[List.toList_toArray,List.mem_map]at hk
  obtain⟨⟨j,k'⟩,hq,rfl⟩:=hk
  rw[List.mem_filterMap]at hq
  obtain⟨j',_,hj⟩:=hq
  cases q:owner.getD j' none with
  | none=>rw[q]at hj;cases hj
  | some z=>
   rw[q]at hj
   cases hj
   rw[Array.getD_eq_getD_getElem?]at q
   cases q2:owner[j]? with
   | none=>rw[q2]at q;cases q
   | some y=>rw[q2]at q;exact h3 j _ (by rw[q2];exact congrArg some q)
end L2.TSt
namespace L2.TSt
open PySem PySem.Spec PyProof.Rows PySem.W L2
section
variable {P:Program}{w:World}{A:Around}{E:Value→Shared→Prop}{s:Shared}
abbrev TK (P:Program)(w:World):=tupleKind (BR P w)
def Ic (P:Program)(w:World)(D:Addr→Prop)(h:Heap)(S:Addr)(ks:List (List BF)):Prop:=
 ∃ o es ep t,h.get? S=some o∧o.ExactSet∧o.data=.set es ep t∧t.place.size=es.size∧t.dummies=#[]∧Mh t.mask∧es.size*5<t.mask*3∧es.size=ks.length∧∀ e∈es.toList,∃ k∈ks,∃ a,D a∧e.2=.ref a∧(TK P w).is h k a
theorem Lm {h h':Heap}{S:Addr}{o:Obj}{es ep t}{k:List BF}{a:Addr}(hS:h.get? S=some o)(hd:o.data=.set es ep t)(hk:∀ b u,b≠S→h.get? b=some u→h'.get? b=some u)(x:(TK P w).is h k a):(TK P w).is h' k a:=by
 obtain⟨u,items,n,ho,hc,hd',hi⟩:=x
 refine⟨u,items,n,hk a u (fun z=>?_) ho,hc,hd',hi⟩
 subst z
 rw[hS]at ho
 cases ho
 rw[hd]at hd'
 cases hd'
theorem PR {k:List BF}{a:Addr}{n:Nat}{Q:Bool→Shared→Prop}(hk:(TK P w).is s.heap k a)(h:Q false s):wpAny (model P w) A (ofAClassStatement (n+1) (.ref a)) Q E s:=by
 have hT:=IsTupleKey.typeIs hk
 obtain⟨o,items,m,ho,_,hd,hi⟩:=hk
 unfold ofAClassStatement
 refine wpAny_bind (wpAny_typeOf hT ?_)
 dsimp only
 rw[if_pos (by decide)]
 refine wpAny_bind (wpAny_pure ?_)
 simp only[Bool.not_true,Bool.false_eq_true,if_false]
 refine wpAny_bind (wpAny_seqItems ho hd ?_)
 dsimp only
 refine wpAny_bind ?_
 show wpAny _ _ (forIn items _ _) _ _ s
 rw[← Array.forIn_toList]
 refine wpAny_forIn_list _ (fun rest r s'=>r.1=none∧s'=s∧∀ v∈rest,carriedByValue v=true) _ ?_ ?_ _ _ ⟨rfl,rfl,hi.byValue⟩
 ·rintro v rest r s' ⟨hr,rfl,hall⟩
  have hv:=hall v List.mem_cons_self
  have e:ofAClassStatement n v=pure false:=by
   cases v with
   | ref b=>simp[carriedByValue]at hv
   | _=>cases n <;> rfl
  rw[e]
  refine wpAny_bind (wpAny_pure ?_)
  simp only[Bool.false_eq_true,if_false]
  exact wpAny_pure ⟨rfl,rfl,fun u hu'=>hall u (List.mem_cons_of_mem _ hu')⟩
 ·rintro⟨r1,r2⟩ s' ⟨hr,rfl,_⟩
  simp only at hr
  subst hr
  exact wpAny_pure h
theorem QR {k:List BF}{a:Addr}{ys:List Value}{Q:Bool→Shared→Prop}(hk:(TK P w).is s.heap k a)(hy:∀ y∈ys,∃ k b,y=.ref b∧(TK P w).is s.heap k b)(h:Q false s):wpAny (model P w) A (searchCouldBeSeen (.ref a) ys) Q E s:=by
 unfold searchCouldBeSeen
 refine wpAny_bind ?_
 refine wpAny_forIn_list _ (fun rest r s'=>r.1=none∧s'=s∧∀ v∈rest,v∈ys) _ ?_ ?_ _ _ ⟨rfl,rfl,fun v hv=>hv⟩
 ·rintro v rest r s' ⟨hr,rfl,hall⟩
  obtain⟨k2,b,rfl,hb⟩:=hy v (hall v List.mem_cons_self)
  have go:∀ u∈rest,u∈ys:=fun u hu=>hall u (List.mem_cons_of_mem _ hu)
  dsimp only
  split
  ·exact wpAny_pure ⟨rfl,rfl,go⟩
  ·refine wpAny_bind ((TK P w).quiet hk ?_)
   simp only[Bool.not_true,Bool.false_eq_true,if_false]
   refine wpAny_bind ((TK P w).quiet hb ?_)
   simp only[Bool.not_true,Bool.false_eq_true,if_false]
   refine wpAny_bind (PR hk ?_)
   simp only[Bool.false_eq_true,if_false]
   refine wpAny_bind (PR hb ?_)
   simp only[Bool.false_eq_true,if_false]
   exact wpAny_pure ⟨rfl,rfl,go⟩
 ·rintro⟨r1,r2⟩ s' ⟨hr,rfl,_⟩
  simp only at hr
  subst hr
  exact wpAny_pure h
theorem NW {t:SetTable}(h:Mh t.mask):t.gaveWay=false:=by
 unfold SetTable.gaveWay
 rcases h with h | h | h <;> rw[h] <;> rfl
theorem De {t:SetTable}{n:Nat}(h1:t.place.size=n)(h2:t.dummies=#[])(h3:n≤t.mask):t.fits n=true:=by
 unfold SetTable.fits SetTable.fill
 simp[h1,h2,h3]
theorem IV {t:SetTable}{hashAt:Nat→Int}{h:Int}{e n:Nat}{p:SetTable.Probe}{r:Option SetTable.Met}(hd:t.dummies=#[])(he:t.slot e=.empty)(st:OA t p)(hn:n<10*SetTable.turns t.mask)(ej:(Io t n p).j=e)(hr:t.probe hashAt h p=r):
 (∃ j,r=some (.empty j none))∨∃ j i q n',r=some (.candidate j i q)∧t.slot j=.live i∧OA t q∧n'<n∧(Io t n' q).j=e:=by
 subst hr
 exact Jr hd he n _ p st hn ej
theorem Ks {S a:Addr}{o:Obj}{es:Array (Int×Value)}{ep:Nat}{t:SetTable}{k:List BF}{hh:Int}{e:Nat}{Q:SetFound→Shared→Prop}(hu:A.units<cLine)(hS:s.heap.get? S=some o)(hd:o.data=.set es ep t)(h1:t.place.size=es.size)(h2:t.dummies=#[])(h3:Mh t.mask)(h4:es.size≤t.mask)
 (hk:(TK P w).is s.heap k a) (hes:∀ e∈es.toList,∃ k',k'≠k∧∃ b,e.2=.ref b∧(TK P w).is s.heap k' b) (he:e≤t.mask) (hem:t.slot e=.empty) (hq:∀ j,Q (.free j false) s):∀(n fuel:Nat) (stand:Option SetTable.Probe),n<fuel→OA t (stand.getD (t.probeStart hh))→n<10*SetTable.turns t.mask→(Io t n (stand.getD (t.probeStart hh))).j=e→
 wpAny (model P w) A (setSearchFrom S (.ref a) hh true fuel stand) Q E s
 | n,0,_,hf,_,_,_=>absurd hf (Nat.not_lt_zero _)
 | n,fuel+1,stand,hf,st,ht,ej=>by
  unfold setSearchFrom
  refine wpAny_bind (wpAny_setState_of hS hd (De h1 h2 h4) ?_)
  dsimp only
  rw[NW h3]
  simp only[Bool.false_eq_true,if_false]
  split
  ·rename_i met hm
   rcases IV h2 hem st ht ej hm with⟨j,ee⟩ | ⟨j,i,q,n',ee,hl,sq,ln,ej'⟩
   ·cases ee
    dsimp only
    exact wpAny_pure (hq j)
   ·cases ee
    dsimp only
    have hi:=MN hl
    rw[h1]at hi
    obtain⟨k',nk,b,eb,hb⟩:=hes es[i] (Array.getElem_mem_toList hi)
    have hx:es[i]?=some (es[i].1,.ref b):=by rw[← eb];exact Array.getElem?_eq_getElem hi
    rw[hx]
    dsimp only
    have sm:t.sameMemory t.moves t.mask=some true:=by simp[SetTable.sameMemory]
    by_cases hled:(!t.led)=true
    ·rw[if_pos hled]
     refine wpAny_bind (QR hk (fun y hy=>?_) ?_)
     ·obtain⟨z,hz,rfl⟩:=List.mem_map.mp hy
      rw[Array.toList_filter]at hz
      obtain⟨k2,_,b2,e2,h2'⟩:=hes z (List.mem_filter.mp hz).1
      exact⟨k2,b2,e2,h2'⟩
     rw[if_neg Bool.false_ne_true]
     refine wpAny_bind (wpAny_holding ((TK P w).eqBool hu hb hk ?_))
     rw[decide_eq_false nk]
     refine wpAny_bind (wpAny_setState_of hS hd (De h1 h2 h4) ?_)
     simp only[Bool.and_false,Bool.false_eq_true,if_false,sm,if_true,hl,hx]
     refine wpAny_bind (wpAny_isSame_ref_self (wpAny_bind (wpAny_pure ?_)))
     simp only[if_true]
     exact Ks hu hS hd h1 h2 h3 h4 hk hes he hem hq n' fuel (some q) (by omega) sq (by omega) ej'
    ·rw[if_neg hled]
     refine wpAny_bind (wpAny_holding ((TK P w).eqBool hu hb hk ?_))
     rw[decide_eq_false nk]
     refine wpAny_bind (wpAny_setState_of hS hd (De h1 h2 h4) ?_)
     simp only[Bool.and_false,Bool.false_eq_true,if_false,sm,if_true,hl,hx]
     refine wpAny_bind (wpAny_isSame_ref_self (wpAny_bind (wpAny_pure ?_)))
     simp only[if_true]
     exact Ks hu hS hd h1 h2 h3 h4 hk hes he hem hq n' fuel (some q) (by omega) sq (by omega) ej'
  ·rename_i hm
   exfalso
   rcases IV h2 hem st ht ej rfl with⟨j,ee⟩ | ⟨j,i,q,n',ee,_⟩
   ·exact hm _ ee
   ·exact hm _ ee
theorem NX {k:List BF}{a:Addr}{n:Nat}{Q:Bool→Shared→Prop}(hk:(TK P w).is s.heap k a)(h:∀ b,Q b s):wpAny (model P w) A (hashByValue (n+1) (.ref a)) Q E s:=by
 have hT:=IsTupleKey.typeIs hk
 obtain⟨o,items,m,ho,_,hd,hi⟩:=hk
 unfold hashByValue
 refine wpAny_bind (wpAny_specialOf hT F.slot_tuple_hash.lookup ?_)
 dsimp only
 refine wpAny_bind (wpAny_seqItems ho hd ?_)
 refine wpAny_bind ?_
 show wpAny _ _ (forIn items _ _) _ _ s
 rw[← Array.forIn_toList]
 refine wpAny_forIn_list _ (fun rest r s'=>s'=s∧∀ v∈rest,carriedByValue v=true) _ ?_ ?_ _ _ ⟨rfl,hi.byValue⟩
 ·rintro v rest r s' ⟨rfl,hall⟩
  have hv:=hall v List.mem_cons_self
  obtain⟨b,e⟩:∃ b,hashByValue n v=pure b:=by
   cases v with
   | ref b=>simp[carriedByValue]at hv
   | _=>cases n <;> exact⟨_,rfl⟩
  rw[e]
  refine wpAny_bind (wpAny_pure ?_)
  cases b with
  | true=>
   simp only[Bool.not_true,Bool.false_eq_true,if_false]
   exact wpAny_pure ⟨rfl,fun u hu'=>hall u (List.mem_cons_of_mem _ hu')⟩
  | false=>
   simp only[Bool.not_false,if_true]
   exact wpAny_pure (wpAny_pure (h _))
 ·rintro⟨r1,r2⟩ s' ⟨rfl,_⟩
  cases r1 with
  | none=>exact wpAny_pure (h _)
  | some r=>exact wpAny_pure (h _)
theorem NY (a:Addr)(wanted:Nat):setRelay a wanted=(do
 let (es,_,t) ← setState a
 if SetTable.sizeAbove wanted>sizeLine then unsupported "set:memory"
 let (es,t) ← (do
  let some (t,order):=t.relaid (es.map (·.1)) wanted | unsupported "internal:set-table-without-room"
  let es':=order.filterMap (es[·]?)
  if es'.size != es.size then unsupported "internal:set-table-lost-an-element"
  pure (es',t))
 storeSet a es t):=rfl
theorem Rq {D:Addr→Prop}{S a:Addr}{o:Obj}{es:Array (Int×Value)}{ep:Nat}{t t1:SetTable}{ks:List (List BF)}{k:List BF}{hh:Int}{p:Nat}{Q:Bool→Shared→Prop}(ho:s.heap.get? S=some o)(hx:o.ExactSet)(hd:o.data=.set es ep t)(h3:Mh t.mask)(h4:es.size*5<t.mask*3)(h5:es.size=ks.length)
 (h6:∀ e∈es.toList,∃ k∈ks,∃ a,D a∧e.2=.ref a∧(TK P w).is s.heap k a) (hk:(TK P w).is s.heap k a) (hD:D a) (hl:ks.length<64) (q1:t1.place.size=es.size+1) (q2:t1.dummies=#[]) (q3:t1.mask=t.mask)
 (h:∀ h',(∀ b o,b≠S→s.heap.get? b=some o→h'.get? b=some o)→Ic P w D h' S (ks++[k])→Q true { s with heap:=h' }):
 wpAny (model P w) A (do
  storeSet S (SetTable.insertAt es p (hh,.ref a)) t1
  if(!false&&t1.tooFull)=true then do
   setRelay S (SetTable.grown (es.size+1))
   pure true
  else pure true) Q E s:=by
 have hz:sizeLine=16777216:=sizeLine_eq
 have pm:=SetTable.insertAt_perm es p (hh,Value.ref a)
 have sz:(SetTable.insertAt es p (hh,Value.ref a)).size=es.size+1:=by
  rw[← Array.length_toList,pm.length_eq,Array.length_toList,Array.size_push]
 have mem:∀ e∈(SetTable.insertAt es p (hh,Value.ref a)).toList,∃ k'∈ks++[k],∃ b,D b∧e.2=.ref b∧(TK P w).is s.heap k' b:=fun e he=>by
  have:=pm.mem_iff.mp he
  rw[Array.toList_push,List.mem_append]at this
  rcases this with z | z
  ·obtain⟨k',m1,m2⟩:=h6 e z
   exact⟨k',List.mem_append_left _ m1,m2⟩
  ·rw[List.mem_singleton.mp z]
   exact⟨k,by simp,a,hD,rfl,hk⟩
 generalize SetTable.insertAt es p (hh,Value.ref a)=es1 at *
 refine wpAny_bind (wpAny_storeSet_of ho hd ?_ (by omega))
 have hg:(s.heap.update S (Obj.putSet es1 t1)).get? S=some { o with data:=.set es1 (ep+1) t1 }:=by
  have:=Heap.get?_update_self (Obj.putSet es1 t1) ho (by rw[putSet_of es1 t1 hd];rfl)
  rw[putSet_of es1 t1 hd]at this;exact this
 have kp:∀ b u,b≠S→s.heap.get? b=some u→(s.heap.update S (Obj.putSet es1 t1)).get? b=some u:=fun b u hb e=>(Heap.get?_update_ne _ _ _ _ hb).trans e
 have mem1:∀ e∈es1.toList,∃ k'∈ks++[k],∃ b,D b∧e.2=.ref b∧(TK P w).is (s.heap.update S (Obj.putSet es1 t1)) k' b:=fun e he=>by
  obtain⟨k',m1,b,m0,m2,m3⟩:=mem e he
  exact⟨k',m1,b,m0,m2,Lm ho hd kp m3⟩
 have ll:(ks++[k]).length=es.size+1:=by rw[List.length_append,h5];rfl
 have tf:t1.tooFull=decide (t.mask*3≤(es.size+1)*5):=by
  unfold SetTable.tooFull SetTable.fill
  rw[q1,q2,q3]
  rfl
 by_cases c:t.mask*3≤(es.size+1)*5
 ·rw[tf,decide_eq_true c,if_pos (by decide)]
  obtain⟨m,em,mm,m64⟩:∃ m,SetTable.sizeAbove (SetTable.grown (es.size+1))-1=m∧Mh m∧(es.size+1)*5<m*3∧SetTable.sizeAbove (SetTable.grown (es.size+1))≤128:=by
   rcases h3 with z | z | z
   ·have:es.size=4:=by omega
    rw[this]
    exact⟨31,by nofun,.inr (.inl rfl),by decide,by nofun⟩
   ·have:es.size=18:=by omega
    rw[this]
    exact⟨127,by nofun,.inr (.inr rfl),by decide,by nofun⟩
   ·omega
  refine wpAny_bind ?_
  rw[NY]
  have hs1:es1.size≤t1.mask:=by rw[sz,q3];rcases h3 with z | z | z <;> omega
  refine wpAny_bind (wpAny_setState_of (s:={ s with heap:=s.heap.update S (Obj.putSet es1 t1) }) hg rfl (De (by rw[q1,sz]) q2 hs1) ?_)
  dsimp only
  rw[if_neg (by omega)]
  obtain⟨t',order,r1,r2,r3,r4,r5,r6⟩:=MP (t:=t1) (hs:=es1.map (·.1)) em mm (by rw[Array.size_map];omega)
  rw[Array.size_map,sz]at r4 r5 r6
  have so:(order.filterMap (es1[·]?)).size=es1.size:=by
   have:(order.toList.filterMap (es1[·]?)).length=order.toList.length:=by
    have:∀ l:List Nat,(∀ k∈l,k<es.size+1)→(l.filterMap (es1[·]?)).length=l.length:=by
     intro l
     induction l with
     | nil=>intro _;rfl
     | cons x l ih=>
      intro hx
      have hlt:x<es1.size:=by rw[sz];exact hx x (by simp)
      rw[List.filterMap_cons,Array.getElem?_eq_getElem hlt]
      simp only[List.length_cons]
      rw[ih fun k hk=>hx k (List.mem_cons_of_mem _ hk)]
    exact this _ r6
   rw[← Array.length_toList,Array.toList_filterMap,this,Array.length_toList,r5,sz]
  refine wpAny_bind ?_
  rw[r1]
  dsimp only
  rw[if_neg (by rw[so];simp)]
  refine wpAny_pure ?_
  dsimp only
  refine wpAny_storeSet_of (s:={ s with heap:=s.heap.update S (Obj.putSet es1 t1) }) hg rfl ?_ (by rw[so];omega)
  refine wpAny_pure (h _ (fun b u hb e=>(Heap.get?_update_ne _ _ _ _ hb).trans (kp b u hb e)) ⟨{ o with data:=.set (order.filterMap (es1[·]?)) (ep+1+1) t' },_,_,_,?_,?_,rfl,?_,r3,?_,?_,?_,fun e he=>?_⟩)
  ·have:=Heap.get?_update_self (Obj.putSet (order.filterMap (es1[·]?)) t') hg (by rw[putSet_of _ t' rfl];rfl)
   rw[putSet_of _ t' rfl]at this;exact this
  ·exact hx
  ·rw[r4,so,sz]
  ·rw[r2];exact mm
  ·rw[so,sz,r2];exact m64.1
  ·rw[so,sz,ll]
  ·rw[Array.toList_filterMap,List.mem_filterMap]at he
   obtain⟨i,_,hi⟩:=he
   obtain⟨k',m1,b,m0,m2,m3⟩:=mem1 e (Array.mem_toList_iff.mpr (Array.mem_of_getElem? hi))
   exact⟨k',m1,b,m0,m2,Lm hg rfl (fun b u hb e=>(Heap.get?_update_ne _ _ _ _ hb).trans e) m3⟩
 ·rw[tf,decide_eq_false c]
  simp only[Bool.not_false,Bool.and_false,Bool.false_eq_true,if_false]
  exact wpAny_pure (h _ kp ⟨_,_,_,_,hg,hx,rfl,by rw[q1,sz],q2,by rw[q3];exact h3,by rw[sz,q3];omega,by rw[sz,ll],mem1⟩)
theorem add {D:Addr→Prop}{S a:Addr}{ks:List (List BF)}{k:List BF}{Q:Bool→Shared→Prop}(hu:A.units<cLine)(hS:Ic P w D s.heap S ks)(hk:(TK P w).is s.heap k a)(hD:D a)(hn:k∉ks)(hl:ks.length<64)
 (h:∀ h',(∀ b o,b≠S→s.heap.get? b=some o→h'.get? b=some o)→Ic P w D h' S (ks++[k])→Q true { s with heap:=h',toks:=s.toks+(TK P w).draws k }):wpAny (model P w) A (setAdd S (.ref a)) Q E s:=by
 obtain⟨o,es,ep,t,ho,hx,hd,h1,h2,h3,h4,h5,h6⟩:=hS
 have hm:es.size≤t.mask:=by omega
 unfold setAdd
 refine wpAny_holding (wpAny_bind ((TK P w).pyHash hu hk ?_))
 unfold setAddHashed setAddHashedIn
 refine wpAny_holding (wpAny_bind (wpAny_setState_of ho hd (De h1 h2 hm) ?_))
 dsimp only
 rw[show byScan (.ref a) es=false by simp[byScan,Value.scannable]]
 simp only[Bool.false_eq_true,if_false]
 obtain⟨e,he,hem⟩:=MO h2 (by rw[h1];exact hm)
 obtain⟨n,hn1,hn2⟩:=Rp h3 (IU t ((TK P w).hash k)) he
 unfold setSearch
 refine wpAny_bind (Ks (s:={ s with toks:=s.toks+(TK P w).draws k }) hu ho hd h1 h2 h3 hm hk (fun x hx=>?_) he hem (fun j=>?_) n 100000 none ?_ (IU t _) hn1 hn2)
 ·obtain⟨k',m1,b,_,m2,m3⟩:=h6 x hx
  exact⟨k',fun z=>hn (z▸m1),b,m2,m3⟩
 ·dsimp only
  refine wpAny_bind (wpAny_setState_of (s:={ s with toks:=s.toks+(TK P w).draws k }) ho hd (De h1 h2 hm) ?_)
  dsimp only
  have hp:(t.put j).1.place.size=es.size+1∧(t.put j).1.dummies=#[]∧(t.put j).1.mask=t.mask:=by
   refine⟨?_,?_,rfl⟩
   ·show(SetTable.insertAt t.place _ j).size=_
    rw[← Array.length_toList,(SetTable.insertAt_perm t.place _ j).length_eq,Array.length_toList,Array.size_push,h1]
   ·show(if SetTable.has t.dummies j=true then _ else t.dummies)=#[]
    rw[h2,if_neg (by simp[SetTable.has])]
  obtain⟨p1,p2,p3⟩:=hp
  have hq:=fun t1 (e1:SetTable.place t1=(t.put j).1.place) (e2:t1.dummies=(t.put j).1.dummies) (e3:t1.mask=(t.put j).1.mask)=>Rq (A:=A) (E:=E) (s:={ s with toks:=s.toks+(TK P w).draws k }) (p:=(t.put j).2) (hh:=(TK P w).hash k) ho hx hd h3 h4 h5 h6 hk hD hl (t1:=t1) (by rw[e1,p1]) (by rw[e2,p2]) (by rw[e3,p3]) (fun h' hk' hT=>h h' hk' hT)
  split
  ·refine wpAny_bind (NX hk fun b=>?_)
   cases b with
   | true=>exact hq _ rfl rfl rfl
   | false=>exact hq _ rfl rfl rfl
  ·refine wpAny_bind (wpAny_pure ?_)
   exact hq _ rfl rfl rfl
 ·have:SetTable.turns t.mask≤142:=by
   unfold SetTable.turns
   rcases h3 with z | z | z <;> rw[z] <;> decide
  omega
end
end L2.TSt
namespace L2.TSt
open PySem PySem.Spec PyProof.Rows PySem.W L2
section
variable {prog:Program}{w:World}{A:Around}{E:Value→Shared→Prop}{s:Shared}
def MQ (prog:Program)(w:World)(A:Around)(S:Addr)(n:Nat)(P:Nat→Value→Prop)(T:Nat→Heap→Prop):Prop:=
 ∀(i:Nat) (v:Value) (s':Shared) (Q:Bool→Shared→Prop) (E:Value→Shared→Prop),i<n→P i v→T i s'.heap→(∀ b h' tk,(∀ c o,c≠S→s'.heap.get? c=some o→h'.get? c=some o)→s'.toks≤tk→T (i+1) h'→Q b { s' with heap:=h',toks:=tk })→wpAny (model prog w) A (setAdd S v) Q E s'
theorem MR {R:Result→Shared→Prop}{I:Addr}{fp wr:List Addr}{G:Array GenState→Array GenState→Prop}{n:Nat}{P:Nat→Value→Prop}{St:Nat→Shared→Prop}
 (W:WalksS prog w A.in1 I fp wr G n P St) (S:Addr) (hS:S∉fp) {T:Nat→Heap→Prop} (keep:∀ i h h',T i h→(∀ b o,b∉wr→h.get? b=some o→h'.get? b=some o)→T i h') (step:MQ prog w A.in1 S n P T):
 ∀(k i:Nat) (s:Shared),n-i=k→i≤n→St i s→T i s.heap→(∀ s',Moved (S::wr) G s s'→T n s'.heap→R (.ok (.ret .none)) s')→
 codeAny (model prog w) A (.builtin "set.update.loop" ⟨[.ref S,.ref I],[]⟩) R s:=by
 intro k
 induction k with
 | zero=>
  intro i s hk hi hst hso hR
  have e:i=n:=by omega
  subst e
  refine codeAny_builtin F.entry_set_update_loop ?_
  refine wpAny_bind (W.done s _ _ hst fun s' hm=>?_)
  exact wpAny_pure (hR s' (Le hm) (keep _ _ _ hso fun b o hb e=>hm.heap b o hb e))
 | succ k ih=>
  intro i s hk hi hst hso hR
  have hlt:i<n:=by omega
  refine codeAny_builtin F.entry_set_update_loop ?_
  refine wpAny_bind (W.item i s _ _ hlt hst fun v s' hp hst' hm=>?_)
  refine wpAny_bind (wpAny_holding (step i v s' _ _ hlt hp (keep _ _ _ hso fun b o hb e=>hm.heap b o hb e) fun b h' tk hkp htk hT=>?_))
  have mv:Moved (S::wr) G s' { s' with heap:=h',toks:=tk }:=⟨fun b o hb e=>hkp b o (fun q=>hb (by rw[q];simp)) e,W.grefl _,rfl,rfl,htk⟩
  refine wpAny_pure ⟨plainId_quiet F.plain_set_update_loop _,ih (i+1) _ (by omega) (by omega) ?_ hT fun s2 hm2 hso3=>hR s2 (DF W.gtrans (Le hm) (DF W.gtrans mv hm2)) hso3⟩
  exact W.frame (i+1) s' h' _ hst' htk fun b hb o e=>hkp b o (fun q=>hS (q▸hb)) e
theorem MS {R:Result→Shared→Prop}{l S:Addr}{led:Bool}{ty:String}{ob:Obj}{n:Nat}{P:Nat→Value→Prop}{St:Nat→Shared→Prop}{T:Nat→Heap→Prop}(hty:ty="list"∨ty="tuple")(tl:s.TypeIs (.ref l) ty)(hS:s.heap.get? S=some { cls:=.type "set",data:=.set #[] 0 (SetTable.fresh 0 0 led) })(hSl:S≠l)
 (it:∀(Q:Value→Shared→Prop) (E:Value→Shared→Prop),Q (.ref s.heap.objs.size) { s with heap:=s.heap.push ob }→wpAny (model prog w) A.in1 (pyIter (.ref l)) Q E s)
 (W:WalksS prog w A.in1.in1 s.heap.objs.size [s.heap.objs.size,l] [s.heap.objs.size] (fun a b=>b=a) n P St) (st0:St 0 { s with heap:=s.heap.push ob })
 (keep:∀ i h h',T i h→(∀ b o,b∉[s.heap.objs.size]→h.get? b=some o→h'.get? b=some o)→T i h') (step:MQ prog w A.in1.in1 S n P T) (hT0:T 0 (s.heap.push ob))
 (hR:∀ h' tk,(∀ b o,b≠S→s.heap.get? b=some o→h'.get? b=some o)→T n h'→R (.ok (.ret .none)) { s with heap:=h',toks:=tk }):
 wpAny (model prog w) A.in1 (Builtin.«set.__init__» ⟨[.ref S,.ref l],[]⟩)
  (fun fin s'=>match fin with | .done f=>R (.ok f) s' | .again c'=>c'.quiet=true∧codeAny (model prog w) A c' R s') (fun e s'=>R (.error e) s') s:=by
 have tS:s.TypeIs (.ref S) "set":=⟨_,hS,rfl⟩
 unfold Builtin.«set.__init__»
 refine wpAny_bind (show wpAny _ _ (pure ()) _ _ s from wpAny_pure ?_)
 dsimp only
 refine wpAny_bind ?_
 unfold typeNameOfCut shownTypeOf
 refine wpAny_bind (wpAny_bind (wpAny_typeOf tS ?_))
 rw[if_neg (by decide)]
 refine wpAny_pure (show wpAny _ _ (pure _) _ _ s from wpAny_pure ?_)
 refine wpAny_bind (show wpAny _ _ (pure ()) _ _ s from wpAny_pure ?_)
 refine wpAny_bind (show wpAny _ _ (pure S) _ _ s from wpAny_pure ?_)
 unfold setUsed
 refine wpAny_bind (wpAny_bind (wpAny_setState_of hS rfl rfl (wpAny_pure ?_)))
 rw[if_neg (show ¬ ((#[],0,SetTable.fresh 0 0 led).snd.snd.fill != 0)=true from(by intro h;cases h))]
 refine wpAny_bind ?_
 unfold Builtin.Frozenset.updateFrom Builtin.Frozenset.isAnySet
 refine wpAny_bind ?_
 refine wpAny_bind (wpAny_isInstance (b:=false) tl (by rcases hty with rfl | rfl <;> rw[isSubtype_type] <;> kernel_rfl) ?_)
 refine(show wpAny _ _ (isInstance (.ref l) (.type "frozenset")) _ _ s from ?_)
 refine wpAny_isInstance (b:=false) tl (by rcases hty with rfl | rfl <;> rw[isSubtype_type] <;> kernel_rfl) ?_
 rw[if_neg (by decide)]
 refine wpAny_bind (wpAny_typeOf tl ?_)
 rw[if_neg (by rcases hty with rfl | rfl <;> decide)]
 have hSn:S≠s.heap.objs.size:=Nat.ne_of_lt (Heap.lt_size hS)
 have hSf:S∉[s.heap.objs.size,l]:=fun hm=>by
  rcases List.mem_cons.mp hm with e | hm
  ·exact hSn e
  ·exact hSl (List.mem_singleton.mp hm)
 refine wpAny_bind (it _ _ ?_)
 refine wpAny_bind (wpAny_runValue ?_)
 refine MR W S hSf keep step n 0 _ rfl (Nat.zero_le _) st0 hT0 fun s' hm hso=>?_
 refine wpAny_pure (show wpAny _ _ (pure _) _ _ _ from wpAny_pure ?_)
 rw[Moved.eq_with hm]
 refine hR s'.heap s'.toks (fun b o hb e=>hm.heap b o (fun hmem=>?_) (Heap.get?_push_of_some _ e)) hso
 rcases List.mem_cons.mp hmem with e' | hmem
 ·exact hb e'
 ·have:=List.mem_singleton.mp hmem
  rw[this]at e
  exact absurd (Heap.lt_size e) (Nat.lt_irrefl _)
theorem Gu {R:Result→Shared→Prop}{l S:Addr}{led:Bool}{ty:String}{ob:Obj}{n:Nat}{P:Nat→Value→Prop}{St:Nat→Shared→Prop}{T:Nat→Heap→Prop}(hty:ty="list"∨ty="tuple")(tl:s.TypeIs (.ref l) ty)(hS:s.heap.get? S=some { cls:=.type "set",data:=.set #[] 0 (SetTable.fresh 0 0 led) })(hSl:S≠l)
 (it:∀(Q:Value→Shared→Prop) (E:Value→Shared→Prop),Q (.ref s.heap.objs.size) { s with heap:=s.heap.push ob }→wpAny (model prog w) A.in1 (pyIter (.ref l)) Q E s)
 (W:WalksS prog w A.in1.in1 s.heap.objs.size [s.heap.objs.size,l] [s.heap.objs.size] (fun a b=>b=a) n P St) (st0:St 0 { s with heap:=s.heap.push ob })
 (keep:∀ i h h',T i h→(∀ b o,b∉[s.heap.objs.size]→h.get? b=some o→h'.get? b=some o)→T i h') (step:MQ prog w A.in1.in1 S n P T) (hT0:T 0 (s.heap.push ob))
 (hR:∀ h' tk,(∀ b o,b≠S→s.heap.get? b=some o→h'.get? b=some o)→T n h'→R (.ok (.ret .none)) { s with heap:=h',toks:=tk }):
 codeAny (model prog w) A (.call (.builtin "set.__init__") ⟨[.ref S,.ref l],[]⟩) R s:=
 codeAny_call_builtin F.called_set.init.plain F.entry_set_init (check_set_init_1 ⟨_,hS,rfl⟩ (MS hty tl hS hSl it W st0 keep step hT0 hR))
theorem IW {Q:Value→Shared→Prop}{l:Addr}{ty:String}{ob:Obj}{n:Nat}{P:Nat→Value→Prop}{St:Addr→Nat→Shared→Prop}{T:Addr→Addr→Nat→Heap→Prop}(hty:ty="list"∨ty="tuple")(tl:s.TypeIs (.ref l) ty)
 (it:∀(A:Around) (s':Shared) (Q:Value→Shared→Prop) (E:Value→Shared→Prop),(∀ b o,s.heap.get? b=some o→s'.heap.get? b=some o)→Q (.ref s'.heap.objs.size) { s' with heap:=s'.heap.push ob }→wpAny (model prog w) A (pyIter (.ref l)) Q E s')
 (W:∀ I,l≠I→WalksS prog w A.in1.in1.in1 I [I,l] [I] (fun a b=>b=a) n P (St I)) (st0:∀ s':Shared,(∀ b o,s.heap.get? b=some o→s'.heap.get? b=some o)→St s'.heap.objs.size 0 { s' with heap:=s'.heap.push ob })
 (keep:∀ S I i h h',s.heap.objs.size≤I→S≠I→T S I i h→(∀ b o,b∉[I]→h.get? b=some o→h'.get? b=some o)→T S I i h') (step:∀ S I,MQ prog w A.in1.in1.in1 S n P (T S I))
 (hT0:∀ led S I (h:Heap),s.heap.objs.size≤S→S<I→(∀ b o,s.heap.get? b=some o→h.get? b=some o)→h.get? S=some { cls:=.type "set",data:=.set #[] 0 (SetTable.fresh 0 0 led) }→T S I 0 h)
 (hQ:∀ h' tk I,(∀ b o,s.heap.get? b=some o→h'.get? b=some o)→T s.heap.objs.size I n h'→Q (.ref s.heap.objs.size) { s with heap:=h',toks:=tk }):
 wpAny (model prog w) A (call (.type "set") [.ref l]) Q E s:=by
 obtain⟨c,tl',hmro⟩:=F.called_set.mro
 refine wpAny_call (codeAny_of_tree (wpAny_pure ⟨Code.quiet_builtin _ (by nofun),codeAny_builtin F.entry_type_call ?_⟩))
 rw[Around.under_plain (weight_type_call_type "set" [.ref l] []) rfl]
 unfold Builtin.«type.__call__»
 dsimp only
 refine wpAny_ite_split (fun h=>absurd h (by decide)) fun _=>?_
 refine wpAny_ite_split (fun h=>absurd h (by nofun)) fun _=>?_
 refine wpAny_bind (wpAny_of_eq (F.typeCall_set_1 _) ?_)
 refine wpAny_bind (wpAny_of_eq hmro ?_)
 refine wpAny_ite_split (fun h=>absurd h (by simp)) fun _=>?_
 refine wpAny_bind (wpAny_of_eq F.called_set.made ?_)
 refine wpAny_bind (wpAny_pure ?_)
 refine wpAny_bind (wpAny_holding (wpAny_call ?_))
 refine codeAny_mono (code_set_new_1 (E:=E) (.ref l) (Q₁:=fun obj s₁=>∃ led,obj=.ref s.heap.objs.size∧s₁={ s with heap:=s.heap.push { cls:=.type "set",data:=.set #[] 0 (SetTable.fresh 0 0 led) } }) fun led=>⟨led,rfl,rfl⟩) fun r s₁ h=>?_
 cases r with
 | error e=>exact h
 | ok fl=>
  cases fl with
  | ret v=>
   obtain⟨led,rfl,rfl⟩:=h
   have hS:(s.heap.push { cls:=.type "set",data:=.set #[] 0 (SetTable.fresh 0 0 led) }).get? s.heap.objs.size=some { cls:=.type "set",data:=.set #[] 0 (SetTable.fresh 0 0 led) }:=Heap.get?_push_size _ rfl
   have kp:∀ b o,s.heap.get? b=some o→(s.heap.push { cls:=.type "set",data:=.set #[] 0 (SetTable.fresh 0 0 led) }).get? b=some o:=fun b o e=>Heap.get?_push_of_some _ e
   have ty':Shared.TypeIs { s with heap:=s.heap.push { cls:=.type "set",data:=.set #[] 0 (SetTable.fresh 0 0 led) } } (.ref s.heap.objs.size) "set":=⟨_,hS,rfl⟩
   have ll:l<s.heap.objs.size:=by obtain⟨o,q,_⟩:=tl;exact Heap.lt_size q
   have tl2:Shared.TypeIs { s with heap:=s.heap.push { cls:=.type "set",data:=.set #[] 0 (SetTable.fresh 0 0 led) } } (.ref l) ty:=by obtain⟨o,q,r⟩:=tl;exact⟨o,kp _ _ q,r⟩
   have sz:(s.heap.push { cls:=.type "set",data:=.set #[] 0 (SetTable.fresh 0 0 led) }).objs.size=s.heap.objs.size+1:=size_push' _ _
   show wpAny _ _ _ _ _ _
   refine wpAny_bind (wpAny_isInstance ty' F.called_set.sub ?_)
   refine wpAny_ite_split (fun h=>absurd h (by decide)) fun _=>?_
   refine wpAny_bind (wpAny_holding ?_)
   unfold callSpecial?
   refine wpAny_bind (wpAny_specialOf ty' F.called_set.init.lookup ?_)
   refine wpAny_holding (wpAny_bind (wpAny_of_eq (F.called_set.init.bind _) ?_))
   refine wpAny_bind (wpAny_call (Gu (A:=A.in1) (s:={ s with heap:=s.heap.push { cls:=.type "set",data:=.set #[] 0 (SetTable.fresh 0 0 led) } }) (n:=n) (P:=P) (T:=T s.heap.objs.size (s.heap.objs.size+1)) hty tl2 hS (Nat.ne_of_gt ll) (fun Q E h=>it _ _ Q E kp h) ?_ (st0 _ kp) ?_ ?_ ?_ fun h' tk hk hso=>?_))
   ·rw[sz];exact W _ (Nat.ne_of_lt (Nat.lt_succ_of_lt ll))
   ·rw[sz];exact fun i h h'=>keep _ _ i h h' (Nat.le_succ _) (Nat.ne_of_lt (Nat.lt_succ_self _))
   ·exact step _ _
   ·exact hT0 led _ _ _ (Nat.le_refl _) (Nat.lt_succ_self _) (fun b o e=>Heap.get?_push_of_some _ (kp b o e)) (Heap.get?_push_of_some _ hS)
   refine wpAny_pure (wpAny_ite_split (fun h=>absurd h (by decide)) fun _=>?_)
   exact wpAny_pure (hQ h' tk _ (fun b o e=>hk b o (Nat.ne_of_lt (Heap.lt_size e)) (kp b o e)) hso)
  | next=>cases h
  | brk=>cases h
  | cont=>cases h
def T7 (h:Heap)(S:Addr)(n:Nat):Prop:=∃ o es ep t,h.get? S=some o∧o.ExactSet∧o.data=.set es ep t∧SetTable.fits t es.size=true∧es.size=n
def UQ (prog:Program)(w:World)(h:Heap)(its:List Value):Prop:=(∃ zs:List Str,Paired (fun v z=>∃ t,v=Value.str z t) its zs∧zs.Nodup)∨∃ ks:List (List BF),Paired (fun v k=>∃ b,v=Value.ref b∧(TK prog w).is h k b) its ks∧ks.Nodup
theorem QS {α β:Type}{F:α→β→Prop}:∀{xs:List α} {ys:List β} {i:Nat} {x:α},Paired F xs ys→xs[i]?=some x→∃ y,ys[i]?=some y∧F x y
 | _,_,_,_,.nil,h=>by cases h
 | _,_,0,_,.cons r _,h=>by cases h;exact⟨_,rfl,r⟩
 | _,_,i+1,_,.cons _ t,h=>QS (i:=i) t h
theorem Oc {α:Type}{l:List α}{i:Nat}{x:α}(h:l.Nodup)(hx:l[i]?=some x):x∉l.take i:=fun hm=>by
 obtain⟨hi,e⟩:=List.getElem?_eq_some_iff.mp hx
 obtain⟨j,hj,ej⟩:=List.mem_take_iff_getElem.mp hm
 have:=List.pairwise_iff_getElem.mp h j i (by omega) hi (by omega)
 exact this (by rw[ej,e])
theorem Gv {P:Program}{h h':Heap}{k:List BF}{a:Addr}(x:(TK P w).is h k a)(hk:∀ o,h.get? a=some o→h'.get? a=some o):(TK P w).is h' k a:=by
 obtain⟨o,i,n,e,r⟩:=x
 exact⟨o,i,n,hk o e,r⟩
theorem MT {S I N:Addr}{its:List Value}{ks:List (List BF)}(hu:A.units<cLine)(h64:its.length<64)(nd:ks.Nodup)(hl:its.length=ks.length)(hS:N≤S):
 MQ prog w A S its.length (fun i v=>its[i]?=some v) (fun i h=>Ic prog w (·<N) h S (ks.take i)∧Paired (fun v k=>∃ b,b<N∧v=Value.ref b∧(TK prog w).is h k b) its ks):=by
 intro i v s' Q E hi hv hT hQ
 obtain⟨hT,hp⟩:=hT
 obtain⟨k,hk,b,hb,rfl,hkb⟩:=QS hp hv
 refine add hu hT hkb hb (Oc nd hk) (by rw[List.length_take];omega) fun h' hkp hT2=>hQ _ _ _ hkp (Nat.le_add_right _ _) ⟨?_,Paired.imp' (fun v k ⟨b,h1,h2,h3⟩=>⟨b,h1,h2,Gv h3 fun o e=>hkp _ _ (Nat.ne_of_lt (Nat.lt_of_lt_of_le h1 hS)) e⟩) hp⟩
 rw[List.take_add_one,hk];exact hT2
end
end L2.TSt
namespace L2.TSt
open PySem PySem.Spec PyProof.Rows PySem.W L2
section
variable {prog:Program}{w:World}{A:Around}{E:Value→Shared→Prop}{s:Shared}
theorem Ln {Q:Value→Shared→Prop}{l:Addr}{its:List Value}{T:Addr→Addr→Nat→Heap→Prop}(hh:A.handled=none)(hl:s.heap.IsList l its.toArray∨s.heap.IsTuple l its.toArray)
 (keep:∀ S I i h h',s.heap.objs.size≤I→S≠I→T S I i h→(∀ b o,b∉[I]→h.get? b=some o→h'.get? b=some o)→T S I i h') (step:∀ S I,MQ prog w A.in1.in1.in1 S its.length (fun i v=>its[i]?=some v) (T S I))
 (hT0:∀ led S I (h:Heap),s.heap.objs.size≤S→S<I→(∀ b o,s.heap.get? b=some o→h.get? b=some o)→h.get? S=some { cls:=.type "set",data:=.set #[] 0 (SetTable.fresh 0 0 led) }→T S I 0 h)
 (hQ:∀ h' tk I,(∀ b o,s.heap.get? b=some o→h'.get? b=some o)→T s.heap.objs.size I its.length h'→Q (.ref s.heap.objs.size) { s with heap:=h',toks:=tk }):
 wpAny (model prog w) A (call (.type "set") [.ref l]) Q E s:=by
 have cv:∀{I fp wr G St},WalksS prog w A.in1.in1.in1 I fp wr G its.toArray.size (fun i v=>its.toArray[i]?=some v) St→WalksS prog w A.in1.in1.in1 I fp wr G its.length (fun i v=>its[i]?=some v) St:=fun W=>by simpa using W
 rcases hl with hl | hl
 ·exact IW (St:=fun I i s=>s.heap.IsListIter I l i∧s.heap.IsList l its.toArray) (.inl rfl) hl.typeIs (fun A s' Q E kp h=>wpAny_pyIter_list (hl.at fun o e=>kp _ _ e) h) (fun I ne=>cv (Walks.list (A:=A.in1.in1.in1) hh I l ne its.toArray).toS) (fun s' kp=>⟨⟨_,Heap.get?_push_size _ rfl,rfl,rfl⟩,hl.at fun o e=>Heap.get?_push_of_some _ (kp _ _ e)⟩) keep step hT0 hQ
 ·exact IW (St:=fun I i s=>s.heap.IsTupleIter I l i∧s.heap.IsTuple l its.toArray) (.inr rfl) hl.typeIs (fun A s' Q E kp h=>wpAny_pyIter_tuple (hl.at fun o e=>kp _ _ e) h) (fun I ne=>cv (Walks.tuple (A:=A.in1.in1.in1) hh I l ne its.toArray).toS) (fun s' kp=>⟨⟨_,Heap.get?_push_size _ rfl,rfl,rfl⟩,hl.at fun o e=>Heap.get?_push_of_some _ (kp _ _ e)⟩) keep step hT0 hQ
theorem QT {Q:Value→Shared→Prop}{l:Addr}{its:List Value}(hh:A.handled=none)(hu:A.units+3<cLine)(hl:s.heap.IsList l its.toArray∨s.heap.IsTuple l its.toArray)(h64:its.length<64)(el:UQ prog w s.heap its)
 (hQ:∀ h' tk,(∀ b o,s.heap.get? b=some o→h'.get? b=some o)→T7 h' s.heap.objs.size its.length→Q (.ref s.heap.objs.size) { s with heap:=h',toks:=tk }):
 wpAny (model prog w) A (call (.type "set") [.ref l]) Q E s:=by
 rcases el with⟨zs,hp,nd⟩ | ⟨ks,hp,nd⟩
 ·have ll:its.length=zs.length:=Paired.length hp
  refine Ln (T:=fun S I i h=>Heap.SetOf (strKind prog w) h S (seen (fun i=>zs.getD i (Str.ofString "")) i) i) hh hl (fun S I i h h' _ ne hT kp=>NR hT fun o e=>kp _ _ (by simpa using ne) e) (fun S I i v s' Q E hi hv hT hq=>?_) (fun led S I h _ _ _ hS=>⟨_,_,_,_,hS,⟨rfl,rfl,rfl⟩,rfl,(fun e he=>by cases he),(fun k=>⟨fun z=>(by cases z),fun⟨e,he,_⟩=>(by cases he)⟩),(by show 0<4096;decide),rfl,rfl⟩) fun h' tk I kp hT=>hQ h' tk kp ?_
  ·obtain⟨z,hz,t,rfl⟩:=QS hp hv
   have ez:zs.getD i (Str.ofString "")=z:=by rw[List.getD_eq_getElem?_getD,hz];rfl
   have is:(strKind prog w).is (zs.getD i (Str.ofString "")) (.str z t)=true:=by rw[ez];exact Kr _ _
   unfold setAdd
   refine wpAny_holding (wpAny_bind ((strKind prog w).pyHash is ?_))
   refine wpAny_setAddHashed_of is rfl hT (by show i+1<4096;omega) fun h' hsb hso2=>hq _ _ _ (fun c o hc e=>by rw[hsb.2 c hc];exact e) (Nat.le_succ _) ?_
   rw[ML,OX (fun j hj=>?_),if_neg (by decide)]at hso2
   ·exact hso2
   ·rw[List.getD_eq_getElem?_getD,List.getD_eq_getElem?_getD,List.getElem?_eq_getElem (show i<zs.length by omega),List.getElem?_eq_getElem (show j<zs.length by omega)]
    exact List.pairwise_iff_getElem.mp nd j i _ _ hj
  ·obtain⟨o,es,ep,t,e1,e2,e3,_,_,_,e7,e8⟩:=hT
   exact⟨o,es,ep,t,e1,e2,e3,e7,e8⟩
 ·have ll:its.length=ks.length:=Paired.length hp
  have hp':Paired (fun v k=>∃ b,b<s.heap.objs.size∧v=Value.ref b∧(TK prog w).is s.heap k b) its ks:=Paired.imp' (fun v k ⟨b,h1,h2⟩=>⟨b,by obtain⟨o,i,n,e,_⟩:=h2;exact Heap.lt_size e,h1,h2⟩) hp
  refine Ln (T:=fun S I i h=>s.heap.objs.size≤S∧Ic prog w (·<s.heap.objs.size) h S (ks.take i)∧Paired (fun v k=>∃ b,b<s.heap.objs.size∧v=Value.ref b∧(TK prog w).is h k b) its ks) hh hl (fun S I i h h' hI ne hT kp=>?_) (fun S I i v s' Q E hi hv hT hq=>?_) (fun led S I h lS _ kp hS=>?_) fun h' tk I kp hT=>hQ h' tk kp ?_
  ·obtain⟨lS,⟨o,es,ep,t,ho,r1,r2,r3,r4,r5,r6,r7,r8⟩,hp⟩:=hT
   have kb:∀{k b},b<s.heap.objs.size→(TK prog w).is h k b→(TK prog w).is h' k b:=fun hb x=>Gv x fun o e=>kp _ _ (by simp;omega) e
   exact⟨lS,⟨o,es,ep,t,kp _ _ (by simpa using ne) ho,r1,r2,r3,r4,r5,r6,r7,fun e he=>let ⟨k,m1,b,m2,m3,m4⟩:=r8 e he;⟨k,m1,b,m2,m3,kb m2 m4⟩⟩,Paired.imp' (fun v k ⟨b,h1,h2,h3⟩=>⟨b,h1,h2,kb h1 h3⟩) hp⟩
  ·exact MT (I:=I) (show A.in1.in1.in1.units<cLine from hu) h64 nd ll hT.1 i v s' Q E hi hv hT.2 fun b h' tk x y z=>hq b h' tk x y ⟨hT.1,z⟩
  ·exact⟨lS,⟨_,_,_,_,hS,⟨rfl,rfl,rfl⟩,rfl,rfl,rfl,.inl rfl,(by show 0*5<7*3;decide),rfl,fun e he=>by cases he⟩,Paired.imp' (fun v k ⟨b,h1,h2,h3⟩=>⟨b,h1,h2,Gv h3 fun o e=>kp _ _ e⟩) hp'⟩
  ·obtain⟨_,⟨o,es,ep,t,ho,r1,r2,r3,r4,r5,r6,r7,r8⟩,hp⟩:=hT
   refine⟨o,es,ep,t,ho,r1,r2,De r3 r4 (by omega),?_⟩
   rw[r7,List.length_take,ll,Nat.min_self]
end
section
variable {X:Cx}
def NZ (K:PySem.W.Frag)(te:TE):TE:=fun σ H Q=>te σ H fun x H1=>∃(a:Addr) (us:List V),x=.ref a∧(A3 K H1 a us∨Ao K H1 a us)∧us.length<64∧((∃ zs:List Str,us=zs.map V.str∧zs.Nodup)∨∃ ks:List (List BF),Paired (fun v k=>∃ b,v=.ref b∧H1 b=some (.tup (k.map kV))) us ks∧ks.Nodup)∧Q (.int us.length) H1
theorem pe_lensetG {e:Expr}{te:TE}{p p2 pos pos2:Pos}(hu:X.A.units+3<cLine)(hc:X.calm=true)(hg:Gl X "len")(hm:X.mg "len"=none)(hv:bootBuiltins "len"=some (.builtin "len"))(hg2:Gl X "set")(hm2:X.mg "set"=none)(he:PE X e te)
 (hs:starEach [e] X.env=(false,eval e X.env)::starEach [] X.env:=by rfl):
 PE X (.Call (.Name "len" p) [.Call (.Name "set" p2) [e] [] pos2] [] pos) (NZ X.K te):=by
 intro pins s σ H Q I h
 refine wpAny_Call_Name_kw (DJ I hg hm hv ?_)
 refine PyProof.Rows.callWith_builtin1 ?_ rfl rfl
 show wpAny _ _ (spliced ((false,eval (.Call (.Name "set" p2) [e] [] pos2) X.env)::backTo pos (starEach [] X.env))) _ _ s
 refine Calls.spliced_cons ?_
 refine wpAny_Call_Name_kw (DJ I hg2 hm2 QN ?_)
 refine PyProof.Rows.callWith_type1 ?_ hs rfl
 rw[hs]
 show wpAny _ _ (spliced ((false,eval e X.env)::backTo pos2 (starEach [] X.env))) _ _ s
 refine Calls.spliced_cons (BZ (he pins s σ H _ I h) fun u s1 ⟨x,H1,I1,r1,q1⟩=>Calls.spliced_nil ?_)
 obtain⟨a,us,rfl,hq,h64,hel,q⟩:=q1
 cases r1
 obtain⟨its,rv,pl⟩:∃ its,A2 us its∧(s1.heap.IsList a its.toArray∨s1.heap.IsTuple a its.toArray):=by
  rcases hq with hq | hq
  ·obtain⟨its,rv,pl,_⟩:=I1.list hq
   exact⟨its,rv,.inl pl.isList⟩
  ·obtain⟨its,rv,pl,_⟩:=I1.tuple hq
   exact⟨its,rv,.inr pl⟩
 have hlen:=rv.length
 have el:UQ X.prog X.w s1.heap its:=by
  rcases hel with⟨zs,rfl,nd⟩ | ⟨ks,hp,nd⟩
  ·refine .inl ⟨zs,?_,nd⟩
   clear hq hlen h64 nd q pl
   induction zs generalizing its with
   | nil=>cases rv;exact .nil
   | cons z zs ih=>
    cases rv with
    | cons r t=>exact .cons r (ih _ t)
  ·refine .inr ⟨ks,?_,nd⟩
   clear hq hlen h64 nd q pl
   induction hp generalizing its with
   | nil=>cases rv;exact .nil
   | cons r t ih=>
    cases rv with
    | cons r' t'=>
     obtain⟨b,rfl,hb⟩:=r
     cases r'
     exact .cons ⟨b,rfl,Fl I1.hok hb⟩ (ih _ t')
 refine QT (I.ok.hd hc) hu pl (by omega) el fun h' tk hk hso=>?_
 obtain⟨o,es,ep,t,e1,e2,e3,e7,e8⟩:=hso
 refine Calls.spliced_nil (call_len_set e1 e2 e3 e7 (by rw[e8];omega) ?_)
 have I2:Ah X pins σ H1 { s1 with heap:=h',toks:=tk }:=I1.kept (t':=tk) fun b o e=>hk b o e
 exact⟨.int us.length,H1,I2.tok _,⟨_,by rw[e8,hlen]⟩,q⟩
end
end L2.TSt
namespace L2.GS
open PySem PySem.Spec PyProof.Rows L2 L2.PSt
structure KK (P:Program)(w:World)(α:Type) where
 At:Heap→Value→α→Prop
 lt:α→α→Bool
 κ:SortKind
 d:α
 ord:∀ k:Nat→α,StrT.Ord fun i j=>lt (k i) (k j)
 keep:∀{h h':Heap} {v:Value} {p:α},(∀ b o,h.get? b=some o→o.cls=.type "tuple"→h'.get? b=some o)→At h v p→At h' v p
 ask:∀{A:Around} {s:Shared} {x y:Value} {p q:α} {C:Bool→Shared→Prop},At s.heap x p→At s.heap y q→(p=q→x=y)→C (lt p q) s→wpAny (model P w) A (keyLt' κ x y) C (fun _ _=>False) s
 kind:∀{A:Around} {E:Value→Shared→Prop} {s:Shared} {vs:List Value} {ps:List α} {Q:SortKind→Shared→Prop},2≤vs.length→Paired (At s.heap) vs ps→Q κ s→wpAny (model P w) A (keyKind' vs.toArray) Q E s
theorem QU {α:Type}{zs:List α}(nd:zs.Nodup){i j:Nat}(li:i<zs.length)(lj:j<zs.length)(e:zs[i]=zs[j]):i=j:=by
 rcases Nat.lt_trichotomy i j with h | h | h
 ·exact absurd e (List.pairwise_iff_getElem.mp nd i j li lj h)
 ·exact h
 ·exact absurd e.symm (List.pairwise_iff_getElem.mp nd j i lj li h)
section
variable {P:Program}{w:World}{A:Around}{E:Value→Shared→Prop}{s:Shared}{α:Type}(K:KK P w α)
abbrev Jv (zs:List α):Prop:=zs.Pairwise fun p q=>K.lt q p=false
theorem Na {ks vs:List Value}{zs:List α}(r:Paired (K.At s.heap) ks zs)(nd:zs.Nodup)(hl:ks.length=vs.length)(h2:2≤vs.length)(h64:vs.length<64){Q:SortSt→Shared→Prop}
 (h:∀ st' out zs',(arrOf st').map (·.2)=List.toArray out→failedOf st'=none→out.length=vs.length→(∀ F:Value→α→Prop,Paired F vs zs→Paired F out zs')→zs'.Perm zs→Jv K zs'→Q st' s):
 wpAny (model P w) A (sortRuns'.run (SortSt.mk' K.κ (ks.toArray.zip vs.toArray) #[] 7 none)) (fun r s'=>Q r.2 s') E s:=by
 have hlen:ks.length=zs.length:=Paired.length r
 refine PySem.W.kat_run (κ:=K.κ) (G:=fun p s'=>s'=s∧p.size=vs.length∧p.toList.Perm (List.range vs.length)∧StrT.Up (fun i j=>K.lt (zs.getD i K.d) (zs.getD j K.d)) p vs.length) hl h2 h64 ?_ ?_
 ·rintro p st' s' hp har hf ⟨rfl,hz,hperm,hup⟩
  refine h st' _ (p.toList.map fun i=>zs.getD i K.d) (PySem.W.kat_snds hl har) hf (by simp[hz]) (fun F rF=>Es fun i hi=>?_) ?_ ?_
  ·have:i<vs.length:=by simpa using hperm.mem_iff.mp hi
   exact DD rF this
  ·have e:=hperm.map fun i=>zs.getD i K.d
   rw[← hl,hlen,Ki]at e
   exact e
  ·show List.Pairwise _ _
   rw[List.pairwise_map,List.pairwise_iff_getElem]
   intro i j hi hj hij
   have hj':j<p.size:=by simpa using hj
   have hi':i<p.size:=by simpa using hi
   have u:=hup i j (Nat.le_of_lt hij) (by omega)
   have gi:StrT.gg p i=p.toList[i]:=by simp[StrT.gg,Array.getD,hi']
   have gj:StrT.gg p j=p.toList[j]:=by simp[StrT.gg,Array.getD,hj']
   rw[gi,gj]at u
   exact u
 ·refine PN (N:=vs.length) (lt:=fun i j=>K.lt (zs.getD i K.d) (zs.getD j K.d)) (fun i j C hi hj hC=>?_) (fun p hp=>⟨rfl,hp⟩) (StrT.sort_ (K.ord _) (by omega))
  refine K.ask (DD r (by omega)) (DD r (by omega)) (fun e=>?_) hC
  have li:i<zs.length:=by omega
  have lj:j<zs.length:=by omega
  rw[List.getD_eq_getElem?_getD,List.getD_eq_getElem?_getD,List.getElem?_eq_getElem li,List.getElem?_eq_getElem lj]at e
  rw[QU nd li lj e]
def Od (P:Program)(w:World)(A:Around)(s:Shared)(l:Addr)(vs:List Value):Prop:=∀(Q:List Value→Shared→Prop) (E:Value→Shared→Prop),(∀ h1 t1,(∀ b o,s.heap.get? b=some o→h1.get? b=some o)→s.heap.objs.size<h1.objs.size→Q vs { s with heap:=h1,toks:=t1 })→wpAny (model P w) A (collect (.ref l)) Q E s
theorem Oe {a:Addr}{vs:List Value}{ps:List α}{n:Nat}{R:PySem.Fin→Shared→Prop}(ho:s.heap.get? a=some (seqObj "list" vs.toArray n))(r:Paired (K.At s.heap) vs ps)(nd:ps.Nodup)(h64:vs.length<64)
 (h:∀(out:List Value) (ps':List α),(∀ F:Value→α→Prop,Paired F vs ps→Paired F out ps')→out.length=vs.length→ps'.Perm ps→Jv K ps'→R (.done (.ret .none)) { s with heap:=sortedHeap s.heap a vs out.toArray }):
 wpAny (model P w) A (Builtin.«list.sort» ⟨[.ref a],[]⟩) R E s:=by
 have ha:a<s.heap.objs.size:=Heap.lt_size ho
 have hz:sizeLine=16777216:=sizeLine_eq
 rw[list_sort_plain]
 refine wpAny_bind (listItems_at ho rfl (wpAny_bind (listUpdate_at ho rfl ?_ (by rw[List.size_toArray];omega) (Nat.zero_le _))))
 obtain⟨e1,ho1⟩:∃ e1,(s.heap.update a (Obj.mapSeq fun _=>#[])).get? a=some (seqObj "list" #[] e1):=⟨_,get?_update_seq ho _⟩
 refine wpAny_bind (seqEpoch_at ho1 rfl (wpAny_bind (wpAny_newTuple (wpAny_bind (wpAny_newList (wpAny_holding ?_) (Nat.zero_le _))) (by show vs.length≤_;omega))))
 show wpAny (model P w) A _ R E { s with heap:=((s.heap.update a (Obj.mapSeq fun _=>#[])).push (seqObj "tuple" vs.toArray 0)).push (seqObj "list" #[] 0) }
 generalize hg:((s.heap.update a (Obj.mapSeq fun _=>#[])).push (seqObj "tuple" vs.toArray 0)).push (seqObj "list" #[] 0)=hh
 have hk:∀ b o,b≠a→s.heap.get? b=some o→hh.get? b=some o:=fun b o hb e=>by
  subst hg
  exact Heap.get?_push_of_some _ (Heap.get?_push_of_some _ ((Heap.get?_update_ne _ _ _ _ hb).trans e))
 have ho6:hh.get? a=some (seqObj "list" #[] e1):=by
  subst hg
  exact Heap.get?_push_of_some _ (Heap.get?_push_of_some _ ho1)
 have he:∀ out:List Value,sortedHeap s.heap a vs out.toArray=hh.update a (Obj.mapSeq fun _=>out.toArray):=fun out=>by subst hg;rfl
 have ends:∀(st':SortSt) (out:List Value) (ps':List α),(arrOf st').map (·.2)=List.toArray out→failedOf st'=none→(∀ F:Value→α→Prop,Paired F vs ps→Paired F out ps')→out.length=vs.length→ps'.Perm ps→Jv K ps'→
  wpAny (model P w) A (do
   let touched:=(← seqEpoch a) != e1
   Builtin.List.listUpdate (.ref a) fun _=>(arrOf st').map (·.2)
   if let some e:=failedOf st' then rule "list.sort.comparison-raised";throw e
   if touched then rule "list.sort.modified";raiseError "ValueError" "list modified during sort"
   ret .none) R E { s with heap:=hh }:=fun st' out ps' h1 hf h3 h4 h5 h6=>by
  refine wpAny_bind (seqEpoch_at ho6 rfl (wpAny_bind (listUpdate_at ho6 rfl ?_ (Nat.zero_le _) (by rw[h1,List.size_toArray];omega))))
  rw[h1,hf]
  simp only[bne_self_eq_false,Bool.false_eq_true,if_false]
  have q:=h out ps' h3 h4 h5 h6
  rw[he]at q
  exact wpAny_pure q
 dsimp only
 by_cases c2:vs.toArray.size<2
 ·rw[if_pos c2,if_pos c2]
  refine wpAny_bind (wpAny_pure ?_)
  rw[StateT.run_pure]
  refine wpAny_bind (wpAny_pure (ends (SortSt.mk' general' (vs.toArray.zip vs.toArray) #[] 7 none) vs ps ?_ rfl (fun _ x=>x) rfl (List.Perm.refl _) ?_))
  ·show((pairsOf vs).map (·.2))=_
   apply Array.toList_inj.mp
   rw[Array.toList_map,pairsOf_toList]
   exact List.map_snd_zip (Nat.le_refl _)
  ·have hl:vs.length=ps.length:=Paired.length r
   rw[List.size_toArray]at c2
   match ps,hl with
   | [],_=>exact .nil
   | [_],_=>exact List.pairwise_singleton _ _
   | _::_::_,hl=>simp at hl;omega
 ·rw[if_neg c2,if_neg c2]
  rw[List.size_toArray]at c2
  have r':Paired (K.At hh) vs ps:=Paired.imp' (fun v p x=>K.keep (fun b o e c=>hk b o (fun z=>by subst z;rw[ho]at e;cases e;exact absurd (Value.type.inj c) (by decide)) e) x) r
  refine wpAny_bind (K.kind (s:={ s with heap:=hh }) (by omega) r' (wpAny_bind (wpAny_mono (Na K (s:={ s with heap:=hh }) (ks:=vs)
   (Q:=fun st' s'=>s'={ s with heap:=hh }∧∃ out ps',(arrOf st').map (·.2)=List.toArray out∧failedOf st'=none∧out.length=vs.length∧(∀ F:Value→α→Prop,Paired F vs ps→Paired F out ps')∧ps'.Perm ps∧Jv K ps')
   r' nd rfl (by omega) h64 fun st' out ps' h1 hf h4 h3 h5 h6=>⟨rfl,out,ps',h1,hf,h4,h3,h5,h6⟩) ?_ fun _ _ e=>e)))
  rintro⟨_,st'⟩ s' ⟨rfl,out,ps',h1,hf,h4,h3,h5,h6⟩
  exact ends st' out ps' h1 hf h3 h4 h5 h6
theorem IX {l:Addr}{vs:List Value}{ps:List α}{Q:Value→Shared→Prop}(hl:Od P w A.in1 s l vs)(r:Paired (K.At s.heap) vs ps)(nd:ps.Nodup)(h64:vs.length<64)
 (h:∀(D:Addr) (h':Heap) (t' c:Nat) (out:List Value) (ps':List α),s.heap.objs.size≤D→(∀ b o,s.heap.get? b=some o→h'.get? b=some o)→h'.get? D=some (seqObj "list" out.toArray c)→(∀ F:Value→α→Prop,Paired F vs ps→Paired F out ps')→out.length=vs.length→ps'.Perm ps→Jv K ps'→Q (.ref D) { s with heap:=h',toks:=t' }):
 wpAny (model P w) A (call (.builtin "sorted") [.ref l]) Q E s:=by
 have hz0:sizeLine=16777216:=sizeLine_eq
 refine Calls.call_function_entry kind_sorted plain_sorted entry_sorted (args_sorted1 _) ?_
 unfold Builtin.«sorted»
 refine wpAny_bind (m:=checkCount "sorted" 1 1 _) (wpAny_pure (wpAny_bind (hl _ _ fun h1 t1 kp1 Nx=>wpAny_bind (wpAny_newList ?_ (by omega)))))
 have hn:(h1.push (seqObj "list" vs.toArray 0)).get? h1.objs.size=some (seqObj "list" vs.toArray 0):=Heap.get?_push_size _ rfl
 have kp:∀ b o,s.heap.get? b=some o→(h1.push (seqObj "list" vs.toArray 0)).get? b=some o:=fun b o e=>Heap.get?_push_of_some _ (kp1 b o e)
 have r':Paired (K.At (h1.push (seqObj "list" vs.toArray 0))) vs ps:=Paired.imp' (fun v p x=>K.keep (fun b o e _=>kp b o e) x) r
 refine wpAny_bind (wpAny_holding (wpAny_call_entry (s:={ s with heap:=h1.push (seqObj "list" vs.toArray 0),toks:=t1 }) slot_list_sort ⟨_,hn,rfl⟩ entry_list_sort (Oe K (s:={ s with heap:=h1.push (seqObj "list" vs.toArray 0),toks:=t1 }) hn r' nd h64 fun out ps' m1 m2 m3 m4=>⟨_,rfl,wpAny_pure ⟨_,rfl,?_⟩⟩) (args_list_sort _)))
 have lt:s.heap.objs.size<h1.objs.size:=Nx
 obtain⟨c,hc⟩:∃ c,(sortedHeap (h1.push (seqObj "list" vs.toArray 0)) h1.objs.size vs out.toArray).get? h1.objs.size=some (seqObj "list" out.toArray c):=⟨_,get?_update_seq (Heap.get?_push_of_some _ (Heap.get?_push_of_some _ (get?_update_seq hn fun _=>#[]))) fun _=>out.toArray⟩
 refine h h1.objs.size _ t1 c out ps' (Nat.le_of_lt lt) (fun b o e=>?_) hc m1 m2 m3 m4
 have hb:b≠h1.objs.size:=Nat.ne_of_lt (Nat.lt_trans (Heap.lt_size e) lt)
 exact(Heap.get?_update_ne _ _ _ _ hb).trans (Heap.get?_push_of_some _ (Heap.get?_push_of_some _ ((Heap.get?_update_ne _ _ _ _ hb).trans (kp b o e))))
theorem Lo {a kS:Addr}{ks out:List Value}{e1 cs:Nat}{st:SortSt}{R:PySem.Fin→Shared→Prop}(ho:s.heap.get? a=some (seqObj "list" #[] e1))(hk:s.heap.get? kS=some (seqObj "list" ks.toArray cs))(ne:a≠kS)(h1:(arrOf st).map (·.2)=List.toArray out)(hf:failedOf st=none)(hz:out.length≤64)(hz2:ks.length≤64)
 (h:R (.done (.ret .none)) { s with heap:=(s.heap.update kS (Obj.mapSeq fun _=>#[])).update a (Obj.mapSeq fun _=>out.toArray) }):
 wpAny (model P w) A (ksk_tail a false e1 (.ref kS) st) R E s:=by
 have hs:sizeLine=16777216:=sizeLine_eq
 unfold ksk_tail
 simp only[Bool.false_eq_true,if_false,h1,hf]
 refine wpAny_bind (listUpdate_at hk rfl ?_ (by rw[List.size_toArray];omega) (Nat.zero_le _))
 have ho7:(s.heap.update kS (Obj.mapSeq fun _=>#[])).get? a=some (seqObj "list" #[] e1):=(Heap.get?_update_ne _ _ _ _ ne).trans ho
 refine wpAny_bind (wpAny_letGo ?_)
 refine wpAny_bind (seqEpoch_at (s:={ s with heap:=s.heap.update kS (Obj.mapSeq fun _=>#[]) }) ho7 rfl ?_)
 refine wpAny_bind (listUpdate_at (s:={ s with heap:=s.heap.update kS (Obj.mapSeq fun _=>#[]) }) ho7 rfl ?_ (Nat.zero_le _) (by rw[List.size_toArray];omega))
 show wpAny _ _ (if(e1 != e1)=true then _ else ret .none) _ _ _
 rw[if_neg (by simp)]
 exact wpAny_pure h
theorem QV {a kS:Addr}{ks vs:List Value}{zs:List α}{e1 cs:Nat}{R:PySem.Fin→Shared→Prop}(ho:s.heap.get? a=some (seqObj "list" #[] e1))(hk:s.heap.get? kS=some (seqObj "list" ks.toArray cs))(ne:a≠kS)(r:Paired (K.At s.heap) ks zs)(nd:zs.Nodup)(hl:ks.length=vs.length)(h64:vs.length<64)
 (h:∀(out:List Value) (zs':List α),(∀ F:Value→α→Prop,Paired F vs zs→Paired F out zs')→out.length=vs.length→zs'.Perm zs→Jv K zs'→R (.done (.ret .none)) { s with heap:=(s.heap.update kS (Obj.mapSeq fun _=>#[])).update a (Obj.mapSeq fun _=>out.toArray) }):
 wpAny (model P w) A (ksk_end a false vs.toArray e1 (.ref kS) ks.toArray) R E s:=by
 unfold ksk_end
 dsimp only
 rw[if_neg (by decide)]
 by_cases c2:vs.toArray.size<2
 ·rw[if_pos c2,if_pos c2]
  refine wpAny_bind (wpAny_pure ?_)
  rw[StateT.run_pure]
  refine wpAny_bind (wpAny_pure ?_)
  refine Lo (out:=vs) ho hk ne ?_ rfl (by omega) (by omega) (h vs zs (fun _ x=>x) rfl (List.Perm.refl _) ?_)
  ·show(ks.toArray.zip vs.toArray).map (·.2)=_
   apply Array.toList_inj.mp
   rw[Array.toList_map,ksk_zip]
   exact List.map_snd_zip (by simp[hl])
  ·have hz:ks.length=zs.length:=Paired.length r
   rw[List.size_toArray]at c2
   match zs,(show zs.length<2 by omega)with
   | [],_=>exact .nil
   | [_],_=>exact List.pairwise_singleton _ _
 ·rw[if_neg c2,if_neg c2]
  rw[List.size_toArray]at c2
  refine wpAny_bind (K.kind (by omega) r (wpAny_bind (wpAny_mono (Na K (Q:=fun st' s'=>s'=s∧∃ out zs',(arrOf st').map (·.2)=List.toArray out∧failedOf st'=none∧out.length=vs.length∧(∀ F:Value→α→Prop,Paired F vs zs→Paired F out zs')∧zs'.Perm zs∧Jv K zs')
   r nd hl (by omega) h64 fun st' out zs' h1 hf h4 h3 h5 h6=>⟨rfl,out,zs',h1,hf,h4,h3,h5,h6⟩) ?_ fun _ _ e=>e)))
  rintro⟨_,st'⟩ s' ⟨rfl,out,zs',h1,hf,h4,h3,h5,h6⟩
  exact Lo ho hk ne h1 hf (by omega) (by omega) (h out zs' h3 h4 h5 h6)
theorem Of {J:Shared→Prop}{a kS:Addr}{f:Value}{vs:List Value}{zs:List α}{Kv:Value→α→Prop}(lift:∀ s' v z,J s'→Kv v z→K.At s'.heap v z)(nd:zs.Nodup){e1:Nat}{R:PySem.Fin→Shared→Prop}(hJ:J s)(ho:s.heap.get? a=some (seqObj "list" #[] e1))(hk:s.heap.get? kS=some (seqObj "list" #[] 0))(ne:a≠kS)(hl:zs.length=vs.length)(h64:vs.length<64)
 (turn:∀(i:Nat) (v:Value) (z:α),vs[i]?=some v→zs[i]?=some z→∀ s',J s'→wpAny (model P w) A (call f [v]) (fun r s''=>Kv r z∧J s''∧∀ o,(s'.heap.get? a=some o→s''.heap.get? a=some o)∧(s'.heap.get? kS=some o→s''.heap.get? kS=some o)) (fun _ _=>False) s')
 (push:∀(s':Shared) (ks:List Value) (c:Nat) (v:Value) (z:α),Kv v z→J s'→s'.heap.get? kS=some (seqObj "list" ks.toArray c)→ks.length<64→J { s' with heap:=s'.heap.update kS (Obj.mapSeq (·.push v)) })
 (h:∀(s':Shared) (ks:List Value) (c:Nat) (out:List Value) (zs':List α),J s'→s'.heap.get? a=some (seqObj "list" #[] e1)→s'.heap.get? kS=some (seqObj "list" ks.toArray c)→(∀ F:Value→α→Prop,Paired F vs zs→Paired F out zs')→out.length=vs.length→zs'.Perm zs→Jv K zs'→R (.done (.ret .none)) { s' with heap:=(s'.heap.update kS (Obj.mapSeq fun _=>#[])).update a (Obj.mapSeq fun _=>out.toArray) }):
 wpAny (model P w) A (ksk_rest a f false vs.toArray e1 (.ref kS)) R E s:=by
 have hs0:sizeLine=16777216:=sizeLine_eq
 unfold ksk_rest
 refine wpAny_bind (wpAny_rule ?_)
 first
  | rw[List.forIn_toArray]
  | (rw[← Array.forIn_toList];simp only[List.toList_toArray])
  | rw[← Array.forIn_toList]
 refine wpAny_bind (ksk_fold (fun i s'=>∃(ks:List Value) (c:Nat),J s'∧s'.heap.get? a=some (seqObj "list" #[] e1)∧s'.heap.get? kS=some (seqObj "list" ks.toArray c)∧Paired Kv ks (zs.take i)) vs 0 s
  ⟨[],0,hJ,ho,hk,.nil⟩ ?step ?done)
 case step=>
  rintro j x s' hx ⟨ks,c,J',ho',hk',r⟩
  simp only[Nat.zero_add]at r ⊢
  have hj:j<vs.length:=(List.getElem?_eq_some_iff.mp hx).1
  obtain⟨z,hzj⟩:∃ z,zs[j]?=some z:=⟨_,List.getElem?_eq_getElem (by omega)⟩
  have hz:ks.length≤vs.length:=by
   have h1:=Paired.length r
   rw[List.length_take]at h1
   omega
  refine wpAny_bind (wpAny_attempt (wpAny_mono (turn j x z hx hzj s' J') (fun v s'' he=>?_) fun _ _ hF=>hF.elim))
  obtain⟨tx,J2,kp⟩:=he
  try dsimp only
  have na:=(kp _).1 ho'
  have nk:=(kp _).2 hk'
  refine wpAny_bind (listUpdate_at nk rfl ?_ (by rw[List.size_toArray];omega) (Nat.le_trans (Nat.le_of_eq (Array.size_push ..)) (by rw[List.size_toArray];omega)))
  have ek:zs.take (j+1)=zs.take j++[z]:=by rw[List.take_add_one,hzj];simp
  obtain⟨c2,hc2⟩:∃ c2,(s''.heap.update kS (Obj.mapSeq (·.push v))).get? kS=some (seqObj "list" (ks++[v]).toArray c2):=⟨_,by
   have:=get?_update_seq nk (·.push v)
   rw[show ks.toArray.push v=(ks++[v]).toArray by simp]at this
   exact this⟩
  exact wpAny_pure ⟨rfl,ks++[v],c2,push _ _ _ _ _ tx J2 nk (by omega),(Heap.get?_update_ne _ _ _ _ ne).trans na,hc2,by rw[ek];exact Paired.snoc r tx⟩
 case done=>
  rintro s' ⟨ks,c,J',ho',hk',r⟩
  have r':Paired Kv ks zs:=by
   rw[List.take_of_length_le (by omega)]at r
   exact r
  try dsimp only
  refine wpAny_bind (listItems_at hk' rfl ?_)
  exact QV K ho' hk' ne (Paired.imp' (fun v z x=>lift s' v z J' x) r') nd ((Paired.length r').trans hl) h64 fun out zs' a1 a2 a3 a4=>h s' ks c out zs' J' ho' hk' a1 a2 a3 a4
theorem MU {l f:Addr}{vs:List Value}{Q:Value→Shared→Prop}(hl:Od P w A.in1 s l vs)(h64:vs.length<64)
 (h:∀(hh:Heap) (t1:Nat) (e1 D kS:Nat) (R:PySem.Fin→Shared→Prop),(∀ b o,s.heap.get? b=some o→hh.get? b=some o)→s.heap.objs.size≤D→D<kS→hh.get? D=some (seqObj "list" #[] e1)→hh.get? kS=some (seqObj "list" #[] 0)→(∀ s',Q (.ref D) s'→R (.done (.ret .none)) s')→wpAny (model P w) A.in1.in1 (ksk_rest D (.ref f) false vs.toArray e1 (.ref kS)) R E { s with heap:=hh,toks:=t1 }):
 wpAny (model P w) A (call (.builtin "sorted") [.ref l] [("key",.ref f)]) Q E s:=by
 have hs0:sizeLine=16777216:=sizeLine_eq
 refine call_function_entry_kw kind_sorted plain_sorted entry_sorted (by ksk_a1) ?_
 unfold Builtin.«sorted»
 refine wpAny_bind (m:=checkCount "sorted" 1 1 _) (wpAny_pure (wpAny_bind (hl _ _ fun h1 t1 kp1 Nx=>wpAny_bind (wpAny_newList ?_ (by omega)))))
 have hn:(h1.push (seqObj "list" vs.toArray 0)).get? h1.objs.size=some (seqObj "list" vs.toArray 0):=Heap.get?_push_size _ rfl
 have kp:∀ b o,s.heap.get? b=some o→(h1.push (seqObj "list" vs.toArray 0)).get? b=some o:=fun b o e=>Heap.get?_push_of_some _ (kp1 b o e)
 have lt:s.heap.objs.size<h1.objs.size:=Nx
 refine wpAny_bind (wpAny_holding (wpAny_call_entry_kw (s:={ s with heap:=h1.push (seqObj "list" vs.toArray 0),toks:=t1 }) slot_list_sort ⟨_,hn,rfl⟩ entry_list_sort (KSt.sort_keyed (s:={ s with heap:=h1.push (seqObj "list" vs.toArray 0),toks:=t1 }) hn h64 fun hh e1 kS hk hkS ho2 hk2=>?_) (by ksk_a2)))
 have hz:(h1.push (seqObj "list" vs.toArray 0)).objs.size=h1.objs.size+1:=size_push' _ _
 refine h hh t1 e1 h1.objs.size kS _ (fun b o e=>hk b o (Nat.ne_of_lt (Nat.lt_trans (Heap.lt_size e) lt)) (kp b o e)) (Nat.le_of_lt lt) (by have:(h1.push (seqObj "list" vs.toArray 0)).objs.size<kS:=hkS;omega) ho2 hk2 fun s' q=>?_
 exact⟨_,rfl,wpAny_pure ⟨_,rfl,q⟩⟩
end
end L2.GS
namespace L2.GS
open PySem PySem.Spec PyProof.Rows L2 L2.PSt
section
variable {P:Program}{w:World}{A:Around}{E:Value→Shared→Prop}{s:Shared}
def PU (P:Program)(w:World):KK P w Str where
 At:=fun _ v z=>KSt.TxAt v z
 lt:=KSt.slt
 κ:=oneType'
 d:=PSt.d0
 ord:=KSt.slt_ord
 keep:=fun _ x=>x
 ask:=fun hx hy _ h=>KSt.slt_ask hx hy h
 kind:=fun h2 r h=>KSt.keys_kind h2 r h
abbrev CK:=Str×Int×Int
def clt (p q:CK):Bool:=if p.1=q.1 then L2.QE p.2 q.2 else KSt.slt p.1 q.1
theorem Nb {p q:CK}:clt p q=false↔(p.1=q.1∧L2.QE p.2 q.2=false)∨q.1.cps.toList<p.1.cps.toList:=by
 unfold clt
 by_cases e:p.1=q.1
 ·rw[if_pos e]
  refine⟨fun h=>.inl ⟨e,h⟩,fun h=>?_⟩
  rcases h with h | h
  ·exact h.2
  ·rw[e]at h;exact absurd h (List.lt_irrefl _)
 ·rw[if_neg e]
  unfold KSt.slt
  rw[decide_eq_false_iff_not]
  refine⟨fun h=>.inr ?_,fun h=>?_⟩
  ·by_cases c:q.1.cps.toList<p.1.cps.toList
   ·exact c
   ·exact absurd (Lg (List.le_antisymm (List.not_lt.mp c) (List.not_lt.mp h))) e
  ·rcases h with h | h
   ·exact absurd h.1 e
   ·intro z;exact absurd (List.lt_trans h z) (List.lt_irrefl _)
theorem Og (k:Nat→CK):StrT.Ord (fun i j=>clt (k i) (k j)) where
 tr:=fun a b c h1 h2=>by
  rw[Nb]at h1 h2 ⊢
  rcases h1 with⟨e1,m1⟩ | l1
  ·rcases h2 with⟨e2,m2⟩ | l2
   ·exact .inl ⟨e2.trans e1,(L2.Lb fun i=>(k i).2).tr a b c m1 m2⟩
   ·rw[e1]at l2;exact .inr l2
  ·rcases h2 with⟨e2,m2⟩ | l2
   ·rw[← e2]at l1;exact .inr l1
   ·exact .inr (List.lt_trans l1 l2)
 as:=fun a b h1=>by
  rw[Nb]
  unfold clt at h1
  by_cases e:(k a).1=(k b).1
  ·rw[if_pos e]at h1
   exact .inl ⟨e.symm,(L2.Lb fun i=>(k i).2).as a b h1⟩
  ·rw[if_neg e]at h1
   exact .inr (of_decide_eq_true h1)
theorem clt_eq {p q:CK}(h1:clt p q=false)(h2:clt q p=false):p=q:=by
 rw[Nb]at h1 h2
 obtain⟨a,b,c⟩:=p
 obtain⟨d,e,f⟩:=q
 rcases h1 with⟨e1,m1⟩ | l1
 ·rcases h2 with⟨_,m2⟩ | l2
  ·simp only[L2.QE]at m1 m2
   dsimp only at e1
   subst e1
   repeat' split at m1
   all_goals repeat' split at m2
   all_goals simp only[decide_eq_false_iff_not]at *
   all_goals first | (exfalso;omega) | (congr 2 <;> omega)
  ·rw[e1]at l2;exact absurd l2 (List.lt_irrefl _)
 ·rcases h2 with⟨e2,_⟩ | l2
  ·rw[e2]at l1;exact absurd l1 (List.lt_irrefl _)
  ·exact absurd (List.lt_trans l1 l2) (List.lt_irrefl _)
theorem slt_eq {p q:Str}(h1:KSt.slt p q=false)(h2:KSt.slt q p=false):p=q:=by
 unfold KSt.slt at h1 h2
 rw[decide_eq_false_iff_not]at h1 h2
 exact Lg (List.le_antisymm (List.not_lt.mp h2) (List.not_lt.mp h1))
def Kt (h:Heap)(v:Value)(p:CK):Prop:=∃ a t u x,v=.ref a∧IsTup h a #[.str p.1 t,.int p.2.1 u,.int p.2.2 x]
theorem Oh {x y:Value}{p q:CK}(hx:Kt s.heap x p)(hy:Kt s.heap y q){C:Bool→Shared→Prop}(h:C (clt p q) s):
 wpAny (model P w) A (keyLt' (tuples' true) x y) C (fun _ _=>False) s:=by
 obtain⟨a,t,u,z,rfl,o,ho,hc,n,hd⟩:=hx
 obtain⟨a',t',u',z',rfl,o',ho',hc',n',hd'⟩:=hy
 refine PySem.W.kat_lt ho hd ho' hd' (PySem.W.kat_cons (wpAny_eqBool_str ?_))
 unfold clt L2.QE at h
 cases e:decide (p.1=q.1)with
 | true=>
  have e':p.1=q.1:=by simpa using e
  rw[if_pos e']at h
  refine PySem.W.kat_yes (PySem.W.kat_cons (wpAny_eqBool_int ?_))
  cases e2:(p.2.1==q.2.1)with
  | true=>
   have e3:p.2.1=q.2.1:=by simpa using e2
   rw[if_pos e3]at h
   refine PySem.W.kat_yes (PySem.W.kat_cons (wpAny_eqBool_int ?_))
   cases e4:(p.2.2==q.2.2)with
   | true=>
    have e5:p.2.2=q.2.2:=by simpa using e4
    refine PySem.W.kat_yes (PySem.W.kat_nil ?_)
    have:decide (p.2.2<q.2.2)=false:=by simp[e5]
    rw[this]at h
    exact h
   | false=>exact PySem.W.kat_no (PySem.W.kat_one _ _ (lt_int h))
  | false=>
   have e3:¬ p.2.1=q.2.1:=by simpa using e2
   rw[if_neg e3]at h
   exact PySem.W.kat_no (PySem.W.kat_one _ _ (lt_int h))
 | false=>
  have e':¬ p.1=q.1:=by simpa using e
  rw[if_neg e']at h
  exact PySem.W.kat_no (oneLt_str h)
theorem IY {α:Type}{At:Value→α→Prop}(f:∀ v p,At v p→∃(a:Addr) (o:Obj) (xs:Array Value) (n:Nat) (z:Str) (t:Tok),v=.ref a∧s.heap.get? a=some o∧o.cls=.type "tuple"∧o.data=.seq xs n∧xs[0]?=some (.str z t)){vs:List Value}{ps:List α}{Q:SortKind→Shared→Prop}(h2:2≤vs.length)(r:Paired At vs ps)(h:Q (tuples' true) s):wpAny (model P w) A (keyKind' vs.toArray) Q E s:=by
 obtain⟨fs,t,hf,hi⟩:∃ fs:List Value,PySem.W.KatTups s.heap vs fs∧fs.length=vs.length∧∀ v∈fs,∃ i t,v=.str i t:=by
  clear h2 h
  induction r with
  | nil=>exact⟨[],.nil,rfl,fun v hv=>by cases hv⟩
  | cons r _ ih=>
   obtain⟨fs,t,hf,hi⟩:=ih
   obtain⟨a,o,xs,n,z,t1,rfl,ho,hc,hd,hx⟩:=f _ _ r
   exact⟨_::fs,.cons ho hc hd hx t,by simp[hf],fun v hv=>by
    rcases List.mem_cons.mp hv with rfl | hv
    ·exact⟨_,_,rfl⟩
    ·exact hi v hv⟩
 refine PySem.W.kat_kind (T:=.type "str") t (by omega) (fun v hv=>?_) (by rfl) h
 obtain⟨i,t,rfl⟩:=hi v hv
 exact PySem.W.Looks.of_pure rfl
theorem Gw {h h':Heap}{a:Addr}{xs:Array Value}(k:∀ b o,h.get? b=some o→o.cls=.type "tuple"→h'.get? b=some o)(x:IsTup h a xs):IsTup h' a xs:=by
 obtain⟨o,e,c,d⟩:=x
 exact⟨o,k _ _ e c,c,d⟩
def Lp (P:Program)(w:World):KK P w CK where
 At:=Kt
 lt:=clt
 κ:=tuples' true
 d:=(PSt.d0,0,0)
 ord:=Og
 keep:=fun k ⟨a,t,u,x,e,i⟩=>⟨a,t,u,x,e,Gw k i⟩
 ask:=fun hx hy _ h=>Oh hx hy h
 kind:=fun h2 r h=>IY (fun v p ⟨a,t,u,x,e,o,ho,hc,n,hd⟩=>⟨a,o,_,n,p.1,t,e,ho,hc,hd,rfl⟩) h2 r h
def QW (h:Heap)(v:Value)(z:Str):Prop:=∃ a xs t,v=.ref a∧IsTup h a xs∧xs[0]?=some (.str z t)
theorem Oi {v:Value}{Q:Bool→Shared→Prop}(h:Q true s):wpAny (model P w) A (eqBool v v) Q E s:=by
 unfold eqBool
 refine wpAny_holding ?_
 rw[if_pos (by simp)]
 exact wpAny_bind (wpAny_rule (wpAny_pure h))
theorem Jw {b:Bool}{Q:Bool→Shared→Prop}(h:Q false s):∀(xs:List Value) (i:Nat),PySem.W.KatLex P w A b false Q (xs.zip xs) i s
 | [],_=>h
 | x::xs,i=>PySem.W.kat_cons (Oi (PySem.W.kat_yes (Jw h xs (i+1))))
theorem QX {x y:Value}{p q:Str}(hx:QW s.heap x p)(hy:QW s.heap y q)(same:p=q→x=y){C:Bool→Shared→Prop}(h:C (KSt.slt p q) s):
 wpAny (model P w) A (keyLt' (tuples' true) x y) C (fun _ _=>False) s:=by
 by_cases e:p=q
 ·have e2:=same e
  subst e e2
  obtain⟨a,xs,t,rfl,⟨o,ho,hc,n,hd⟩,h0⟩:=hx
  refine PySem.W.kat_lt ho hd ho hd ?_
  have z:decide (xs.size<xs.size)=false:=by simp
  rw[z]
  have z2:KSt.slt p p=false:=by unfold KSt.slt;exact decide_eq_false (List.lt_irrefl _)
  rw[z2]at h
  exact Jw h _ _
 ·obtain⟨a,xs,t,rfl,⟨o,ho,hc,n,hd⟩,h0⟩:=hx
  obtain⟨a',ys,t',rfl,⟨o',ho',hc',n',hd'⟩,h0'⟩:=hy
  refine PySem.W.kat_lt ho hd ho' hd' ?_
  rw[← Array.getElem?_toList]at h0 h0'
  cases e1:xs.toList with
  | nil=>rw[e1]at h0;cases h0
  | cons x xs'=>
   cases e2:ys.toList with
   | nil=>rw[e2]at h0';cases h0'
   | cons y ys'=>
    rw[e1]at h0
    rw[e2]at h0'
    cases h0
    cases h0'
    refine PySem.W.kat_cons (wpAny_eqBool_str ?_)
    rw[decide_eq_false e]
    exact PySem.W.kat_no (oneLt_str h)
def Rr (P:Program)(w:World):KK P w Str where
 At:=QW
 lt:=KSt.slt
 κ:=tuples' true
 d:=PSt.d0
 ord:=KSt.slt_ord
 keep:=fun k ⟨a,xs,t,e,i,z⟩=>⟨a,xs,t,e,Gw k i,z⟩
 ask:=fun hx hy sm h=>QX hx hy sm h
 kind:=fun h2 r h=>IY (fun v p ⟨a,xs,t,e,⟨o,ho,hc,n,hd⟩,z⟩=>⟨a,o,_,n,p,t,e,ho,hc,hd,z⟩) h2 r h
end
end L2.GS
namespace L2.GS
open PySem PySem.Spec PyProof.Rows L2 L2.PSt
section
variable {P:Program}{w:World}{A:Around}{E:Value→Shared→Prop}{s:Shared}
theorem Jx {l:Addr}{vs:List Value}(hl:s.heap.IsList l vs.toArray∨IsTup s.heap l vs.toArray)(h64:vs.length<64):Od P w A s l vs:=fun Q E h=>by
 have hz0:sizeLine=16777216:=sizeLine_eq
 have fin:Q vs { s with heap:=(s.heap.push (seqObj "list" #[] 0)).update s.heap.objs.size (Obj.mapSeq (·++vs.toArray)) }:=by
  refine h _ s.toks (fun b o e=>(Heap.get?_update_ne _ _ _ _ (Nat.ne_of_lt (Heap.lt_size e))).trans (Heap.get?_push_of_some _ e)) ?_
  rw[Heap.size_update,size_push'];exact Nat.lt_succ_self _
 rcases hl with hl | hl
 ·exact collect_list hl fin (by omega)
 ·exact Jq hl fin (by omega)
theorem MV {I d:Addr}{o:Obj}{es:Array DictEntry}{ep:Nat}(hh:A.handled=none)(hx:o.ExactDict)(hd:o.data=.dict es ep)(ne:d≠I):
 WalksS P w A I [I,d] [I] (fun a b=>b=a) es.size (fun i v=>∃ e,es[i]?=some e∧v=e.key) (fun i s=>s.heap.IsKeyIter I d i es.size ep∧s.heap.get? d=some o) where
 sub:=fun b hb=>by simp at hb;simp[hb]
 grefl:=fun _=>rfl
 gtrans:=fun _ _ _ h1 h2=>h2.trans h1
 frame:=fun i s h' tk st _ hk=>⟨st.1.at fun o e=>hk I (by simp) o e,hk d (by simp) _ st.2⟩
 item:=fun i s Q E hi st hQ=>by
  have he:es[i]?=some es[i]:=Array.getElem?_eq_getElem hi
  refine Jh st.1 ⟨st.2,hx,hd⟩ he fun h' st' sb=>hQ _ _ ⟨_,he,rfl⟩ ⟨st',(sb.2 d ne).trans st.2⟩ ⟨fun b o hb e=>(sb.2 b (by simpa using hb)).trans e,rfl,rfl,rfl,Nat.le_refl _⟩
 done:=fun s Q E st hQ=>LX hh st.1 ⟨st.2,hx,hd⟩ (Nat.le_refl _) fun h' eb=>hQ _ ⟨fun b o hb e=>eb b o (by simpa using hb) e,rfl,rfl,rfl,Nat.le_refl _⟩
 self:=fun i s Q E st h=>wpAny_pyIter_keyiter st.1 h
theorem MW {d:Addr}{o:Obj}{es:Array DictEntry}{ep:Nat}(hh':A.handled=none)(hs:(d==sysModules)=false)(x:Jf s.heap d o es ep)(h64:es.size<64):Od P w A s d (es.toList.map (·.key)):=fun Q E h=>by
 have hz0:sizeLine=16777216:=sizeLine_eq
 unfold collect
 refine wpAny_bind (wpAny_runValue (codeAny_builtin F.entry_proto_collect ?_))
 rw[Around.under_plainId F.plain_proto_collect _]
 show wpAny _ A.in1 (newList [] >>= fun l=>again (.builtin "list.__iadd__" ⟨[l,.ref d],[]⟩)) _ _ s
 refine wpAny_bind (wpAny_newObj_type ?_)
 refine wpAny_pure ⟨plainId_quiet F.plain_list_iadd _,codeAny_builtin F.entry_list_iadd ?_⟩
 rw[Around.under_plainId F.plain_list_iadd _]
 have ld:d<s.heap.objs.size:=Heap.lt_size x.at_
 have x1:Jf (s.heap.push { cls:=.type "list",data:=.seq ([]:List Value).toArray }) d o es ep:=⟨Heap.get?_push_of_some _ x.at_,x.ex,x.data⟩
 have t1:Shared.TypeIs { s with heap:=s.heap.push { cls:=.type "list",data:=.seq ([]:List Value).toArray } } (.ref d) "dict":=x1.ty
 have hS₁:(s.heap.push { cls:=.type "list",data:=.seq ([]:List Value).toArray }).get? s.heap.objs.size=some { cls:=.type "list",data:=.seq ([]:List Value).toArray }:=Heap.get?_push_size _ rfl
 have h1:Builtin.List.listSameRef (.ref s.heap.objs.size) (.ref d)=false:=by simp[Builtin.List.listSameRef,Nat.ne_of_gt ld]
 show wpAny _ A.in1 (Builtin.List.listExtendWith (.ref s.heap.objs.size) (.ref d) (.ref s.heap.objs.size)) _ _ _
 unfold Builtin.List.listExtendWith
 refine wpAny_bind (wpAny_typeOf t1 ?_)
 rw[if_neg (by rw[h1];decide)]
 refine wpAny_bind (Jg (s:={ s with heap:=s.heap.push { cls:=.type "list",data:=.seq ([]:List Value).toArray } }) x1 hs ?_)
 refine wpAny_bind (wpAny_holding ?_)
 have Nx:(s.heap.push { cls:=.type "list",data:=.seq ([]:List Value).toArray }).objs.size=s.heap.objs.size+1:=size_push' _ _
 rw[Nx]
 generalize hg:(s.heap.push { cls:=.type "list",data:=.seq ([]:List Value).toArray }).push { cls:=.type "dict_keyiterator",data:=.fields #[.ref d,.int 0 0,.int es.size 0,.int ep 0] }=hh
 have x2:Jf hh d o es ep:=by subst hg;exact⟨Heap.get?_push_of_some _ x1.at_,x.ex,x.data⟩
 have t2:Shared.TypeIs { s with heap:=hh } (.ref d) "dict":=x2.ty
 have k2:∀ b o,s.heap.get? b=some o→hh.get? b=some o:=fun b o e=>by subst hg;exact Heap.get?_push_of_some _ (Heap.get?_push_of_some _ e)
 have hS2:hh.get? s.heap.objs.size=some { cls:=.type "list",data:=.seq ([]:List Value).toArray }:=by subst hg;exact Heap.get?_push_of_some _ hS₁
 have hI2:hh.IsKeyIter (s.heap.objs.size+1) d 0 es.size ep:=by subst hg;rw[← Nx];exact⟨_,Heap.get?_push_size _ rfl,rfl,rfl⟩
 unfold Builtin.List.listLengthHint
 refine wpAny_bind (wpAny_specialOf t2 F.slot_dict_len.lookup ?_)
 (generalize hid:("dict.__len__":String)=id0;(fail_if_success (clear hid id0));wp_delta;rw[show splitId id0=some ("dict","__len__")from by subst hid;nofun];subst hid)
 refine wpAny_bind (wpAny_isInstance (b:=true) t2 (by rw[isSubtype_type];kernel_rfl) ?_)
 rw[if_neg (by decide)]
 refine(show wpAny _ _ (if _=true then _ else _) _ _ _ from ?_)
 rw[if_pos (by nofun)]
 refine wpAny_bind (wpAny_typeOf t2 ?_)
 refine(show wpAny _ _ (pure false) _ _ _ from wpAny_pure ?_)
 rw[if_pos (by nofun)]
 refine wpAny_bind (wpAny_rule ?_)
 refine wpAny_bind ?_
 show wpAny _ A.in1 (updateSeq s.heap.objs.size (·.push .none) >>= fun _=>updateSeq s.heap.objs.size (·.pop)) _ _ _
 refine wpAny_bind (wpAny_updateSeq (s:={ s with heap:=hh }) hS2 rfl ?_)
 have hS3:=Heap.get?_update_self (Obj.mapSeq (·.push Value.none)) hS2 rfl
 refine wpAny_updateSeq hS3 rfl ?_
 have hS4:=Heap.get?_update_self (Obj.mapSeq (·.pop)) hS3 rfl
 have oth:∀ b o,b≠s.heap.objs.size→hh.get? b=some o→((hh.update s.heap.objs.size (Obj.mapSeq (·.push Value.none))).update s.heap.objs.size (Obj.mapSeq (·.pop))).get? b=some o:=
  fun b o hb e=>(Heap.get?_update_other _ _ (Ne.symm hb)).trans ((Heap.get?_update_other _ _ (Ne.symm hb)).trans e)
 have nI:s.heap.objs.size+1≠s.heap.objs.size:=Nat.succ_ne_self _
 have lI:s.heap.objs.size+1<hh.objs.size:=by obtain⟨o,e,_⟩:=hI2;exact Heap.lt_size e
 have W:=MV (P:=P) (w:=w) (A:=A.in1) (I:=s.heap.objs.size+1) hh' x.ex x.data (Nat.ne_of_lt (Nat.lt_succ_of_lt ld))
 refine wpAny_pure ⟨plainId_quiet F.plain_extend_loop _,codeAny_extend_loopS W (by omega) s.heap.objs.size (by simp;exact Nat.ne_of_gt ld) _ es.size 0 _ _ _ rfl (Nat.zero_le _) ⟨hI2.at fun o e=>oth _ o nI e,oth _ _ (Nat.ne_of_lt ld) x2.at_⟩ hS4 (ItemsOf.nil _) fun s' acc' c' hm hS' hacc=>?_⟩
 show wpAny _ A (load s.heap.objs.size >>= _) _ _ s'
 refine wpAny_bind (wpAny_load hS' ?_)
 have ea:acc'.toList=es.toList.map (·.key):=by
  obtain⟨e1,e2⟩:=hacc
  apply List.ext_getElem?
  intro i
  rw[List.getElem?_map,Array.getElem?_toList,Array.getElem?_toList]
  by_cases hi:i<acc'.size
  ·obtain⟨e,q1,q2⟩:=e2 i _ (Array.getElem?_eq_getElem hi)
   rw[q1,Array.getElem?_eq_getElem hi,q2]
   rfl
  ·rw[Array.getElem?_eq_none (by omega),Array.getElem?_eq_none (by omega)]
   rfl
 refine wpAny_pure ?_
 rw[ea,Moved.eq_with hm]
 refine h s'.heap s'.toks (fun b o e=>hm.heap b o ?_ (oth b o (Nat.ne_of_lt (Heap.lt_size e)) (k2 b o e))) ?_
 ·have:=Heap.lt_size e
  simp
  exact⟨Nat.ne_of_lt this,Nat.ne_of_lt (Nat.lt_succ_of_lt this)⟩
 ·exact Heap.lt_size hS'
end
end L2.GS
namespace L2.GS
open PySem PySem.Spec PyProof.Rows L2 L2.PSt
def HdV (H:Hp)(v:V)(z:Str):Prop:=∃ b r,v=.ref b∧H b=some (.tup (.str z::r))
def CeV (H:Hp)(v:V)(c:CK):Prop:=∃ b,v=.ref b∧H b=some (.tup [.str c.1,.int c.2.1,.int c.2.2])
def UR (_:Hp)(v:V)(z:Str):Prop:=v=.str z
def ckK (c:CK):List BF:=[.inr c.1,.inl c.2.1,.inl c.2.2]
section
variable {X:Cx}{pins:List (Addr×Obj)}{σ:St}{H:Hp}{s:Shared}
theorem Oj {v:V}{u:Value}{z:Str}(I:Ah X pins σ H s)(r:Am v u)(h:HdV H v z):(Rr X.prog X.w).At s.heap u z:=by
 obtain⟨b,ys,rfl,hb⟩:=h
 cases r
 obtain⟨its,rv,pl,_⟩:=I.tuple (Ao.of hb)
 cases rv with
 | cons r1 rv=>
  obtain⟨t,rfl⟩:=r1
  exact⟨b,_,t,rfl,pl,rfl⟩
theorem Lq {v:V}{u:Value}{c:CK}(I:Ah X pins σ H s)(r:Am v u)(h:CeV H v c):(Lp X.prog X.w).At s.heap u c:=by
 obtain⟨b,rfl,hb⟩:=h
 cases r
 obtain⟨its,rv,pl,_⟩:=I.tuple (Ao.of hb)
 cases rv with
 | cons r1 rv=>
  cases rv with
  | cons r2 rv=>
   cases rv with
   | cons r3 rv=>
    cases rv
    obtain⟨t,rfl⟩:=r1
    obtain⟨t2,rfl⟩:=r2
    obtain⟨t3,rfl⟩:=r3
    exact⟨b,t,t2,t3,rfl,pl⟩
theorem Ol {v:V}{u:Value}{z:Str}(_:Ah X pins σ H s)(r:Am v u)(h:UR H v z):(PU X.prog X.w).At s.heap u z:=by
 cases h
 exact r
theorem Iq {α:Type}{P0:V→Value→Prop}{ps0:List (V×α)}:∀{ps:List (V×α)} {its:List Value},(∀ p∈ps,p∈ps0)→Paired P0 (ps.map (·.1)) its→Paired (fun v z=>∃ p,p∈ps0∧P0 p.1 v∧p.2=z) its (ps.map (·.2))
 | [],_,_,.nil=>.nil
 | p::ps,_,h,.cons r t=>.cons ⟨p,h p List.mem_cons_self,r,rfl⟩ (Iq (fun z hz=>h z (List.mem_cons_of_mem _ hz)) t)
theorem Ir {α:Type}{ps:List (V×α)}{P0:V→Value→Prop}:∀{out:List Value} {zs:List α},Paired (fun v z=>∃ p,p∈ps∧P0 p.1 v∧p.2=z) out zs→∃ qs:List (V×α),(∀ p∈qs,p∈ps)∧qs.map (·.2)=zs∧Paired P0 (qs.map (·.1)) out
 | _,_,.nil=>⟨[],(fun _ h=>nomatch h),rfl,.nil⟩
 | _,_,.cons ⟨p,h1,h2,h3⟩ t=>by
  obtain⟨qs,a,b,c⟩:=Ir t
  exact⟨p::qs,fun z hz=>(List.mem_cons.mp hz).elim (fun e=>e▸h1) (a z),by rw[List.map_cons,h3,b],.cons h2 c⟩
theorem Ku {α:Type}{K:KK X.prog X.w α}{Hv:Hp→V→α→Prop}(lift:∀{v u z},Am v u→Hv H v z→K.At s.heap u z):∀{ps:List (V×α)} {its:List Value},(∀ p∈ps,Hv H p.1 p.2)→A2 (ps.map (·.1)) its→Paired (K.At s.heap) its (ps.map (·.2))
 | [],_,_,.nil=>.nil
 | p::ps,_,h,.cons r t=>.cons (lift r (h p (by simp))) (Ku lift (fun q hq=>h q (List.mem_cons_of_mem _ hq)) t)
def rSortG {α:Type}(lt:α→α→Bool)(Hv:Hp→V→α→Prop)(K:PySem.W.Frag):List V→Hp→VK→Prop:=fun xs H Q=>∃(a:Addr) (ps:List (V×α)),xs=[V.ref a]∧A3 K H a (ps.map (·.1))∧(∀ p∈ps,Hv H p.1 p.2)∧(ps.map (·.2)).Nodup∧ps.length<64∧
 ∀(l:Addr) (qs:List (V×α)),H l=none→(∀ p∈qs,p∈ps)→(qs.map (·.2)).Perm (ps.map (·.2))→(qs.map (·.2)).Pairwise (fun p q=>lt q p=false)→Q (.ref l) (upd H l (.lst (qs.map (·.1))))
theorem Kw {α:Type}(K:KK X.prog X.w α){Hv:Hp→V→α→Prop}(lift:∀{pins σ H s v u z},Ah X pins σ H s→Am v u→Hv H v z→K.At s.heap u z):CC X (.builtin "sorted") (rSortG K.lt Hv X.K):=by
 intro pins s σ H xs us Q I r h
 obtain⟨a,ps,rfl,ha,hp,nd,h64,q⟩:=h
 obtain⟨u,rfl,ru⟩:=FE r
 cases ru
 obtain⟨its,rv,pl,hz⟩:=I.list ha
 have hlen:ps.length=its.length:=by have:=rv.length;rwa [List.length_map]at this
 refine IX K (Jx (.inl pl.isList) (by omega)) (Ku (fun r h=>lift I r h) hp rv) nd (by omega) fun D h' t' c out ps' hD kp hc m1 m2 m3 m4=>?_
 obtain⟨qs,a1,a2,a3⟩:=Ir (m1 _ (Iq (P0:=Am) (fun _ h=>h) rv))
 subst a2
 have hq:qs.length=out.length:=by have:=Paired.length a3;rwa [List.length_map]at this
 have hs:sizeLine=16777216:=sizeLine_eq
 exact⟨.ref D,_,I.laid (t':=t') kp hD (show BI X.prog X.w _ _ _ (.lst (qs.map (·.1)))from⟨by rw[List.length_map];omega,out,c,a3,hc⟩),rfl,q _ qs (I.hok.fresh hD) a1 m3 m4⟩
theorem call_sortE:CC X (.builtin "sorted") (rSortG KSt.slt HdV X.K):=Kw (Rr X.prog X.w) Oj
def QY:List V→Hp→VK→Prop:=fun xs H Q=>∃(a:Addr) (kvs:List (List BF×V)) (cs:List CK),xs=[V.ref a]∧Rd H a (.dT kvs)∧kvs.map (·.1)=cs.map ckK∧kvs.length<64∧
 ∀(l:Addr) (us:List V) (cs':List CK),H l=none→cs'.Perm cs→cs'.Pairwise (fun p q=>clt q p=false)→Paired (CeV H) us cs'→Q (.ref l) (upd H l (.lst us))
theorem call_sortD (hc:X.calm=true):CC X (.builtin "sorted") QY:=by
 intro pins s σ H xs us Q I r h
 obtain⟨a,kvs,cs,rfl,ha,hk,h64,q⟩:=h
 obtain⟨u,rfl,ru⟩:=FE r
 cases ru
 obtain⟨z,y,xs,rx,o,es,ep,h1,h2,h3,h4,h5⟩:=(show BI X.prog X.w H s.heap a (.dT kvs)from M7 I.hok ha)
 have he:es.size=kvs.length:=by rw[Paired.length rx,← Array.length_toList,h4,List.length_map]
 obtain⟨ps,e1,e2,e3⟩:∃ ps:List (V×CK),ps.map (·.2)=cs∧A2 (ps.map (·.1)) (es.toList.map (·.key))∧∀ p∈ps,CeV H p.1 p.2:=by
  rw[h4,List.map_map]
  clear h1 h2 h3 h4 h5 he h64 q z ha
  induction rx generalizing cs with
  | nil=>
   cases cs with
   | nil=>exact⟨[],rfl,.nil,fun p hp=>nomatch hp⟩
   | cons c cs=>cases hk
  | @cons p q ps qs hh _ ih=>
   cases cs with
   | nil=>cases hk
   | cons c cs=>
    rw[List.map_cons,List.map_cons]at hk
    injection hk with k1 k2
    obtain⟨ps',a1,a2,a3⟩:=ih cs k2
    refine⟨(.ref q.2.1,c)::ps',by rw[List.map_cons,a1],.cons rfl a2,fun p' hp=>?_⟩
    rcases List.mem_cons.mp hp with e | hp
    ·subst e
     refine⟨q.2.1,rfl,?_⟩
     rw[hh.2.1,k1]
     rfl
    ·exact a3 p' hp
 have nd:cs.Nodup:=by
  have kx:xs.map (·.1)=kvs.map (·.1):=by
   clear h1 h2 h3 h4 h5 he h64 q z hk e1 e2 e3 ha
   induction rx with
   | nil=>rfl
   | cons hh _ ih=>rw[List.map_cons,List.map_cons,ih,hh.1]
  rw[kx,hk]at h5
  exact List.Pairwise.of_map ckK (fun a b hab e=>hab (by rw[e])) h5
 subst e1
 have hl2:ps.length=kvs.length:=by have:=e2.length;simp only[List.length_map,Array.length_toList]at this;omega
 refine IX (Lp X.prog X.w) (MW (I.ok.hd hc) y ⟨h1,h2,h3⟩ (by omega)) (Ku (K:=Lp X.prog X.w) (Hv:=CeV) (fun r h=>Lq I r h) e3 e2) nd (by simp only[List.length_map,Array.length_toList];omega) fun D h' t' c out ps' hD kp hc m1 m2 m3 m4=>?_
 obtain⟨qs,a1,a2,a3⟩:=Ir (m1 _ (Iq (P0:=Am) (fun _ h=>h) e2))
 subst a2
 have hq:qs.length=out.length:=by have:=Paired.length a3;rwa [List.length_map]at this
 simp only[List.length_map,Array.length_toList]at m2
 have hs:sizeLine=16777216:=sizeLine_eq
 refine⟨.ref D,_,I.laid (t':=t') kp hD (show BI X.prog X.w _ _ _ (.lst (qs.map (·.1)))from⟨by rw[List.length_map];omega,out,c,a3,hc⟩),rfl,q _ _ _ (I.hok.fresh hD) m3 m4 ?_⟩
 exact Es fun p hp=>e3 p (a1 p hp)
end
end L2.GS
namespace L2.GS
open PySem PySem.Spec PyProof.Rows L2 L2.PSt
section
variable {X:Cx}{pins:List (Addr×Obj)}{σ:St}{H2:Hp}{s2:Shared}
def Iu {α:Type}(lt:α→α→Bool)(Hv:Hp→V→α→Prop)(X:Cx)(a:Addr)(q:Str)(sp:Sp)(H2:Hp)(Q:VK):Prop:=∃ ps:List (V×α),(A3 X.K H2 a (ps.map (·.1))∨Ao X.K H2 a (ps.map (·.1)))∧ps.length<64∧(ps.map (·.2)).Nodup∧
 (∀ p∈ps,sp [p.1] (Ij q H2) (fun v H'=>Hv H2 v p.2∧H'=Ij q H2) E0)∧
 ∀(l:Addr) (qs:List (V×α)),H2 l=none→(∀ p∈qs,p∈ps)→(qs.map (·.2)).Perm (ps.map (·.2))→(qs.map (·.2)).Pairwise (fun p q=>lt q p=false)→Q (.ref l) (upd H2 l (.lst (qs.map (·.1))))
def QZ (X:Cx)(k:Nat)(te tl:TE):TE:=fun σ H Q=>te σ H fun x H1=>tl σ H1 fun f H2=>∃(a fa:Addr) (q:Str) (sp:Sp),x=.ref a∧f=.ref fa∧
 (∀ base',Jm X σ q H2 base'→FV X.prog X.w X.K X.mg base' k fa sp)∧(Iu KSt.slt UR X a q sp H2 Q∨Iu clt CeV X a q sp H2 Q)
theorem Jy {α:Type}(K:KK X.prog X.w α){Hv:Hp→V→α→Prop}(lift:∀{pins σ H s v u z},Ah X pins σ H s→Am v u→Hv H v z→K.At s.heap u z){k:Nat}{a fa:Addr}{q:Str}{sp:Sp}{Q:VK}(hr:Bx (k+2) X.A)(hfn:∀ y,X.fn y=true)(I2:Ah X pins σ H2 s2)
 (hF:∀ base',Jm X σ q H2 base'→FV X.prog X.w X.K X.mg base' k fa sp) (h:Iu K.lt Hv X a q sp H2 Q):wpAny (model X.prog X.w) X.A (call (.builtin "sorted") [.ref a] [("key",.ref fa)]) (fun u s'=>∃ v H',Ah X pins σ H' s'∧Am v u∧Q v H') X.xe s2:=by
 obtain⟨ps,ha,h64,nd,hsp,hend⟩:=h
 obtain⟨its,rv,pl⟩:∃ its,A2 (ps.map (·.1)) its∧(s2.heap.IsList a its.toArray∨IsTup s2.heap a its.toArray):=by
  rcases ha with ha | ha
  ·obtain⟨its,rv,pl,_⟩:=I2.list ha
   exact⟨its,rv,.inl pl.isList⟩
  ·obtain⟨its,rv,pl,_⟩:=I2.tuple ha
   exact⟨its,rv,.inr pl⟩
 have hlen:ps.length=its.length:=by have:=rv.length;rwa [List.length_map]at this
 refine MU (Jx pl (by omega)) (by omega) fun hh t1 e1 D kS R hk2 hD0 hkS hD hS hR=>?_
 have fD:Cz X pins H2 D:=I2.fpOk hD0 (I2.hok.fresh hD0)
 have lS:s2.heap.objs.size≤kS:=Nat.le_of_lt (Nat.lt_of_le_of_lt hD0 hkS)
 have fS:Cz X pins H2 kS:=I2.fpOk lS (I2.hok.fresh lS)
 have nst:∀ b,Cz X pins H2 b→b∉Hg X.stack:=fun b f z=>(List.mem_cons.mp (I2.stkSub b z)).elim f.2.1 f.2.2.1
 have ne:D≠kS:=Nat.ne_of_lt hkS
 refine Of K (J:=fun s'=>Ah X pins σ H2 s') (zs:=ps.map (·.2)) (Kv:=fun u z=>∃ v,Am v u∧Hv H2 v z) (fun s' u z I' ⟨v,r,h⟩=>lift I' r h) nd (I2.kept (t':=t1) fun b o e=>hk2 b o e) hD hS ne (by rw[List.length_map];exact hlen) (by omega) ?turn ?push ?fin
 case turn=>
  intro i v z hv hz s' I'
  have hi:i<ps.length:=by rw[hlen];exact(List.getElem?_eq_some_iff.mp hv).1
  have hz':ps[i].2=z:=by
   rw[List.getElem?_map,List.getElem?_eq_getElem hi]at hz
   exact Option.some.inj hz
  have hx:(ps.map (·.1))[i]?=some ps[i].1:=by rw[List.getElem?_map,List.getElem?_eq_getElem hi];rfl
  obtain⟨u,hu,rvu⟩:=rv.get hx
  rw[hv]at hu
  cases hu
  obtain⟨fd,prs,oc,od,sl,eo,hb,F⟩:=hF _ (I'.wider (q:=q) hfn)
  have hq:=hsp ps[i] (List.getElem_mem hi)
  have hl2:[v].length=prs.length:=F.len _ _ _ _ hq
  refine wpAny_call (codeAny_mono (F.run X.A.in1.in1 X.stack s' (Ij q H2) ⟨[v],[]⟩ [v] [ps[i].1] _ E0 hr.in1.in1 (I'.envL (q:=q) hfn).in1.in1 (hb s' [v] I'.kIn hl2) (.cons rvu .nil) hq) fun r s'' hq=>?_)
  cases r with
  | error e=>exact False.elim hq
  | ok fl=>
   cases fl with
   | next=>exact False.elim hq
   | brk=>exact False.elim hq
   | cont=>exact False.elim hq
   | ret u=>
    have hq2:=hq
    obtain⟨v',H',os,bare,un,hok,r',ev,eH⟩:=hq2
    refine⟨?_,?_,fun o=>⟨fun e=>un.keep _ o e (CW fD.1) (nst _ fD) (by simp),fun e=>un.keep _ o e (CW fS.1) (nst _ fS) (by simp)⟩⟩
    ·rw[← hz']
     exact⟨v',r',ev⟩
    ·obtain⟨v2,H3,I3,_,e3⟩:=I'.afterL (q:=q) (Q:=fun _ H3=>H3=H2) (show CE X.stack X.prog X.w (Ij q H2) s' _ u s'' from⟨v',H',os,bare,un,hok,r',fun _=>by rw[eH];exact OZ⟩)
     rw[← e3]
     exact I3
 case push=>
  intro s' ks c v z _ I' hk' _
  obtain⟨f0,f1,f2,f3,f4,f5⟩:=fS
  exact I'.turned (t':=s'.toks) (it:=kS) (fun b o hb e=>(Heap.get?_update_ne _ _ _ _ hb).trans e) f0 f1 f3 f4 f5
 case fin=>
  intro s' ks c out zs' I' hD' hS' hF' ho hperm hrise
  refine hR _ ?_
  obtain⟨qs,m1,m2,m3⟩:=Ir (hF' _ (Iq (P0:=Am) (fun _ h=>h) rv))
  subst m2
  have I3:Ah X pins σ H2 { s' with heap:=s'.heap.update kS (Obj.mapSeq fun _=>#[]) }:=by
   obtain⟨f0,f1,f2,f3,f4,f5⟩:=fS
   exact I'.turned (t':=s'.toks) (it:=kS) (fun b o hb e=>(Heap.get?_update_ne _ _ _ _ hb).trans e) f0 f1 f3 f4 f5
  have hD3:(s'.heap.update kS (Obj.mapSeq fun _=>#[])).get? D=some (seqObj "list" #[] e1):=(Heap.get?_update_ne _ _ _ _ ne).trans hD'
  have I4:=I3.adopt (t':=s'.toks) (it:=D) (o:=.lst (qs.map (·.1))) (h':=(s'.heap.update kS (Obj.mapSeq fun _=>#[])).update D (Obj.mapSeq fun _=>out.toArray)) (fun b o hb e=>(Heap.get?_update_ne _ _ _ _ hb).trans e) fD
   ⟨by rw[List.length_map];have:=Paired.length m3;rw[List.length_map]at this;have hs:sizeLine=16777216:=sizeLine_eq;omega,out,_,m3,get?_update_seq hD3 _⟩
  exact⟨.ref _,_,I4,rfl,hend _ qs fD.1 m1 hperm hrise⟩
theorem pe_sortG {k:Nat}{e lam:Expr}{te tl:TE}{p pos kp:Pos}(hr:Bx (k+2) X.A)(hg:Gl X "sorted")(hm:X.mg "sorted"=none)(he:PE X e te)(hl:PE X lam tl)(hfn:∀ y,X.fn y=true:=by intro _;rfl)
 (hs:starEach [e] X.env=(false,eval e X.env)::starEach [] X.env:=by rfl) (hk:keywordEach [⟨some "key",lam,kp⟩] X.env=[(some (Str.ofString "key"),eval lam X.env)]:=by rfl):
 PE X (.Call (.Name "sorted" p) [e] [⟨some "key",lam,kp⟩] pos) (QZ X k te tl):=by
 intro pins s σ H Q I h
 refine wpAny_Call_Name_kw (DJ I hg hm EZ ?_)
 refine callWith_kw ?_ (by rw[hs];rfl) (by rw[hs];rfl) (by rw[hk];rfl) (by rw[hk];rfl)
 rw[hs,hk]
 show wpAny _ _ (spliced ((false,eval e X.env)::backTo pos (starEach [] X.env))) _ _ s
 refine Calls.spliced_cons (BZ (he pins s σ H _ I h) fun u s1 ⟨x,H1,I1,r1,q1⟩=>Calls.spliced_nil ?_)
 refine wpAny_evalAll_cons (wpAny_bind (BZ (hl pins s1 σ H1 _ I1 q1) fun v s2 ⟨y,H2,I2,r2,q2⟩=>wpAny_bind (wpAny_standAt (wpAny_pure (wpAny_evalAll_nil ?_)))))
 obtain⟨a,fa,q,sp,rfl,rfl,hF,hq⟩:=q2
 cases r1
 cases r2
 rcases hq with hq | hq
 ·exact Jy (PU X.prog X.w) Ol hr hfn I2 hF hq
 ·exact Jy (Lp X.prog X.w) Lq hr hfn I2 hF hq
end
end L2.GS
namespace L2
open PySem PySem.Spec PyProof.Rows PySem.W
def GR (b:Bool)(us:List V):HO:=if b=true then .lst us else .tup us
def Ev (b:Bool)(K:PySem.W.Frag)(H:Hp)(a:Addr)(us:List V):Prop:=if b=true then A3 K H a us else Ao K H a us
theorem Ev.of {b:Bool}{K:PySem.W.Frag}{H:Hp}{a:Addr}{us:List V}(h:H a=some (GR b us)):Ev b K H a us:=by
 cases b with
 | true=>exact A3.of h
 | false=>exact Ao.of h
theorem Ev.or {b:Bool}{K:PySem.W.Frag}{H:Hp}{a:Addr}{us:List V}(h:Ev b K H a us):A3 K H a us∨Ao K H a us:=by
 cases b with
 | true=>exact .inl h
 | false=>exact .inr h
theorem F1 {b:Bool}{K:PySem.W.Frag}{H:Hp}{a:Addr}{us:List V}(h:H a=some (GR b us)):A3 K H a us∨Ao K H a us:=(Ev.of h).or
def Ul (b:Bool)(K:PySem.W.Frag)(a:Addr):It:=
 ⟨fun i H=>∃ xs x,Ev b K H a xs∧xs[i]?=some x,fun i H x H'=>H'=H∧∀ xs,Ev b K H a xs→xs[i]?=some x,fun i H=>∃ xs,Ev b K H a xs∧xs.length≤i⟩
section
variable {X:Cx}{tg:Expr}
def T8 (K:PySem.W.Frag)(tl:TE):TI:=fun σ H R=>tl σ H fun x H1=>∃(a:Addr) (b:Bool),x=.ref a∧(∃ xs,Ev b K H1 a xs)∧R (Ul b K a) H1
theorem Gx {l:Expr}{tl:TE}(hl:PE X l tl):PI X tg l (T8 X.K tl):=by
 intro pins s σ H R I h
 refine BZ (hl pins s σ H _ I h) fun v s1 zq=>?_
 obtain⟨x,H1,I1,r1,q1⟩:=zq
 obtain⟨a,b,e,⟨xs,hq⟩,q⟩:=q1
 subst e
 cases r1
 have fp:∀ b∈[s1.heap.objs.size],Cz X pins H1 b:=fun b hb=>by
  have e:b=s1.heap.objs.size:=by simpa using hb
  subst e
  exact I1.fpOk (Nat.le_refl _) (I1.hok.fresh (Nat.le_refl _))
 cases b with
 | true=>
  obtain⟨its,rv,p,hz⟩:=I1.list hq
  refine wpAny_pyIter_list p.isList ?_
  exact⟨s1.heap.objs.size,[s1.heap.objs.size],_,_,H1,rfl,I1.kept (t':=s1.toks) fun b o e=>Heap.get?_push_of_some _ e,ID a _,⟨_,Heap.get?_push_size _ rfl,rfl,rfl⟩,fp,q⟩
 | false=>
  obtain⟨its,rv,p,hz⟩:=I1.tuple hq
  refine wpAny_pyIter_tuple (show s1.heap.IsTuple a its.toArray from p) ?_
  exact⟨s1.heap.objs.size,[s1.heap.objs.size],_,_,H1,rfl,I1.kept (t':=s1.toks) fun b o e=>Heap.get?_push_of_some _ e,Ge a _,⟨_,Heap.get?_push_size _ rfl,rfl,rfl⟩,fp,q⟩
def Qa:List V→Hp→VK→Prop:=fun xs H Q=>∃(a p:Addr) (b:Bool) (ys:List V),xs=[.ref a,.ref p]∧H a=some (GR b ys)∧H p=some (.tup [.ty "list",.ty "tuple"])∧Q (.bl true) H
theorem Gy:CC X (.builtin "isinstance") Qa:=by
 intro pins s σ H xs us Q I r h
 obtain⟨a,p,b,ys,rfl,ha,hp,q⟩:=h
 cases b with
 | true=>exact Hj pins s σ H _ us Q I r ⟨a,p,ys,rfl,ha,hp,q⟩
 | false=>
  obtain⟨u,w',rfl,r1,r2⟩:=LR r
  cases r1
  cases r2
  obtain⟨_,its1,_,o1,h1,c1,_⟩:=(show BI X.prog X.w H s.heap a (.tup ys)from I.hok a _ ha)
  obtain⟨_,its,rv',ob,ho,hcl,n,hd⟩:=I.hok p _ hp
  have e:its=[.type "list",.type "tuple"]:=by
   cases rv' with
   | cons r t=>
    cases r
    cases t with
    | cons r t=>
     cases r
     cases t
     rfl
  subst e
  obtain⟨oc,od,oda,osl⟩:=ob
  dsimp only at hcl hd
  subst hcl hd
  exact PySem.W.kia_tup PySem.W.kitx_tuple I.kIn ⟨_,h1,c1⟩ ho (by first | rfl | (unfold PySem.W.kitAny;simp[PySem.W.kitOne,PySem.W.kitCls];done) | (unfold PySem.W.kitAny PySem.W.kitAny;rfl)) (fun z=>nomatch z) fun tk=>⟨.bl true,H,I.tok tk,rfl,q⟩
theorem Om (hu:X.A.units+3<cLine):EX X (compareOp .NotEq) (fun x y H Q=>∃ a b xs ys,x=.ref a∧y=.ref b∧H a=some (.lst xs)∧H b=some (.lst ys)∧xs.length=ys.length∧(∀(j:Nat) (u v:V),xs[j]?=some u→ys[j]?=some v→∃ p q us,u=.ref p∧v=.ref q∧H p=some (.lst us)∧H q=some (.lst us)∧∀ z∈us,Jk H 0 z z)∧Q (.bl false) H):=by
 intro pins s σ H x y v u Q I rx ry h
 obtain⟨a,b,xs,ys,rfl,rfl,ha,hb,hl,hx,q⟩:=h
 cases rx
 cases ry
 obtain⟨its,r1,p1,_⟩:=I.list (A3.of (K:=X.K) ha)
 obtain⟨its2,r2,p2,_⟩:=I.list (A3.of (K:=X.K) hb)
 refine SeqAt.RcNeAt.lists (e:=fun _=>true) p1.isList p2.isList (by rw[List.size_toArray,List.size_toArray,← r1.length,← r2.length,hl]) (by omega) (Gr I (n:=0) r1 r2 fun j u v e1 e2 u' v' ru rv=>?_) X.prog X.w X.xe _ ⟨.bl false,H,I,?_,q⟩
 ·obtain⟨p,q,us,rfl,rfl,hp,hq,hz⟩:=hx j u v e1 e2
  cases ru
  cases rv
  by_cases e:p=q
  ·subst e;exact SeqAt.EqAt.same _
  obtain⟨is1,s1,q1,_⟩:=I.list (A3.of (K:=X.K) hp)
  obtain⟨is2,s2,q2,_⟩:=I.list (A3.of (K:=X.K) hq)
  have rc:=SeqAt.RcAt.lists (A:=X.A.in1) (s:=s) (e:=fun _=>true) q1.isList q2.isList (by rw[List.size_toArray,List.size_toArray,← s1.length,← s2.length]) (show X.A.units+1<cLine by omega)
   (Gr I (n:=0) s1 s2 fun j u v e1 e2 u' v' ru rv=>by
    rw[e1]at e2
    cases e2
    exact(hz u (List.mem_of_getElem? e1)).at I (A:=X.A.in1.in1) (show X.A.units+1+1+0<cLine by omega) ru rv)
  rw[List.size_toArray,Fn]at rc
  exact SeqAt.EqAt.of_refs e rc
 ·rw[List.size_toArray,Fn]
  simp[Am]
end
end L2
namespace L2.DP
open PySem PySem.Spec PyProof.Rows PySem.W L2
theorem Iv:typeLookup (.type "list") "keys"=pure none:=by rw[typeLookup_type,builtinLookup_eq_fast];kernel_rfl
theorem On {prog:Program}{w:World}{A:Around}{E:Value→Shared→Prop}{s:Shared}{a:Addr}{xs:Array Value}{k:Nat}{Q:Option Value→Shared→Prop}
 (hx:s.heap.get? a=some (seqObj "list" xs k)) (hA:A.handled=none) (h:∀ h' tk,(∀ b o,s.heap.get? b=some o→h'.get? b=some o)→Q none { s with heap:=h',toks:=tk }):
 wpAny (model prog w) A (getAttr? (.ref a) "keys") Q E s:=by
 obtain⟨hp,g,d,tk,os⟩:=s
 have hT:∀ tk',(⟨hp,g,d,tk',os⟩:Shared).TypeIs (.ref a) "list":=fun _=>⟨_,hx,rfl⟩
 have f1:=sub_AttributeError
 have f3:=F.slot_list_getattribute.lookup
 have f4:=F.slot_list_getattribute.bind (.ref a)
 have f5:=am_list_getattr_none
 unfold getAttr? getAttrBy? getAttrBy
 repeat (any_goals (first | assumption | exact hT _ | ((with_reducible show wpAny _ _ (call (Value.builtin "list.__getattribute__") _ _) _ _ _);refine call_meets F.slot_list_getattribute (hT _) am_entry_list_getattribute (F.args_list_getattribute_2 _ _) (meets_getattribute_miss_list a xs k _ _ _ Iv (by nofun) (by nofun)) ⟨hx,hA,fun h' tk' e hx'=>?_⟩) | wp_step))
 obtain⟨t',u',he⟩:=hx'.there
 show wpAny _ _ (getattributeRaised _ _ _ _ _ _ _) _ _ _
 unfold getattributeRaised
 repeat (any_goals (first | assumption | wp_step))
 exact h _ _ hx'.keeps
end L2.DP
namespace L2.DP
open PySem PySem.Spec PyProof.Rows PySem.W L2
theorem Jz:entryFor table "dict.update.loop"=some Builtin.«dict.update.loop»:=entryFor_of_tree (by kernel_rfl)
theorem FL:plainId "dict.update.loop"=true:=by nofun
abbrev TK (P:Program)(w:World):=tupleKind (BR P w)
abbrev PV:=List (List BF×Addr×Value)
section
variable {prog:Program}{w:World}{A:Around}{E:Value→Shared→Prop}{s:Shared}
theorem J0 {h h':Heap}{D:Addr}{xs:PV}(x:h.DictOfH (TK prog w) D xs)(k:∀ o,h.get? D=some o→h'.get? D=some o)(ks:∀ q∈xs,(TK prog w).is h' q.1 q.2.1):h'.DictOfH (TK prog w) D xs:=by
 obtain⟨o,es,ep,h1,h2,h3,h4,_,h6⟩:=x
 exact⟨o,es,ep,k o h1,h2,h3,h4,ks,h6⟩
theorem Gv {h h':Heap}{k:List BF}{a:Addr}(x:(TK prog w).is h k a)(hk:∀ o,h.get? a=some o→h'.get? a=some o):(TK prog w).is h' k a:=by
 obtain⟨o,i,n,e,r⟩:=x
 exact⟨o,i,n,hk o e,r⟩
theorem Oo {h h':Heap}{a:Addr}{xs:Array Value}(x:IsTup h a xs)(hk:∀ o,h.get? a=some o→h'.get? a=some o):IsTup h' a xs:=by
 obtain⟨o,e,r⟩:=x
 exact⟨o,hk o e,r⟩
def FM (prog:Program)(w:World)(N:Addr)(h:Heap)(its:List Value)(tri:PV):Prop:=Paired (fun v q=>∃ p,p<N∧v=Value.ref p∧IsTup h p #[.ref q.2.1,q.2.2]∧q.2.1<N∧(TK prog w).is h q.1 q.2.1) its tri
theorem FM.ext {N:Addr}{h h':Heap}{its:List Value}{tri:PV}(x:FM prog w N h its tri)(k:∀ b o,b<N→h.get? b=some o→h'.get? b=some o):FM prog w N h' its tri:=
 Paired.imp' (fun v q ⟨p,a,b,c,d,e⟩=>⟨p,a,b,Oo c fun o z=>k p o a z,d,Gv e fun o z=>k _ o d z⟩) x
theorem FM.keys {N:Addr}{h:Heap}{its:List Value}{tri:PV}(x:FM prog w N h its tri):∀ q∈tri,(TK prog w).is h q.1 q.2.1:=by
 unfold FM at x
 induction x with
 | nil=>intro q hq;cases hq
 | cons r _ ih=>
  intro q hq
  obtain⟨p,_,_,_,_,e⟩:=r
  rcases List.mem_cons.mp hq with z | z
  ·rw[z];exact e
  ·exact ih q z
theorem US {α β:Type}{F:α→β→Prop}:∀{xs:List α} {ys:List β} {i:Nat} {x:α},Paired F xs ys→xs[i]?=some x→∃ y,ys[i]?=some y∧F x y
 | _,_,_,_,.nil,h=>by cases h
 | _,_,0,_,.cons r _,h=>by cases h;exact⟨_,rfl,r⟩
 | _,_,i+1,_,.cons _ t,h=>US (i:=i) t h
theorem Kx {xs:PV}{k:List BF}{b:Addr}{v:Value}(h:k∉xs.map (·.1)):storedH xs k b v=xs++[(k,b,v)]:=by
 unfold storedH
 rw[if_neg]
 unfold atKey
 rw[List.find?_eq_none.mpr fun x hx=>?_]
 ·simp
 ·simp only[decide_eq_true_eq]
  exact fun e=>h (List.mem_map.mpr ⟨x,hx,e⟩)
theorem Op {R:Result→Shared→Prop}{I:Addr}{fp wr:List Addr}{G:Array GenState→Array GenState→Prop}{its:List Value}{St:Nat→Shared→Prop}
 (W:WalksS prog w A.in1 I fp wr G its.length (fun i v=>its[i]?=some v) St) (D:Addr) (hD:D∉fp) (hu:A.units+1<cLine) {N:Addr} (hN:∀ b∈wr,N≤b) (hND:N≤D) {tri:PV} (nd:(tri.map (·.1)).Nodup) (h64:tri.length<64):
 ∀(k i:Nat) (tk:Tok) (s:Shared),its.length-i=k→i≤its.length→St i s→FM prog w N s.heap its tri→s.heap.DictOfH (TK prog w) D (tri.take i)→(∀ s',Moved (D::wr) G s s'→s'.heap.DictOfH (TK prog w) D tri→R (.ok (.ret .none)) s')→
 codeAny (model prog w) A (.builtin "dict.update.loop" ⟨[.ref D,.ref I,.int i tk,.none],[]⟩) R s:=by
 intro k
 induction k with
 | zero=>
  intro i tk s hk hi hst hp hd hR
  have e:i=its.length:=by omega
  subst e
  have hl:its.length=tri.length:=Paired.length hp
  refine codeAny_builtin Jz ?_
  rw[Around.under_plainId FL _]
  have nw:∀ b,b<N→b∉wr:=fun b hb h=>absurd (hN b h) (Nat.not_le.mpr hb)
  refine wpAny_bind (W.done s _ _ hst fun s' hm=>?_)
  refine wpAny_bind (show wpAny _ _ (pure PUnit.unit) _ _ _ from wpAny_pure (wpAny_pure (hR s' (Le hm) ?_)))
  rw[hl,List.take_length]at hd
  exact J0 hd (fun o e=>hm.heap D o (fun h=>hD (W.sub D h)) e) (hp.ext fun b o hb e=>hm.heap b o (nw b hb) e).keys
 | succ k ih=>
  intro i tk s hk hi hst hp hd hR
  have hlt:i<its.length:=by omega
  refine codeAny_builtin Jz ?_
  rw[Around.under_plainId FL _]
  have nw:∀ b,b<N→b∉wr:=fun b hb h=>absurd (hN b h) (Nat.not_le.mpr hb)
  refine wpAny_bind (W.item i s _ _ hlt hst fun v s' hv hst' hm=>?_)
  have hp':=hp.ext fun b o hb e=>hm.heap b o (nw b hb) e
  have hd':=J0 hd (fun o e=>hm.heap D o (fun h=>hD (W.sub D h)) e) fun q hq=>hp'.keys q (List.mem_of_mem_take hq)
  obtain⟨q,hq,p,p1,rfl,p3,p4,p5⟩:=US hp' hv
  have nk:q.1∉(tri.take i).map (·.1):=fun hm'=>by
   rw[List.map_take]at hm'
   obtain⟨hi',ei⟩:=List.getElem?_eq_some_iff.mp hq
   obtain⟨j,hj,ej⟩:=List.mem_take_iff_getElem.mp hm'
   have hj2:j<i:=by omega
   have:=List.pairwise_iff_getElem.mp nd j i (by rw[List.length_map];omega) (by rw[List.length_map];exact hi') hj2
   exact this (by rw[ej,List.getElem_map,ei])
  dsimp only
  refine wpAny_bind (wpAny_holding (wpAny_bind ?_))
  obtain⟨o,e1,e2,n,e3⟩:=p3
  refine wpAny_tryCatch ?_
  unfold Builtin.Dict.pairItems
  refine wpAny_bind (wpAny_typeOf (T:="tuple") ⟨o,e1,e2⟩ ?_)
  rw[if_pos (by decide)]
  refine wpAny_bind (wpAny_seqItems e1 e3 (wpAny_pure ?_))
  refine(show wpAny _ _ (holding [.ref q.2.1,q.2.2] (dictSet D (.ref q.2.1) q.2.2)) _ _ _ from wpAny_holding ?_)
  refine wpAny_dictSet_heap (knd:=TK prog w) hu p5 hd' (fun h' hd2 hs=>?_) (by rw[List.length_take];have:=sizeLine_eq;omega)
  rw[Kx nk]at hd2
  have mv:Moved (D::wr) G s' { s' with heap:=h',toks:=s'.toks+(TK prog w).draws q.1 }:=⟨fun b o hb e=>by rw[hs.2 b (fun z=>hb (by rw[z];simp))];exact e,W.grefl _,rfl,rfl,Nat.le_add_right _ _⟩
  refine wpAny_pure ⟨plainId_quiet FL _,ih (i+1) 0 _ (by omega) (by omega) ?_ (hp'.ext fun b o hb e=>by rw[hs.2 b (Nat.ne_of_lt (Nat.lt_of_lt_of_le hb hND))];exact e) ?_ fun s2 hm2 hd3=>hR s2 (DF W.gtrans (Le hm) (DF W.gtrans mv hm2)) hd3⟩
  ·exact W.frame (i+1) s' h' _ hst' (Nat.le_add_right _ _) fun b hb o e=>by rw[hs.2 b (fun z=>hD (z▸hb))];exact e
  ·rw[List.take_add_one,hq];exact hd2
theorem GC {Q:Value→Shared→Prop}{l:Addr}{its:List Value}{n:Nat}{tri:PV}(hh:A.handled=none)(hu:A.units+4<cLine)(hl:s.heap.get? l=some (seqObj "list" its.toArray n))(hp:FM prog w s.heap.objs.size s.heap its tri)(nd:(tri.map (·.1)).Nodup)(h64:tri.length<64)
 (hQ:∀ h' tk,(∀ b o,s.heap.get? b=some o→h'.get? b=some o)→h'.DictOfH (TK prog w) s.heap.objs.size tri→Q (.ref s.heap.objs.size) { s with heap:=h',toks:=tk }):
 wpAny (model prog w) A (call (.type "dict") [.ref l]) Q E s:=by
 refine callType_codes (Q₁:=fun obj s₁=>obj=.ref s.heap.objs.size∧s₁={ s with heap:=s.heap.push { cls:=.type "dict",data:=.dict #[] } }) F.kt_called_dict (F.kt_typeCall_dict_1 _) F.entry_dict_init (kt_code_dict_new _ ⟨rfl,rfl⟩) ?_
 rintro obj s₁ ⟨rfl,rfl⟩
 have hn:(s.heap.push { cls:=.type "dict",data:=.dict #[] }).get? s.heap.objs.size=some { cls:=.type "dict",data:=.dict #[] }:=Heap.get?_push_size _ rfl
 have ty:Shared.TypeIs { s with heap:=s.heap.push { cls:=.type "dict",data:=.dict #[] } } (.ref s.heap.objs.size) "dict":=⟨_,hn,rfl⟩
 have hl1:(s.heap.push { cls:=.type "dict",data:=.dict #[] }).get? l=some (seqObj "list" its.toArray n):=Heap.get?_push_of_some _ hl
 have tl:Shared.TypeIs { s with heap:=s.heap.push { cls:=.type "dict",data:=.dict #[] } } (.ref l) "list":=⟨_,hl1,rfl⟩
 have ll:l<s.heap.objs.size:=Heap.lt_size hl
 refine⟨ty,F.args_dict_init_2 _ _,?_⟩
 unfold Builtin.«dict.__init__»
 refine wpAny_bind ?_
 unfold Builtin.Dict.selfAndRest
 refine wpAny_bind (wpAny_notOrdered_dict ty ?_)
 show wpAny _ _ (pure (s.heap.objs.size,[Value.ref l])) _ _ _
 refine wpAny_pure ?_
 show wpAny _ _ (Builtin.Dict.updateFrom "dict.__init__" s.heap.objs.size (.ref l) [] .none) _ _ _
 unfold Builtin.Dict.updateFrom
 refine wpAny_bind (wpAny_typeOf tl ?_)
 rw[if_pos (by decide)]
 refine wpAny_bind (On (s:={ s with heap:=s.heap.push { cls:=.type "dict",data:=.dict #[] } }) hl1 hh fun h1 t1 kp=>?_)
 rw[if_pos (by rfl)]
 refine wpAny_bind (wpAny_rule ?_)
 have hl2:h1.get? l=some (seqObj "list" its.toArray n):=kp _ _ hl1
 have hd2:h1.get? s.heap.objs.size=some { cls:=.type "dict",data:=.dict #[] }:=kp _ _ hn
 have il:h1.IsList l its.toArray:=⟨_,hl2,rfl,_,rfl⟩
 refine wpAny_bind (wpAny_pyIter_list (s:={ s with heap:=h1,toks:=t1 }) il ?_)
 have lD:s.heap.objs.size<h1.objs.size:=Heap.lt_size hd2
 have W0:=(Walks.list (prog:=prog) (w:=w) (A:=A.in1.in1) hh h1.objs.size l (Nat.ne_of_lt (Nat.lt_trans ll lD)) its.toArray).toS
 have W:WalksS prog w A.in1.in1 h1.objs.size [h1.objs.size,l] [h1.objs.size] (fun a b=>b=a) its.length (fun i v=>its[i]?=some v) (fun i s=>s.heap.IsListIter h1.objs.size l i∧s.heap.IsList l its.toArray):=by simpa using W0
 have k0:∀ b o,s.heap.get? b=some o→h1.get? b=some o:=fun b o e=>kp b o (Heap.get?_push_of_some _ e)
 refine wpAny_pure ⟨plainId_quiet FL _,Op (A:=A.in1) W s.heap.objs.size (by simp;exact⟨Nat.ne_of_lt lD,Nat.ne_of_gt ll⟩) (by show A.units+1+1<cLine;omega) (N:=s.heap.objs.size) (fun b hb=>by rw[List.mem_singleton.mp hb];exact Nat.le_of_lt lD) (Nat.le_refl _) nd h64 its.length 0 0 _ rfl (Nat.zero_le _) ⟨⟨_,Heap.get?_push_size _ rfl,rfl,rfl⟩,il.at fun o e=>Heap.get?_push_of_some _ e⟩ (hp.ext fun b o _ e=>Heap.get?_push_of_some _ (k0 b o e)) ⟨_,#[],0,Heap.get?_push_of_some _ hd2,⟨rfl,rfl,rfl⟩,rfl,rfl,(fun q hq=>by cases hq),List.nodup_nil⟩ fun s' hm hd3=>⟨rfl,?_⟩⟩
 rw[Moved.eq_with hm]
 refine hQ s'.heap s'.toks (fun b o e=>hm.heap b o ?_ (Heap.get?_push_of_some _ (k0 b o e))) hd3
 have:=Heap.lt_size e
 simp
 exact⟨Nat.ne_of_lt this,Nat.ne_of_lt (Nat.lt_trans this lD)⟩
end
section
variable {X:Cx}
def PvAt (H:Hp)(v:V)(kv:List BF×V):Prop:=∃ p b,v=.ref p∧H p=some (.tup [.ref b,kv.2])∧H b=some (.tup (kv.1.map kV))
def Qb (K:PySem.W.Frag):List V→Hp→VK→Prop:=fun xs H Q=>∃(a:Addr) (us:List V) (kvs:List (List BF×V)),xs=[V.ref a]∧H a=some (.lst us)∧Paired (PvAt H) us kvs∧(kvs.map (·.1)).Nodup∧us.length<64∧∀ d,H d=none→Q (.ref d) (upd H d (.dT kvs))
theorem call_dictP (hc:X.calm=true)(hu:X.A.units+4<cLine):CC X (.type "dict") (Qb X.K):=by
 intro pins s σ H xs us0 Q I r h
 obtain⟨a,us,kvs,rfl,ha,hp,nd,h64,q⟩:=h
 obtain⟨u,rfl,ru⟩:=FE r
 cases ru
 obtain⟨hz0,its,n,rv,ho⟩:=(show BI X.prog X.w H s.heap a (.lst us)from I.hok a _ ha)
 have hlen:=rv.length
 obtain⟨tri,t1,t2⟩:∃ tri:PV,FM X.prog X.w s.heap.objs.size s.heap its tri∧Paired (fun(p:List BF×V) (q:List BF×Addr×Value)=>p.1=q.1∧H q.2.1=some (.tup (p.1.map kV))∧Am p.2 q.2.2) kvs tri:=by
  clear ho hlen h64 nd q ha hz0
  induction hp generalizing its with
  | nil=>cases rv;exact⟨[],.nil,.nil⟩
  | @cons v kv us kvs hv _ ih=>
   cases rv with
   | @cons _ u _ its r rv=>
    obtain⟨tri,a1,a2⟩:=ih its rv
    obtain⟨p,b,rfl,hp,hb⟩:=hv
    cases r
    obtain⟨its2,rv2,pl,_⟩:=I.tuple (Ao.of hp)
    cases rv2 with
    | cons r1 rv2=>
     cases rv2 with
     | @cons _ u2 _ _ r2 rv2=>
      cases rv2
      cases r1
      exact⟨(kv.1,b,u2)::tri,.cons ⟨p,(I.hok.lt hp),rfl,pl,(I.hok.lt hb),Fl I.hok hb⟩ a1,.cons ⟨rfl,hb,r2⟩ a2⟩
 have lt:kvs.length=tri.length:=Paired.length t2
 have lu:us.length=kvs.length:=Paired.length hp
 have ek:tri.map (·.1)=kvs.map (·.1):=by
  clear t1 lt lu nd q hp
  induction t2 with
  | nil=>rfl
  | cons r _ ih=>rw[List.map_cons,List.map_cons,ih,r.1]
 have hs:sizeLine=16777216:=sizeLine_eq
 refine GC (I.ok.hd hc) hu ho t1 (by rw[ek];exact nd) (by omega) fun h' tk kp hd=>?_
 obtain⟨o,es,ep,d1,d2,d3,d4,_,d6⟩:=hd
 have fr:=I.hok.fresh (Nat.le_refl _)
 refine⟨.ref _,_,I.laid (t':=tk) (o:=.dT kvs) kp (Nat.le_refl _) ⟨by omega,?_,tri,Paired.imp' (fun p q ⟨a,b,c⟩=>⟨a,?_,c⟩) t2,o,es,ep,d1,d2,d3,d4,d6⟩,rfl,q _ fr⟩
 ·exact beq_eq_false_iff_ne.mpr (Ne.symm (Nat.ne_of_lt I.big))
 ·rw[AT (Aa b fr)];exact b
end
end L2.DP
namespace Mx
structure TN (x y:Int):Prop where
 pos:0<y
 cop:Nat.gcd x.natAbs y.natAbs=1
theorem Nc {m n:Nat}:Nat.gcd n (m%n)=Nat.gcd m n:=by
 rw[Nat.gcd_comm m n,Nat.gcd_rec n m,Nat.gcd_comm]
end Mx
namespace Mx
end Mx
namespace Fs
open PySem L2 Mx
structure Df (K:PySem.W.Frag)(mg:Str→Option Value)(x:Str)(st:Stmt)(ps:List Str)(f:Addr)(fd:FuncData):Prop where
 fn:Fun K x x st f fd
 gl:mg x=some (.ref f)
 b:IF K fd ps []
theorem AO {X:Cx}{k:Nat}{f:Addr}{fd:FuncData}{ps:List Str}{sp:Sp}{x:Str}{st:Stmt}{e:Expr}{es:List Expr}{t:TA}{p pos:Pos}(D:Df X.K X.mg x st ps f fd)(F:Az X.prog X.w X.K X.mg X.base Bd k f fd ps sp)(hr:Bx k X.A)
 (ha:PA X (e::es) t) (hg:Gl X x:=by rfl) (hdb:(x==("__debug__":Str))=false:=by decide) (he:starEach (e::es) X.env=(false,eval e X.env)::starEach es X.env:=by rfl) (hpl:(backTo pos (starEach es X.env)).any (·.1)=false:=by rfl):
 PE X (.Call (.Name x p) (e::es) [] pos) (PK sp [] E0 t):=OJ F hr hg D.gl D.fn.kp D.b .nil RS ha hdb he hpl
theorem Gz:bootBuiltins "abs"=some (.builtin "abs"):=by nofun
def KeepX (p:Addr)(H H':Hp):Prop:=∀ b o,b≠p→H b=some o→H' b=some o
theorem KeepX.refl (p:Addr)(H:Hp):KeepX p H H:=fun _ _ _ e=>e
theorem KeepX.trans {p:Addr}{H H1 H2:Hp}(a:KeepX p H H1)(b:KeepX p H1 H2):KeepX p H H2:=fun c o hc e=>b c o hc (a c o hc e)
theorem KeepX.upd {p:Addr}{H:Hp}{o:HO}:KeepX p H (upd H p o):=fun b u hb e=>by rw[AT hb];exact e
theorem AH.keep {p:Addr}{H H':Hp}(h:AH H H'):KeepX p H H':=fun b o _ e=>h b o e
theorem AH.new {H:Hp}{p:Addr}{o:HO}(h:H p=none):AH H (upd H p o):=fun b u e=>by rw[AT (Aa e h)];exact e
def Rs:St→Nat
 | [_,_,_,some (V.int n)]=>n.toNat
 | [_,_,_,some (V.int n),_]=>n.toNat
 | _=>0
theorem Ky (i:Int):(if i<0 then -i else i)=(i.natAbs:Int):=by split <;> omega
theorem T9 {x:Int}(h1:-18446744073709551616<x)(h2:x<18446744073709551616):Sz 64 x:=by unfold Sz;omega
theorem Ag {x:Int}(h1:-18446744073709551616<x)(h2:x<18446744073709551616):Sz 4000 x:=(T9 h1 h2).mono (by decide)
theorem BB:2≤sizeLine:=by decide
theorem A6:3≤sizeLine:=by decide
def UA:Sp:=fun vs H Q _=>∃ a b:Int,vs=[.int a,.int b]∧Q (.int (Nat.gcd a.natAbs b.natAbs:Nat)) H
def Oq:Sp:=fun vs H Q _=>∃ i:Int,vs=[.int i]∧Q (.bl true) H
theorem Q1 {x y:Int}(h:x=y):V.bl (decide (V.int x=V.int y))=V.bl true:=by subst h;simp
theorem Ew {Q:VK}{v w:V}{H:Hp}(e:v=w)(q:Q w H):Q v H:=by rw[e];exact q
theorem AL:bootBuiltins "isinstance"=some (.builtin "isinstance"):=by nofun
theorem G0:bootBuiltins "min"=some (.builtin "min"):=by nofun
theorem G6:bootBuiltins "int"=some (.type "int"):=by nofun
theorem Bb:bootBuiltins "bool"=some (.type "bool"):=by nofun
theorem Br:bootBuiltins "str"=some (.type "str"):=by nofun
theorem Bj:bootBuiltins "list"=some (.type "list"):=by nofun
theorem Ay:bootBuiltins "tuple"=some (.type "tuple"):=by nofun
theorem A1 {X:Cx}{x:Str}{T:String}{pos:Pos}(hm:X.mg x=none)(hv:bootBuiltins x=some (.type T))(hg:Gl X x:=by rfl)(hn:x≠"__name__":=by decide)(hd:(x==("__debug__":Str))=false:=by decide):PE X (.Name x pos) (tC (.ty T)):=OC hg hm hv rfl hn hd
theorem Ax (K:PySem.W.Frag)(t:Value):PySem.W.kitOne K t t=some true:=by unfold PySem.W.kitOne;simp
def Qc (mg:Str→Option Value)(x z:Str):Prop:=∃ u,mg x=some u∧Am (.str z) u
def Ed (mg:Str→Option Value)(x:Str)(i:Int):Prop:=∃ u,mg x=some u∧Am (.int i) u
theorem Lr {X:Cx}{x z:Str}{pos:Pos}(hm:Qc X.mg x z)(hg:Gl X x:=by rfl)(hd:(x==("__debug__":Str))=false:=by decide):PE X (.Name x pos) (tC (.str z)):=by
 obtain⟨u,h,r⟩:=hm
 exact LM hg h r hd
theorem BO {X:Cx}{x:Str}{i:Int}{pos:Pos}(hm:Ed X.mg x i)(hg:Gl X x:=by rfl)(hd:(x==("__debug__":Str))=false:=by decide):PE X (.Name x pos) (tC (.int i)):=by
 obtain⟨u,h,r⟩:=hm
 exact LM hg h r hd
def Rt:R2:=fun x y H Q=>∃ i j,x=.str i∧y=.str j∧Q (.bl (!(Builtin.Str.occurrences j i 0 j.length 1).isEmpty)) H
theorem Nd {X:Cx}:EX X (compareOp .In) Rt:=L7
theorem CP {n:Nat}(h:n≤1000):n<sizeLine:=IN h
theorem Ls {n:Nat}(h:n≤1000):n≤sizeLine:=Nat.le_of_lt (IN h)
theorem G7 {z:Str}(L:Str){H:Hp}{D:Addr}(hz:z.length≤1000)(hD:H D=none):
 ∃ W:Nat→Nat→Hp→Prop,(∃ m,W 0 m (upd H D (.lst [])))∧∀ i m H',W i m H'→
  ((RT z).stop i H'∧H'=upd H D (.lst ((z.cps.toList.map fun c=>decide (c∈L.cps.toList)).map V.bl)))∨((RT z).go i H'∧∀(js:List Nat) (σ:St) (x:V) (H2:Hp),(RT z).yld i H' x H2→P7 (some x::Ff js σ) H2 fun b H3=>
    if b=true then RH Rt (Pm 0) (tC (.str L)) (some x::Ff js σ) H3 fun v H4=>∃ xs,H4 D=some (.lst xs)∧xs.length<sizeLine∧∃ m',m'<m∧W (i+1) m' (upd H4 D (.lst (xs++[v])))
    else ∃ m',m'<m∧W (i+1) m' H3):=by
 have hs:z.cps.toList.length=z.cps.size:=by simp
 have hl:z.length=z.cps.size:=rfl
 refine⟨fun i m H'=>m=z.cps.size-i∧i≤z.cps.size∧H'=upd H D (.lst (((z.cps.toList.take i).map fun c=>decide (c∈L.cps.toList)).map V.bl)),⟨z.cps.size,by simp,Nat.zero_le _,by simp⟩,?_⟩
 rintro i m H' ⟨rfl,hi,rfl⟩
 by_cases hlt:i<z.cps.size
 ·refine .inr ⟨hlt,fun js σ x H2 y=>?_⟩
  obtain⟨e,c,hc,e2⟩:=y
  subst e e2
  unfold P7
  dsimp only
  rw[if_pos rfl]
  refine⟨_,rfl,_,_,rfl,rfl,_,AD,?_,_,?_,rfl,hlt,?_⟩
  ·rw[List.length_map,List.length_map,List.length_take];exact CP (by omega)
  ·show z.cps.size-(i+1)<z.cps.size-i
   omega
  ·rw[GN]
   congr 2
   have ht:z.cps.toList.take (i+1)=z.cps.toList.take i++[c]:=by
    rw[List.take_succ,show z.cps.toList[i]?=some c by simpa using hc]
    rfl
   rw[ht,List.map_append,List.map_append,StrLaws.found_one]
   rfl
 ·have e:i=z.cps.size:=by omega
  subst e
  refine .inl ⟨rfl,?_⟩
  have ht:z.cps.toList.take z.cps.size=z.cps.toList:=List.take_of_length_le (by omega)
  rw[ht]
theorem IZ {z L:Str}(h:∀ c∈z.cps.toList,c∈L.cps.toList):(z.cps.toList.map fun c=>decide (c∈L.cps.toList)).all id=true:=by
 rw[List.all_map,List.all_eq_true]
 intro c hc
 simpa using h c hc
structure Nm (z:Str):Prop where
 lo:1≤z.length
 hi:z.length≤6
 az:∀ c∈z.cps.toList,97≤c∧c≤122
theorem Qd {z:Str}(h:Nm z):∀ c∈z.cps.toList,c∈(Str.ofString "abcdefghijklmnopqrstuvwxyz").cps.toList:=by
 intro c hc
 have ⟨a,b⟩:=h.az c hc
 have tab:∀ i,i<26→97+i∈(Str.ofString "abcdefghijklmnopqrstuvwxyz").cps.toList:=by nofun
 have:=tab (c-97) (by omega)
 rwa [show 97+(c-97)=c by omega]at this
structure Os (H:Hp)(p:Addr)(z:Str)(r c:Int):Prop where
 ob:H p=some (.tup [.str z,.int r,.int c])
 nm:Nm z
 r0:1≤r
 r1:r≤16
 c0:1≤c
 c1:c≤8
theorem Os.same {H H':Hp}{p:Addr}{z:Str}{r c:Int}(h:Os H p z r c)(s:AH H H'):Os H' p z r c:=⟨s _ _ h.ob,h.nm,h.r0,h.r1,h.c0,h.c1⟩
def Ru:Sp:=fun vs H Q _=>∃ z:Str,vs=[.str z]∧Nm z∧∀ H',AH H H'→Q (.bl true) H'
def Qe:Sp:=fun vs H Q _=>∃ i l:Int,vs=[.int i,.int l]∧1≤i∧i≤l∧Q (.bl true) H
def Rv:Sp:=fun vs H Q _=>∃(p:Addr) (z:Str) (r c:Int),vs=[.ref p]∧Os H p z r c∧∀ H',AH H H'→Q (.bl true) H'
theorem Bz {z:Str}(h:(decide (1≤z.length)&&decide (z.length≤6)&&z.cps.toList.all fun c=>decide (97≤c)&&decide (c≤122))=true):Nm z:=by
 simp only[Bool.and_eq_true,decide_eq_true_eq,List.all_eq_true]at h
 exact⟨h.1.1,h.1.2,fun c hc=>h.2 c hc⟩
inductive Vl where
 | none | num (t b:Int) | txt (z:Str) | tru (b:Bool) | flt (w z:Str) (r c:Int)
 deriving DecidableEq
def Ex:List Str:=[Str.ofString "kind",Str.ofString "nought",Str.ofString "gone",Str.ofString "name",Str.ofString "shape",Str.ofString "blocked",Str.ofString "miss",Str.ofString "ring",Str.ofString "great"]
def J1:Vl→Prop
 | .num t b=>TN t b∧t.natAbs<10 ^ 30∧b.natAbs<10 ^ 30
 | .txt z=>z.length≤20∧∀ c∈z.cps.toList,c∈(Str.ofString "abcdefghijklmnopqrstuvwxyz0123456789 ").cps.toList
 | .flt w z r c=>w∈Ex∧Nm z∧1≤r∧r≤16∧1≤c∧c≤8
 | _=>True
def Nf (K:PySem.W.Frag)(mg:Str→Option Value)(x:Str)(xs:List V):Prop:=∃(a:Addr) (o:Obj),mg x=some (.ref a)∧K.lookup a=some o∧o.cls=.type "tuple"∧∃ its n,o.data=.seq its n∧its.size≤sizeLine∧A2 xs its.toList
def Um (K:PySem.W.Frag)(xs:List V):TE:=fun _ H Q=>∀ a,(∀ H',Ao K H' a xs)→Q (.ref a) H
theorem GT {X:Cx}{x:Str}{xs:List V}{pos:Pos}(hm:Nf X.K X.mg x xs)(hg:Gl X x:=by rfl)(hd:(x==("__debug__":Str))=false:=by decide):PE X (.Name x pos) (Um X.K xs):=by
 obtain⟨a,o,h,hl,hc,its,n,h1,h2,h3⟩:=hm
 intro pins s σ H Q I q
 exact FB I hg h ⟨.ref a,H,I,rfl,q a fun H'=>.inr ⟨o,its,n,hl,hc,h1,h2,h3⟩⟩ hd
def FN (H:Hp)(p:Addr):Vl→Prop
 | .none=>H p=some (.tup [.str (Str.ofString "none")])
 | .num t b=>H p=some (.tup [.str (Str.ofString "number"),.int t,.int b])
 | .txt z=>H p=some (.tup [.str (Str.ofString "text"),.str z])
 | .tru b=>H p=some (.tup [.str (Str.ofString "truth"),.bl b])
 | .flt w z r c=>∃ q,H p=some (.tup [.str (Str.ofString "fault"),.str w,.ref q])∧H q=some (.tup [.str z,.int r,.int c])
theorem FN.same {H H':Hp}{p:Addr}{v:Vl}(h:FN H p v)(s:AH H H'):FN H' p v:=by
 cases v with
 | none=>exact s _ _ h
 | num t b=>exact s _ _ h
 | txt z=>exact s _ _ h
 | tru b=>exact s _ _ h
 | flt w z r c=>obtain⟨q,a,b⟩:=h;exact⟨q,s _ _ a,s _ _ b⟩
theorem Ng {w:Str}(h:w∈Ex):F9 (.str w) (Ex.map V.str)=true:=by
 unfold F9
 rw[List.any_map,List.any_eq_true]
 exact⟨w,h,by simp[JO]⟩
theorem J3:(Ex.map V.str).all BP=true:=by nofun
def Rw:Sp:=fun vs H Q _=>∃ t b:Int,vs=[.int t,.int b]∧TN t b∧Q (.bl true) H
def Rx:Sp:=fun vs H Q _=>∃ i:Int,vs=[.int i]∧i.natAbs<10 ^ 30∧Q (.bl true) H
def Ot:Sp:=fun vs H Q _=>∃ t b:Int,vs=[.int t,.int b]∧TN t b∧t.natAbs<10 ^ 30∧b.natAbs<10 ^ 30∧Q (.bl true) H
def Ry:Sp:=fun vs H Q _=>∃ z:Str,vs=[.str z]∧J1 (.txt z)∧∀ H',AH H H'→Q (.bl true) H'
def UB:Sp:=fun vs H Q _=>∃ w:Str,vs=[.str w]∧w∈Ex∧Q (.bl true) H
def PX:Sp:=fun vs H Q _=>∃(p:Addr) (v:Vl),vs=[.ref p]∧J1 v∧FN H p v∧∀ H',AH H H'→Q (.bl true) H'
theorem Hl {z y:Str}(h:z=y):V.bl (decide (V.str z=V.str y))=V.bl true:=by subst h;simp
theorem UC {α:Type}{us:List α}(h:us.length=1):∃ a,us=[a]:=match us,h with | [a],_=>⟨a,rfl⟩
theorem Rz {α:Type}{us:List α}(h:us.length=2):∃ a b,us=[a,b]:=match us,h with | [a,b],_=>⟨a,b,rfl⟩
theorem Ou {α:Type}{us:List α}(h:us.length=3):∃ a b c,us=[a,b,c]:=match us,h with | [a,b,c],_=>⟨a,b,c,rfl⟩
abbrev kS (z:String):BF:=.inr (Str.ofString z)
theorem G8 {ns:List Int}{r:Int}(h0:0≤r)(h1:r<(ns.length:Int)):∃ v,FF (ns.map V.int) r=some (V.int v):=by
 obtain⟨j,rfl⟩:∃ j:Nat,r=(j:Int):=⟨r.toNat,by omega⟩
 have hj:j<ns.length:=by omega
 exact⟨ns[j],B2 (by rw[List.getElem?_map,List.getElem?_eq_getElem hj];rfl)⟩
abbrev vS (z:String):V:=.str (Str.ofString z)
def UT:List V:=[vS "yes",vS "no",vS "if",vS "sum",vS "count",vS "least",vS "most",vS "sumif",vS "find",vS "turn",vS "stack"]
def UU:List V:=[vS "grid",vS "outer"]
def MX (z:Str):Bool:=F9 (.str z) UT||F9 (.str z) UU
def OB:Option Str→V
 | none=>.non
 | some z=>.str z
def Nh:Option Str→Prop
 | none=>True
 | some z=>Nm z
def Kp (H H':Hp):Prop:=∀ a xs,H a=some (.tup xs)→H' a=some (.tup xs)
theorem Kp.same {H H':Hp}(s:AH H H'):Kp H H':=fun a xs e=>s _ _ e
theorem Kp.lst {H H':Hp}{p:Addr}{ys:List V}(hp:H p=some (.lst ys))(s:KeepX p H H'):Kp H H':=fun a xs e=>s _ _ (DB e hp (by intro z;cases z)) e
theorem Kp.trans {H H1 H2:Hp}(a:Kp H H1)(b:Kp H1 H2):Kp H H2:=fun c xs e=>b c xs (a c xs e)
structure Q2 where
 r:Int
 c:Int
 x:Bool
 y:Bool
abbrev Ni (c:Q2):List V:=[.int c.r,.int c.c,.bl c.x,.bl c.y]
structure J4 (c:Q2):Prop where
 r0:1≤c.r
 r1:c.r≤16
 c0:1≤c.c
 c1:c.c≤8
inductive Lf where
 | val (v:Vl) | cell (s:Option Str) (c:Q2) | rng (s:Option Str) (c d:Q2) | cols (s:Option Str) (a:Int) (x:Bool) (b:Int) (y:Bool) | gone | nam (z:Str) | par (i:Int) | flt (z:Str)
def Ee (H:Hp)(a:Addr):Lf→Prop
 | .val v=>∃ q,H a=some (.tup [vS "value",.ref q])∧FN H q v
 | .cell s c=>∃ q,H a=some (.tup [vS "cell",OB s,.ref q])∧H q=some (.tup (Ni c))
 | .rng s c d=>∃ q u,H a=some (.tup [vS "range",OB s,.ref q,.ref u])∧H q=some (.tup (Ni c))∧H u=some (.tup (Ni d))
 | .cols s i x j y=>∃ q u,H a=some (.tup [vS "columns",OB s,.ref q,.ref u])∧H q=some (.tup [.int i,.bl x])∧H u=some (.tup [.int j,.bl y])
 | .gone=>H a=some (.tup [vS "gone"])
 | .nam z=>H a=some (.tup [vS "name",.str z])
 | .par i=>H a=some (.tup [vS "param",.int i])
 | .flt z=>H a=some (.tup [vS "fault",.str z])
def Q3:Vl→Prop
 | .num t b=>b=1∧0≤t∧t≤999999999
 | .txt _=>True
 | .tru _=>True
 | _=>False
def J5 (pr:Nat):Lf→Prop
 | .val v=>J1 v∧Q3 v
 | .cell s c=>Nh s∧J4 c
 | .rng s c d=>Nh s∧J4 c∧J4 d∧c.r≤d.r∧c.c≤d.c
 | .cols s i _ j _=>Nh s∧1≤i∧i≤j∧j≤8
 | .gone=>True
 | .nam z=>Nm z∧MX z=false
 | .par i=>0≤i∧i<pr
 | .flt z=>4≤pr∧z.length≤20
theorem FN.kp {H H':Hp}{p:Addr}{v:Vl}(h:FN H p v)(s:Kp H H'):FN H' p v:=by
 cases v with
 | none=>exact s _ _ h
 | num t b=>exact s _ _ h
 | txt z=>exact s _ _ h
 | tru b=>exact s _ _ h
 | flt w z r c=>obtain⟨q,a,b⟩:=h;exact⟨q,s _ _ a,s _ _ b⟩
theorem Ee.kp {H H':Hp}{a:Addr}{l:Lf}(h:Ee H a l)(s:Kp H H'):Ee H' a l:=by
 cases l with
 | val v=>obtain⟨q,h1,h2⟩:=h;exact⟨q,s _ _ h1,FN.kp h2 s⟩
 | cell z c=>obtain⟨q,h1,h2⟩:=h;exact⟨q,s _ _ h1,s _ _ h2⟩
 | rng z c d=>obtain⟨q,u,h1,h2,h3⟩:=h;exact⟨q,u,s _ _ h1,s _ _ h2,s _ _ h3⟩
 | cols z i x j y=>obtain⟨q,u,h1,h2,h3⟩:=h;exact⟨q,u,s _ _ h1,s _ _ h2,s _ _ h3⟩
 | gone=>exact s _ _ h
 | nam z=>exact s _ _ h
 | par i=>exact s _ _ h
 | flt z=>exact s _ _ h
theorem Lu {n:Int}:TN n 1:=⟨by decide,by simp⟩
inductive Kd where
 | op (z:Str) | neg | own (z:Str) | sumif (z:Str) | grid (i j:Int) | wd (z:Str)
def Kz (t:Addr):Kd→List V→List V
 | .op z,us=>vS "op"::.str z::us
 | .neg,us=>vS "neg"::us
 | .own z,_=>[vS "own",.str z,.ref t]
 | .sumif z,us=>vS "sumif"::(us.take 1++.str z::us.drop 1)
 | .grid i j,us=>vS "grid"::.int i::.int j::us
 | .wd z,us=>.str z::us
def G9:Kd→Bool
 | .own _=>true
 | _=>false
def UD:List Str:=["+","-","*","/","&","=","<"].map Str.ofString
def J6:List (Str×Nat):=[("if",3),("sum",1),("count",1),("least",1),("most",1),("find",3),("turn",1),("stack",2),("outer",1)].map fun x=>(Str.ofString x.1,x.2)
def Iw:Kd→Nat→Prop
 | .op z,m=>z∈UD∧m=2
 | .neg,m=>m=1
 | .own z,m=>Nm z∧MX z=false∧m≤3
 | .sumif z,m=>(z=Str.ofString "="∨z=Str.ofString "<")∧m=3
 | .grid i j,m=>1≤i∧i≤16∧1≤j∧j≤8∧m=2
 | .wd z,m=>(z,m)∈J6
theorem Iw.le {k:Kd}{m:Nat}(h:Iw k m):m≤3:=by
 cases k with
 | op z=>have:=h.2;omega
 | neg=>have:m=1:=h;omega
 | own z=>exact h.2.2
 | sumif z=>have:=h.2;omega
 | grid i j=>have:=h.2.2.2.2;omega
 | wd z=>
  have h:(z,m)∈J6:=h
  have:∀ x∈J6,x.2≤3:=by nofun
  exact this _ h
theorem Uo {r:Int}(h0:0≤r)(h1:r<7):∃ c,FF (Str.ofString "+-*/&=<").cps.toList r=some c∧(⟨#[c]⟩:Str)∈UD:=by
 have:r=0∨r=1∨r=2∨r=3∨r=4∨r=5∨r=6:=by omega
 rcases this with rfl | rfl | rfl | rfl | rfl | rfl | rfl
 all_goals exact⟨_,rfl,by nofun⟩
inductive Fm where
 | lf (l:Lf) | nd (k:Kd) (ps:List Fm)
inductive Bi (H:Hp):V→Fm→Prop where
 | lf {a:Addr} {l:Lf} (h:Ee H a l):Bi H (.ref a) (.lf l)
 | nd {a t:Addr} {k:Kd} {us:List V} {ps:List Fm} (h:H a=some (.tup (Kz t k us))) (ht:G9 k=true→H t=some (.tup us)) (hl:us.length=ps.length)
  (hh:∀(j:Nat) (u:V) (f:Fm),us[j]?=some u→ps[j]?=some f→Bi H u f):Bi H (.ref a) (.nd k ps)
theorem Bi.kp {H H':Hp}{v:V}{f:Fm}(h:Bi H v f)(s:Kp H H'):Bi H' v f:=by
 induction h with
 | lf h=>exact .lf (Ee.kp h s)
 | nd h ht hl _ ih=>exact .nd (s _ _ h) (fun z=>s _ _ (ht z)) hl ih
abbrev Bn (H:Hp)(us:List V)(fs:List Fm):Prop:=Paired (Bi H) us fs
theorem Bn.kp {H H':Hp}{us:List V}{fs:List Fm}(h:Bn H us fs)(s:Kp H H'):Bn H' us fs:=Paired.imp' (fun _ _ x=>Bi.kp x s) h
inductive FO (pr:Nat):Nat→Fm→Prop where
 | lf {n:Nat} {l:Lf} (h:J5 pr l):FO pr (n+1) (.lf l)
 | nd {n:Nat} {k:Kd} {ps:List Fm} (h:Iw k ps.length) (hp:∀ f∈ps,FO pr n f):FO pr (n+1) (.nd k ps)
theorem FO.mono {pr:Nat}{n:Nat}{f:Fm}(h:FO pr n f):∀{m:Nat},n≤m→FO pr m f:=by
 induction h with
 | lf h=>
  intro m hm
  obtain⟨m,rfl⟩:∃ k,m=k+1:=⟨m-1,by omega⟩
  exact .lf h
 | nd h _ ih=>
  intro m hm
  obtain⟨m,rfl⟩:∃ k,m=k+1:=⟨m-1,by omega⟩
  exact .nd h fun f hf=>ih f hf (by omega)
abbrev zS (z:String):Str:=Str.ofString z
theorem A0 {α:Type}{x:α}{r:List α}:FF (x::r) 0=some x:=B2 (j:=0) rfl
theorem Bo {α:Type}{x y:α}{r:List α}:FF (x::y::r) 1=some y:=B2 (j:=1) rfl
theorem Cl {α:Type}{x y z:α}{r:List α}:FF (x::y::z::r) 2=some z:=B2 (j:=2) rfl
theorem HG {α:Type}{x y z u:α}{r:List α}:FF (x::y::z::u::r) 3=some u:=B2 (j:=3) rfl
def Fo:Fm→List Fm
 | .lf _=>[]
 | .nd _ ps=>ps
def kw:Kd→Str
 | .op _=>zS "op"
 | .neg=>zS "neg"
 | .own _=>zS "own"
 | .sumif _=>zS "sumif"
 | .grid _ _=>zS "grid"
 | .wd z=>z
theorem Nj (t:Addr)(k:Kd)(us:List V):∃ r,Kz t k us=.str (kw k)::r:=by cases k <;> exact⟨_,rfl⟩
theorem Bi.parts {H:Hp}{us:List V}{ps:List Fm}(hl:us.length=ps.length)(hh:∀(j:Nat) (u:V) (f:Fm),us[j]?=some u→ps[j]?=some f→Bi H u f):Bn H us ps:=by
 induction us generalizing ps with
 | nil=>
  cases ps with
  | nil=>exact .nil
  | cons _ _=>simp at hl
 | cons u us ih=>
  cases ps with
  | nil=>simp at hl
  | cons p ps=>exact .cons (hh 0 u p rfl rfl) (ih (by simpa using hl) fun j u f e1 e2=>hh (j+1) u f (by simpa using e1) (by simpa using e2))
theorem Qf {k:Kd}{m:Nat}(ok:Iw k m):decide (V.str (kw k)=vS "own")=G9 k:=by
 cases k with
 | wd z=>
  have hw:(z,m)∈J6:=ok
  have:∀ x∈J6,decide (V.str x.1=vS "own")=false:=by nofun
  exact this _ hw
 | op z=>show decide (vS "op"=vS "own")=false;nofun
 | neg=>show decide (vS "neg"=vS "own")=false;nofun
 | own z=>show decide (vS "own"=vS "own")=true;nofun
 | sumif z=>show decide (vS "sumif"=vS "own")=false;nofun
 | grid i j=>show decide (vS "grid"=vS "own")=false;nofun
def PY:Sp:=fun vs H Q _=>∃(v:V) (f:Fm) (pr n:Nat),vs=[v]∧Bi H v f∧FO pr n f∧∀(l:Addr) (us:List V) (H':Hp),H l=none→H' l=some (.lst us)→Bn H' us (Fo f)→AH H H'→Q (.ref l) H'
theorem AH.back0 {H H':Hp}{b:Addr}(s:AH H H')(h:H' b=none):H b=none:=by
 cases e:H b with
 | none=>rfl
 | some o=>rw[s _ _ e]at h;cases h
theorem UV {n:Nat}(h:n≤16000000):n≤sizeLine:=Nat.le_trans h (by decide)
def UE:List (BF×List V):=[(kS "op",[.int 2,.int 3]),(kS "neg",[.int 1]),(kS "if",[.int 1,.int 2,.int 3]),(kS "sum",[.int 1]),(kS "count",[.int 1]),(kS "least",[.int 1]),(kS "most",[.int 1]),(kS "sumif",[.int 1,.int 3,.int 4]),(kS "find",[.int 1,.int 2,.int 3]),(kS "turn",[.int 1]),(kS "stack",[.int 1,.int 2]),(kS "grid",[.int 3,.int 4]),(kS "outer",[.int 1])]
def K0 (k:Str):Option (List V):=(UE.find? fun kt=>decide (kt.1=(Sum.inr k:BF))).map (·.2)
abbrev UW (K:PySem.W.Frag):List (BF×V)→List (BF×List V)→Prop:=Paired (fun(kv:BF×V) (kt:BF×List V)=>kv.1=kt.1∧∃ a,kv.2=.ref a∧∀ H,Ao K H a kt.2)
theorem Nk {K:PySem.W.Frag}{k:BF}{ys:List V}:∀{kvs:List (BF×V)} {kts:List (BF×List V)},UW K kvs kts→(kts.find? fun kt=>decide (kt.1=k)).map (·.2)=some ys→∃ a,DK kvs k=some (.ref a)∧∀ H,Ao K H a ys
 | _,_,.nil,h=>by simp at h
 | (kv::kvs),(kt::kts),.cons r t,h=>by
  obtain⟨e,a,ea,sq⟩:=r
  by_cases c:kt.1=k
  ·rw[List.find?_cons_of_pos (by simpa using c)]at h
   simp only[Option.map_some,Option.some.injEq]at h
   subst h
   exact⟨a,by rw[DV (e.trans c),ea],sq⟩
  ·rw[List.find?_cons_of_neg (by simpa using c)]at h
   obtain⟨b,hb,sb⟩:=Nk t h
   exact⟨b,by rw[Cj (fun z=>c (e.symm.trans z))];exact hb,sb⟩
def TQ (m:Nat):List Nat:=(List.range m).map (·+1)
theorem Qg {t:Addr}{k:Kd}{us:List V}(ok:Iw k us.length)(no:G9 k=false):∃ pl:List Nat,K0 (kw k)=some (pl.map fun(p:Nat)=>V.int p)∧pl.length=us.length∧∀ j,j<us.length→∃ p u,pl[j]?=some p∧us[j]?=some u∧FF (Kz t k us) (p:Int)=some u:=by
 cases k with
 | op z=>
  obtain⟨u1,u2,rfl⟩:=Rz ok.2
  refine⟨[2,3],(by show K0 (zS "op")=_;nofun),rfl,fun j hj=>?_⟩
  have hj':j<2:=hj
  rcases(show j=0∨j=1 by omega)with rfl | rfl
  ·exact⟨2,u1,rfl,rfl,rfl⟩
  ·exact⟨3,u2,rfl,rfl,rfl⟩
 | neg=>
  obtain⟨u1,rfl⟩:=UC (show us.length=1 from ok)
  refine⟨[1],(by show K0 (zS "neg")=_;nofun),rfl,fun j hj=>?_⟩
  obtain rfl:j=0:=by have hj':j<1:=hj;omega
  exact⟨1,u1,rfl,rfl,rfl⟩
 | own z=>cases no
 | sumif z=>
  have h3:us.length=3:=ok.2
  obtain⟨u1,u2,u3,rfl⟩:=Ou h3
  refine⟨[1,3,4],(by show K0 (zS "sumif")=_;nofun),rfl,fun j hj=>?_⟩
  have hj':j<3:=hj
  rcases(show j=0∨j=1∨j=2 by omega)with rfl | rfl | rfl
  ·exact⟨1,u1,rfl,rfl,rfl⟩
  ·exact⟨3,u2,rfl,rfl,rfl⟩
  ·exact⟨4,u3,rfl,rfl,rfl⟩
 | grid i j=>
  obtain⟨u1,u2,rfl⟩:=Rz ok.2.2.2.2
  refine⟨[3,4],(by show K0 (zS "grid")=_;nofun),rfl,fun j hj=>?_⟩
  have hj':j<2:=hj
  rcases(show j=0∨j=1 by omega)with rfl | rfl
  ·exact⟨3,u1,rfl,rfl,rfl⟩
  ·exact⟨4,u2,rfl,rfl,rfl⟩
 | wd z=>
  have hw:(z,us.length)∈J6:=ok
  have hz:∀ x∈J6,K0 x.1=some ((TQ x.2).map fun(p:Nat)=>V.int p):=by nofun
  refine⟨TQ us.length,hz _ hw,by simp[TQ],fun j hj=>⟨j+1,us[j],?_,List.getElem?_eq_getElem hj,?_⟩⟩
  ·unfold TQ
   rw[List.getElem?_map,List.getElem?_range hj];rfl
  ·exact B2 (j:=j+1) (by show(V.str z::us)[j+1]?=_;rw[List.getElem?_cons_succ,List.getElem?_eq_getElem hj])
mutual
def Cm:Fm→Nat
 | .lf _=>1
 | .nd _ ps=>1+DA ps
def DA:List Fm→Nat
 | []=>0
 | f::fs=>Cm f+DA fs
end
theorem GU:∀ a b:List Fm,DA (a++b)=DA a+DA b
 | [],b=>by rw[List.nil_append,DA];omega
 | x::a,b=>by rw[List.cons_append,DA,DA,GU a b];omega
theorem Ix (f:Fm):Cm f=1+DA (Fo f):=by
 cases f with
 | lf l=>rw[Cm];show 1=1+DA [];rw[DA]
 | nd k ps=>rw[Cm];rfl
theorem Iy:∀ fs:List Fm,fs.length≤DA fs
 | []=>Nat.zero_le _
 | f::fs=>by
  have:=Iy fs
  have:=Ix f
  rw[DA,List.length_cons];omega
theorem Nl {B:Nat}:∀ fs:List Fm,(∀ f∈fs,Cm f≤B)→DA fs≤fs.length*B
 | [],_=>by rw[DA];exact Nat.zero_le _
 | f::fs,h=>by
  have a:=Nl fs fun g hg=>h g (List.mem_cons_of_mem _ hg)
  have b:=h f (by simp)
  rw[DA,List.length_cons,Nat.add_mul];omega
def SB:Nat→Nat
 | 0=>0
 | n+1=>1+3*SB n
theorem FO.sz {pr n:Nat}{f:Fm}(h:FO pr n f):Cm f≤SB n:=by
 induction h with
 | lf h=>rw[Cm];show 1≤1+3*SB _;omega
 | @nd n k ps ok _ ih=>
  rw[Cm]
  have a:=Nl ps ih
  have b:ps.length*SB n≤3*SB n:=Nat.mul_le_mul_right _ ok.le
  show 1+DA ps≤1+3*SB n
  omega
theorem FO.sz8 {pr:Nat}{f:Fm}(h:FO pr 8 f):Cm f≤3280:=Nat.le_trans h.sz (by decide)
theorem FO.prt {pr n:Nat}{f:Fm}(h:FO pr n f):∀ g∈Fo f,FO pr n g:=fun g hg=>by
 cases h with
 | lf _=>cases hg
 | nd _ hp=>exact(hp g hg).mono (Nat.le_succ _)
theorem Qh {α β:Type}{F:α→β→Prop}:∀{xs:List α} {x:α} {ys:List β},Paired F (xs++[x]) ys→∃ ys' y,ys=ys'++[y]∧Paired F xs ys'∧F x y:=by
 intro A x B h
 induction A generalizing B with
 | nil=>
  rw[List.nil_append]at h
  cases h with
  | cons r t=>
   cases t
   exact⟨[],_,rfl,.nil,r⟩
 | cons a l ih=>
  rw[List.cons_append]at h
  cases h with
  | cons r t=>
   obtain⟨ys',y,rfl,p,q⟩:=ih t
   exact⟨_::ys',y,rfl,.cons r p,q⟩
theorem Hm {α β:Type}{F:α→β→Prop}:∀{xs zs:List α} {ys ws:List β},Paired F xs ys→Paired F zs ws→Paired F (xs++zs) (ys++ws):=by
 intro A B C D h g
 induction h with
 | nil=>exact g
 | cons r t ih=>exact .cons r ih
theorem Nn:bootBuiltins "zip"=some (.type "zip"):=by nofun
def Hn (x:V):Prop:=BP x=true∨∃ a,x=.ref a
theorem Ee.pp {H:Hp}{a:Addr}{l:Lf}(h:Ee H a l):∃ w r,H a=some (.tup (.str w::r))∧V.bl (decide (V.str w=vS "own"))=V.bl false∧K0 w=none∧(∀ x∈(.str w::r),Hn x)∧r.length≤5:=by
 have sh:∀ s:Option Str,Hn (OB s):=fun s=>by cases s <;> exact .inl rfl
 cases l with
 | val v=>obtain⟨q,h1,_⟩:=h;exact⟨_,_,h1,by nofun,by nofun,by simp[Hn,BP],by simp⟩
 | cell s c=>obtain⟨q,h1,_⟩:=h;exact⟨_,_,h1,by nofun,by nofun,by simp[Hn,BP];exact sh s,by simp⟩
 | rng s c d=>obtain⟨q,u,h1,_⟩:=h;exact⟨_,_,h1,by nofun,by nofun,by simp[Hn,BP];exact sh s,by simp⟩
 | cols s i x j y=>obtain⟨q,u,h1,_⟩:=h;exact⟨_,_,h1,by nofun,by nofun,by simp[Hn,BP];exact sh s,by simp⟩
 | gone=>exact⟨_,_,h,by nofun,by nofun,by simp[Hn,BP],by simp⟩
 | nam z=>exact⟨_,_,h,by nofun,by nofun,by simp[Hn,BP],by simp⟩
 | par i=>exact⟨_,_,h,by nofun,by nofun,by simp[Hn,BP],by simp⟩
 | flt z=>exact⟨_,_,h,by nofun,by nofun,by simp[Hn,BP],by simp⟩
theorem Lv {K:PySem.W.Frag}{k:BF}:∀{kvs:List (BF×V)} {kts:List (BF×List V)},UW K kvs kts→(kts.find? fun kt=>decide (kt.1=k)).map (·.2)=none→DK kvs k=none
 | _,_,.nil,_=>rfl
 | (kv::kvs),(kt::kts),.cons r t,h=>by
  obtain⟨e,a,ea,sq⟩:=r
  by_cases c:kt.1=k
  ·rw[List.find?_cons_of_pos (by simpa using c)]at h
   simp at h
  ·rw[List.find?_cons_of_neg (by simpa using c)]at h
   rw[Cj (fun z=>c (e.symm.trans z))]
   exact Lv t h
def R0:Sp:=fun vs H Q _=>∃(v:V) (f:Fm) (pr n:Nat),vs=[v]∧Bi H v f∧FO pr n f∧n≤8∧∀ H',AH H H'→Q (.int (Cm f)) H'
theorem Qi {pr n:Nat}{f:Fm}(h:FO pr n f)(h8:n≤8):Cm f≤3280:=(h.mono h8).sz8
theorem EF:1≤sizeLine:=by decide
mutual
def K1:Fm→List Fm
 | .lf l=>[.lf l]
 | .nd k ps=>GD ps++[.nd k ps]
def GD:List Fm→List Fm
 | []=>[]
 | f::fs=>K1 f++GD fs
end
theorem Ov (f:Fm):K1 f=GD (Fo f)++[f]:=by
 cases f with
 | lf l=>rw[K1];show [Fm.lf l]=GD []++[Fm.lf l];rw[GD];rfl
 | nd k ps=>rw[K1];rfl
theorem Iz:∀ a b:List Fm,GD (a++b)=GD a++GD b
 | [],b=>by rw[List.nil_append,GD,List.nil_append]
 | x::a,b=>by rw[List.cons_append,GD,GD,Iz a b,List.append_assoc]
mutual
theorem GV:∀ f:Fm,(K1 f).length=Cm f
 | .lf l=>by rw[K1,Cm];rfl
 | .nd k ps=>by rw[K1,Cm,List.length_append,I0 ps,List.length_singleton];omega
theorem I0:∀ fs:List Fm,(GD fs).length=DA fs
 | []=>by rw[GD,DA];rfl
 | f::fs=>by rw[GD,DA,List.length_append,GV f,I0 fs]
end
def R1:Sp:=fun vs H Q _=>∃(v:V) (f:Fm) (pr n:Nat),vs=[v]∧Bi H v f∧FO pr n f∧n≤8∧∀ l ws H',H l=none→H' l=some (.lst ws)→Bn H' ws (K1 f)→AH H H'→Q (.ref l) H'
theorem UF {α β:Type}{R:α→β→Prop}{xs:List α}{ys:List β}(h:Paired R xs ys):Paired R xs.reverse ys.reverse:=by
 induction h with
 | nil=>exact .nil
 | cons h _ ih=>rw[List.reverse_cons,List.reverse_cons];exact Hm ih (.cons h .nil)
theorem _root_.L2.Fun.okX {P:Program}{w:World}{K:PySem.W.Frag}{mg:Str→Option Value}{base:Heap}{x qual:Str}{st:Stmt}{f:Addr}{fd:FuncData}{N ps:List Str}{k:Nat}{sp:Sp}(F:Fun K x qual st f fd)(S:AZ N ps (AM st))(len:∀ vs H Q E,sp vs H Q E→vs.length=ps.length)
 (hb:∀(cdv:Value) (A:Around) (outer:List Env) (s:Shared) (H:Hp) (vs:List V) (Q:VK) (E:XK),Bx k (A.deeper (PyProof.Rows.envOfC qual (AM st) s.heap.objs.size f cdv))→sp vs H Q E→∀ Z:Prop,((∃ t,JU (Gk Bd P w K mg base N qual (AM st) f cdv A outer s H E).nox (CD st) t∧t { nx:=fun _ H'=>Q .non H',rt:=Q } (EA N vs) H)→Z)→Z):Az P w K mg base Bd (k+1) f fd ps sp:=F.ok S len fun cdv A outer s H vs Q E hr h=>hb cdv A outer s H vs Q E hr h _ id
theorem _root_.L2.Fun.okCX {P:Program}{w:World}{K:PySem.W.Frag}{mg:Str→Option Value}{base:Heap}{x qual:Str}{st:Stmt}{f:Addr}{fd:FuncData}{N ps:List Str}{k:Nat}{sp:Sp}(F:Fun K x qual st f fd)(S:AZ N ps (AM st))(len:∀ vs H Q E,sp vs H Q E→vs.length=ps.length)
 (hb:∀(cdv:Value) (A:Around) (outer:List Env) (s:Shared) (H:Hp) (vs:List V) (Q:VK) (E:XK),fd.code=cdv→Bx k (A.deeper (PyProof.Rows.envOfC qual (AM st) s.heap.objs.size f cdv))→sp vs H Q E→∀ Z:Prop,((∃ t,JU (Gk Bd P w K mg base N qual (AM st) f cdv A outer s H E).nox (CD st) t∧t { nx:=fun _ H'=>Q .non H',rt:=Q } (EA N vs) H)→Z)→Z):Az P w K mg base Bd (k+1) f fd ps sp:=F.okC S len fun cdv A outer s H vs Q E e hr h=>hb cdv A outer s H vs Q E e hr h _ id
def UX (N:List Str)(sc:Scope)(i:Nat)(x:Str):Bool:=decide (N[i]?=some x)&&(decide (sc.names.lookup x=some .local)||(decide (sc.names.lookup x=some .cell)||decide (sc.names.lookup x=some .free)))&&!(x==("__debug__":Str))&&!(x==("__classdict__":Str))
theorem AI {X:Cx}(i:Nat){x:Str}{pos:Pos}(h:UX X.N X.env.scope i x=true:=by kernel_rfl):PE X (.Name x pos) (Pm i):=by
 simp only[UX,Bool.and_eq_true,Bool.or_eq_true,decide_eq_true_eq,Bool.not_eq_true']at h
 exact Pn h.1.1.1 h.1.1.2 h.1.2 h.2
def UY (N ps:List Str)(sc:Scope):Bool:=decide (sc.kind=.function)&&decide (sc.isCoroutine=false)&&decide (sc.isGenerator=false)&&decide N.Nodup&&decide (N.take ps.length=ps)&&decide (∀ x∈ps,sc.names.lookup x=some .local∨sc.names.lookup x=some .cell)&&decide (∀ y∈sc.names,y.2≠.free)
theorem BD {N ps:List Str}{sc:Scope}(h:UY N ps sc=true:=by kernel_rfl):AZ N ps sc:=by
 simp only[UY,Bool.and_eq_true,decide_eq_true_eq]at h
 obtain⟨⟨⟨⟨⟨⟨a,b⟩,c⟩,d⟩,e⟩,f⟩,g⟩:=h
 exact⟨a,b,c,d,e,f,g⟩
theorem BU {j k:Nat}{A:Around}(hr:Bx k A)(h:j≤k:=by decide):Bx j A:=hr.mono h
theorem BC {CX:Mg}{P:Program}{w:World}{K:PySem.W.Frag}{mg:Str→Option Value}{base:Heap}{N:List Str}{q:Str}{sc:Scope}{f:Addr}{cd:Value}{A:Around}{o:List Env}{s:Shared}{H:Hp}{E:XK}:(Gk CX P w K mg base N q sc f cd A o s H E).nox.K=K:=rfl
theorem Ar {CX:Mg}{P:Program}{w:World}{K:PySem.W.Frag}{mg:Str→Option Value}{base:Heap}{N:List Str}{q:Str}{sc:Scope}{f:Addr}{cd:Value}{A:Around}{o:List Env}{s:Shared}{H:Hp}{E:XK}:(Gk CX P w K mg base N q sc f cd A o s H E).nox.mg=mg:=rfl
theorem R3 {G:Prop}(h:∀ X:Prop,(G→X)→X):G:=h G id
def BE (K:PySem.W.Frag)(S:Addr×List Int)(H:Hp)(p:Addr)(k:Nat):Prop:=∃ c r:Int,H p=some (.lst [.ref S.1,.int c,.int r])∧A3 K H S.1 (S.2.map V.int)∧0≤c∧c≤k∧S.2.length≤63
theorem A3.kl {K:PySem.W.Frag}{H H':Hp}{a p b:Addr}{ns:List Int}{r:List V}(h:A3 K H a (ns.map V.int))(hp:H p=some (.lst (.ref b::r)))(s:KeepX p H H'):A3 K H' a (ns.map V.int):=by
 rcases h with(h | ⟨o,h⟩) | h
 ·exact .inl (.inl (s _ _ (DB h hp (by intro z;injection z with z;cases ns <;> simp at z)) h))
 ·exact .inl (.inr ⟨o,s _ _ (DB h hp (by intro z;cases z)) h⟩)
 ·exact .inr h
section
variable {K:PySem.W.Frag}{S:Addr×List Int}{H H':Hp}{p D:Addr}{k n:Nat}
theorem BE.same (h:BE K S H p k)(s:AH H H'):BE K S H' p k:=by
 obtain⟨c,r,e,q,z⟩:=h
 exact⟨c,r,s _ _ e,s.seq q,z⟩
theorem BE.mono (h:BE K S H p k)(s:k≤n):BE K S H p n:=by
 obtain⟨c,r,e,q,y,v,w⟩:=h
 exact⟨c,r,e,q,y,by omega,w⟩
theorem BE.ob (h:BE K S H p k):∃ vs,H p=some (.lst vs):=by
 obtain⟨_,_,e,_⟩:=h
 exact⟨_,e⟩
theorem BE.ne (h:BE K S H p k)(hD:H D=none):D≠p:=fun z=>by
 obtain⟨vs,e⟩:=h.ob
 rw[← z,hD]at e;cases e
theorem BE.kp (h:BE K S H p k)(s:KeepX p H H'):Kp H H':=by
 obtain⟨_,e⟩:=h.ob
 exact Kp.lst e s
theorem BE.put {o:HO}(h0:BE K S H p k)(hD:H D=none)(h:BE K S H' p n):BE K S (upd H' D o) p n:=by
 have ne:=h0.ne hD
 obtain⟨_,_,_,q0,_⟩:=h0
 obtain⟨c,r,e,q,z⟩:=h
 refine⟨c,r,by rw[AT (Ne.symm ne)];exact e,?_,z⟩
 rcases q0 with(q0 | ⟨o0,q0⟩) | q0
 ·have na:=Aa q0 hD
  rcases q with(q | ⟨o1,q⟩) | q
  ·exact .inl (.inl (by rw[AT na];exact q))
  ·exact .inl (.inr ⟨o1,by rw[AT na];exact q⟩)
  ·exact .inr q
 ·have na:=Aa q0 hD
  rcases q with(q | ⟨o1,q⟩) | q
  ·exact .inl (.inl (by rw[AT na];exact q))
  ·exact .inl (.inr ⟨o1,by rw[AT na];exact q⟩)
  ·exact .inr q
 ·exact .inr q0
end
def R4 (K:PySem.W.Frag):Sp:=fun vs H Q _=>∃(a:Addr) (ns:List Int),vs=[.ref a]∧A3 K H a (ns.map V.int)∧ns.length≤63∧∀(p:Addr) (H':Hp),H p=none→BE K (a,ns) H' p 0→AH H H'→Q (.ref p) H'
def R5 (K:PySem.W.Frag):Sp:=fun vs H Q _=>∃(p:Addr) (m:Int) (k:Nat) (S:Addr×List Int),vs=[.ref p,.int m]∧0<m∧Sz 4000 m∧BE K S H p k∧k≤10000000∧∀(r:Int) (H':Hp),0≤r→r<m→BE K S H' p (k+1)→KeepX p H H'→Q (.int r) H'
theorem Ho {z y:Str}(h:z≠y):V.bl (decide (V.str z=V.str y))=V.bl false:=by rw[decide_eq_false fun e=>h (by injection e)]
theorem UG {n:Nat}{m:Int}(h:(n:Int)≠m):V.bl (decide (V.int (n:Int)=V.int m))=V.bl false:=by rw[decide_eq_false fun e=>h (by injection e)]
theorem R6 {n:Nat}{m:Int}(h:(n:Int)=m):V.bl (!decide (V.int (n:Int)=V.int m))=V.bl false:=by rw[decide_eq_true (by rw[h])];rfl
def MY:List (BF×V):=[(.inr (zS "value"),.int 2),(.inr (zS "cell"),.int 3),(.inr (zS "range"),.int 4),(.inr (zS "columns"),.int 4),(.inr (zS "gone"),.int 1),(.inr (zS "name"),.int 2),(.inr (zS "own"),.int 3),(.inr (zS "param"),.int 2),(.inr (zS "op"),.int 4),(.inr (zS "neg"),.int 2),(.inr (zS "if"),.int 4),(.inr (zS "sum"),.int 2),(.inr (zS "count"),.int 2),(.inr (zS "least"),.int 2),(.inr (zS "most"),.int 2),(.inr (zS "sumif"),.int 5),(.inr (zS "find"),.int 4),(.inr (zS "turn"),.int 2),(.inr (zS "stack"),.int 3),(.inr (zS "grid"),.int 5),(.inr (zS "outer"),.int 2)]
def Ow (k:Str):Int:=match DK MY (.inr k)with | some (.int i)=>i | _=>0
def Qj:V→Bool | .int _=>true | _=>false
theorem No (k:Str):(DK MY (.inr k)).getD (.int 0)=.int (Ow k):=by
 unfold Ow
 cases h:DK MY (.inr k)with
 | none=>rfl
 | some v=>
  have all:∀ kv∈MY,Qj kv.2=true:=by nofun
  unfold DK at h
  obtain⟨kv,h1,h2⟩:=Option.map_eq_some_iff.mp h
  have:=all kv (List.mem_of_find?_eq_some h1)
  rw[h2]at this
  cases v <;> first | rfl | cases this
def R7:List V:=[vS "+",vS "-",vS "*",vS "/",vS "&",vS "=",vS "<"]
def TR:List V:=[vS "=",vS "<"]
def R8:List V:=[vS "yes",vS "no",vS "if",vS "sum",vS "count",vS "least",vS "most",vS "sumif",vS "find",vS "turn",vS "stack",vS "grid",vS "outer"]
theorem Ox {z:Str}(h:MX z=false):F9 (.str z) R8=false:=by
 unfold MX at h
 rw[Bool.or_eq_false_iff]at h
 have e:R8=UT++UU:=rfl
 rw[e]
 unfold F9 at *
 rw[List.any_append,h.1,h.2]
 rfl
theorem Np:R8.all BP=true:=by nofun
theorem Nq:R7.all BP=true:=by nofun
theorem Nr:TR.all BP=true:=by nofun
def Nt (K:PySem.W.Frag)(P1:Addr):Sp:=fun vs H Q _=>∃(a:Addr) (ns:List Int),vs=[.ref a]∧A3 K H a (ns.map V.int)∧ns.length≤63∧H P1=some (.tbl #[])∧∀ H',Q (.bl true) H'
theorem GW {t u:TS}{D:Gb}{σ:St}{H:Hp}(J:St→Hp→Prop)(a:∀ N:St→Hp→Prop,(∀ σ' H',J σ' H'→N σ' H')→t { D with nx:=N } σ H)(rest:∀ σ' H',J σ' H'→u D σ' H'):RA t u D σ H:=a _ rest
theorem Nu {W:List Str}{w:Str}(h:w∈W):F9 (.str w) (W.map V.str)=true:=by
 unfold F9
 rw[List.any_map,List.any_eq_true]
 exact⟨w,h,by simp[Function.comp,JO]⟩
theorem Oy {W:List Str}{w:Str}:F9 (.str w) (W.map V.str)=decide (w∈W):=by
 by_cases h:w∈W
 ·rw[Nu h,decide_eq_true h]
 ·rw[decide_eq_false h]
  unfold F9
  rw[List.any_map,List.any_eq_false]
  intro v hv e
  have:v=w:=by simpa [Function.comp,JO]using e
  exact h (this▸hv)
theorem FO.prt1 {pr n:Nat}{f:Fm}(h:FO pr (n+1) f):∀ g∈Fo f,FO pr n g:=fun g hg=>by
 cases h with
 | lf h=>cases hg
 | nd h hp=>exact hp g hg
def UZ:Lf→Bool
 | .cell ..=>true
 | .rng ..=>true
 | .cols ..=>true
 | _=>false
theorem J5.up {pr q:Nat}{l:Lf}(h:J5 pr l)(hq:pr≤q):J5 q l:=by
 cases l with
 | par i=>exact⟨h.1,by have:=h.2;show i<q;omega⟩
 | flt z=>exact⟨Nat.le_trans h.1 hq,h.2⟩
 | val v=>exact h
 | cell s c=>exact h
 | rng s c d=>exact h
 | cols s i x j y=>exact h
 | gone=>exact h
 | nam z=>exact h
theorem K2 {A:Around}{k:Nat}(hr:Bx k A):A.units+5<cLine:=by have:=hr.un;omega
theorem _root_.Fs.KeepX.back {r l:Addr}{H H':Hp}{o:HO}(k:KeepX r H H')(hr:H' r=some o)(h:H' l=none):H l=none:=by
 cases e:H l with
 | none=>rfl
 | some u=>rw[k l u (fun z=>by rw[z,hr]at h;cases h) e]at h;cases h
theorem FO.len3 {pr n:Nat}{f:Fm}(h:FO pr n f):(Fo f).length≤3:=by
 cases h with
 | lf h=>exact Nat.zero_le _
 | nd h hp=>exact h.le
def R9:Sp:=fun vs H Q _=>∃ z:Str,vs=[.str z]∧Nm z∧MX z=false∧∀ H',AH H H'→Q (.bl true) H'
def SA (K:PySem.W.Frag):Sp:=fun vs H Q _=>∃(z:Str) (b:Addr) (ys:List V),vs=[.str z,.ref b]∧(∀ H',Ao K H' b ys)∧ys.all BP=true∧F9 (.str z) ys=true∧Q (.bl true) H
def SC:Sp:=fun vs H Q _=>∃(q:Addr) (v:Vl),vs=[.ref q]∧FN H q v∧J1 v∧Q3 v∧∀ H',AH H H'→Q (.bl true) H'
def SD:Sp:=fun vs H Q _=>∃ s:Option Str,vs=[OB s]∧Nh s∧∀ H',AH H H'→Q (.bl true) H'
def SE:Sp:=fun vs H Q _=>∃(q:Addr) (c:Q2),vs=[.ref q]∧H q=some (.tup (Ni c))∧J4 c∧Q (.bl true) H
def SF:Sp:=fun vs H Q _=>∃(q:Addr) (i:Int) (x:Bool),vs=[.ref q]∧H q=some (.tup [.int i,.bl x])∧1≤i∧i≤8∧Q (.bl true) H
def SG:Sp:=fun vs H Q _=>∃(a:Addr) (l:Lf),vs=[.ref a]∧Ee H a l∧(∃ s,(∃ c,l=.cell s c)∨(∃ c d,l=.rng s c d)∨∃ i x j y,l=.cols s i x j y)∧J5 3 l∧∀ H',AH H H'→Q (.bl true) H'
def SH:Sp:=fun vs H Q _=>∃(a:Addr) (z:Str),vs=[.ref a]∧Nm z∧MX z=false∧(H a=some (.tup [vS "name",.str z])∨∃(q:Addr) (us:List V),H a=some (.tup [vS "own",.str z,.ref q])∧H q=some (.tup us)∧us.length≤3)∧∀ H',AH H H'→Q (.bl true) H'
def SI:Sp:=fun vs H Q _=>∃(i:Int) (pr:Nat),vs=[.int i,.int pr]∧0≤i∧i<pr∧pr≤3∧Q (.bl true) H
def SJ:Sp:=fun vs H Q _=>∃(v:V) (f:Fm) (pr n:Nat),vs=[v,.int pr]∧Bi H v f∧FO pr n f∧pr≤3∧∀ H',AH H H'→Q (.bl true) H'
def SK (n:Nat):Sp:=fun vs H Q _=>∃(v:V) (f:Fm) (pr:Nat) (d:Int),vs=[v,.int pr,.int d]∧d=(n:Int)∧Bi H v f∧FO pr n f∧pr≤3∧∀ H',AH H H'→Q (.bl true) H'
def Uq (H:Hp)(a:Addr)(pr:Nat)(w:Str)(its:List V):Prop:=
 (w=zS "value"∧∃ q v,its=[.ref q]∧FN H q v∧J1 v∧Q3 v)∨
 ((w=zS "cell"∨w=zS "range"∨w=zS "columns")∧∃ l,Ee H a l∧(∃ s,(∃ c,l=.cell s c)∨(∃ c d,l=.rng s c d)∨∃ i x j y,l=.cols s i x j y)∧J5 3 l)∨
 ((w=zS "name"∨w=zS "own")∧∃ z,Nm z∧MX z=false∧(H a=some (.tup [vS "name",.str z])∨∃(q:Addr) (us:List V),H a=some (.tup [vS "own",.str z,.ref q])∧H q=some (.tup us)∧us.length≤3))∨
 (w=zS "param"∧∃ i:Int,its=[.int i]∧0≤i∧i<pr)∨
 (w=zS "op"∧∃ z r,its=.str z::r∧F9 (.str z) R7=true)∨
 (w=zS "sumif"∧∃ u z r,its=u::.str z::r∧F9 (.str z) TR=true)∨
 (w=zS "grid"∧∃(i j:Int) (r:List V),its=.int i::.int j::r∧1≤i∧i≤16∧1≤j∧j≤8)∨
 (w≠zS "value"∧w≠zS "cell"∧w≠zS "range"∧w≠zS "columns"∧w≠zS "name"∧w≠zS "own"∧w≠zS "param"∧w≠zS "op"∧w≠zS "sumif"∧w≠zS "grid")
theorem SL {H:Hp}{v:V}{f:Fm}{pr n:Nat}(hv:Bi H v f)(fo:FO pr n f)(h3:pr≤3):∃ a w its,v=.ref a∧H a=some (.tup (.str w::its))∧((its.length+1:Nat):Int)=Ow w∧Uq H a pr w its:=by
 cases hv with
 | @lf a l hl=>
  cases fo with
  | lf ok=>
   have o3:=ok.up h3
   cases l with
   | val v=>obtain⟨q,ha,hq⟩:=hl;exact⟨a,zS "value",_,rfl,ha,by show((2:Nat):Int)=_;nofun,.inl ⟨rfl,q,v,rfl,hq,ok.1,ok.2⟩⟩
   | cell s c=>obtain⟨q,ha,hq⟩:=id hl;exact⟨a,zS "cell",_,rfl,ha,by show((3:Nat):Int)=_;nofun,.inr (.inl ⟨.inl rfl,_,hl,⟨s,.inl ⟨c,rfl⟩⟩,o3⟩)⟩
   | rng s c d=>obtain⟨q,u,ha,_⟩:=id hl;exact⟨a,zS "range",_,rfl,ha,by show((4:Nat):Int)=_;nofun,.inr (.inl ⟨.inr (.inl rfl),_,hl,⟨s,.inr (.inl ⟨c,d,rfl⟩)⟩,o3⟩)⟩
   | cols s i x j y=>obtain⟨q,u,ha,_⟩:=id hl;exact⟨a,zS "columns",_,rfl,ha,by show((4:Nat):Int)=_;nofun,.inr (.inl ⟨.inr (.inr rfl),_,hl,⟨s,.inr (.inr ⟨i,x,j,y,rfl⟩)⟩,o3⟩)⟩
   | gone=>exact⟨a,zS "gone",_,rfl,hl,by nofun,.inr (.inr (.inr (.inr (.inr (.inr (.inr (by nofun)))))))⟩
   | nam z=>exact⟨a,zS "name",_,rfl,hl,by show((2:Nat):Int)=_;nofun,.inr (.inr (.inl ⟨.inl rfl,z,ok.1,ok.2,.inl hl⟩))⟩
   | par i=>exact⟨a,zS "param",_,rfl,hl,by show((2:Nat):Int)=_;nofun,.inr (.inr (.inr (.inl ⟨rfl,i,rfl,ok.1,ok.2⟩)))⟩
   | flt z=>exact absurd o3.1 (by decide)
 | @nd a t kd us ps ha ht hl hh=>
  cases fo with
  | nd ok _=>
   cases kd with
   | op z=>
    have l2:us.length=2:=by rw[hl];exact ok.2
    refine⟨a,zS "op",.str z::us,rfl,ha,by rw[List.length_cons,l2];nofun,.inr (.inr (.inr (.inr (.inl ⟨rfl,z,us,rfl,?_⟩))))⟩
    have:∀ z∈UD,F9 (.str z) R7=true:=by nofun
    exact this z ok.1
   | neg=>
    have l2:us.length=1:=by rw[hl];exact ok
    exact⟨a,zS "neg",us,rfl,ha,by rw[l2];nofun,.inr (.inr (.inr (.inr (.inr (.inr (.inr (by nofun)))))))⟩
   | own z=>
    refine⟨a,zS "own",[.str z,.ref t],rfl,ha,by show((3:Nat):Int)=_;nofun,.inr (.inr (.inl ⟨.inr rfl,z,ok.1,ok.2.1,.inr ⟨t,us,ha,ht rfl,?_⟩⟩))⟩
    rw[hl];exact ok.2.2
   | sumif z=>
    obtain⟨u1,u2,u3,rfl⟩:=Ou (show us.length=3 by rw[hl];exact ok.2)
    refine⟨a,zS "sumif",[u1,.str z,u2,u3],rfl,ha,by show((5:Nat):Int)=_;nofun,.inr (.inr (.inr (.inr (.inr (.inl ⟨rfl,u1,z,[u2,u3],rfl,?_⟩)))))⟩
    rcases ok.1 with rfl | rfl <;> nofun
   | grid i j=>
    obtain⟨g1,g2,g3,g4,g5⟩:=ok
    have l2:us.length=2:=by rw[hl];exact g5
    exact⟨a,zS "grid",.int i::.int j::us,rfl,ha,by rw[List.length_cons,List.length_cons,l2];nofun,.inr (.inr (.inr (.inr (.inr (.inr (.inl ⟨rfl,i,j,us,rfl,g1,g2,g3,g4⟩))))))⟩
   | wd z=>
    have h:(z,ps.length)∈J6:=ok
    have tab:∀ x∈J6,((x.2+1:Nat):Int)=Ow x.1∧x.1≠zS "value"∧x.1≠zS "cell"∧x.1≠zS "range"∧x.1≠zS "columns"∧x.1≠zS "name"∧x.1≠zS "own"∧x.1≠zS "param"∧x.1≠zS "op"∧x.1≠zS "sumif"∧x.1≠zS "grid":=by nofun
    exact⟨a,z,us,rfl,ha,by rw[hl];exact(tab _ h).1,.inr (.inr (.inr (.inr (.inr (.inr (.inr (tab _ h).2))))))⟩
def SM:Sp:=fun vs H Q _=>∃(v:V) (f:Fm) (pr:Nat),vs=[v,.int pr]∧Bi H v f∧FO pr 8 f∧pr≤3∧Cm f≤24∧∀ H',AH H H'→Q (.bl true) H'
mutual
def CF:Fm→Bool
 | .lf (.cell none _)=>false
 | .lf (.rng none _ _)=>false
 | .lf (.cols none _ _ _ _)=>false
 | .lf _=>true
 | .nd _ ps=>K3 ps
def K3:List Fm→Bool
 | []=>true
 | f::fs=>CF f&&K3 fs
end
def SN:Sp:=fun vs H Q _=>∃(v:V) (f:Fm) (pr:Nat),vs=[v]∧Bi H v f∧FO pr 8 f∧CF f=true∧∀ H',AH H H'→Q (.bl true) H'
def SO:Sp:=fun vs H Q _=>∃(v:V) (f:Fm) (pr:Nat),vs=[v,.int pr]∧Bi H v f∧FO pr 8 f∧pr≤3∧Cm f≤24∧CF f=true∧∀ H',AH H H'→Q (.bl true) H'
def SQ:Fm→Bool
 | .lf (.cell none _)=>false
 | .lf (.rng none _ _)=>false
 | .lf (.cols none _ _ _ _)=>false
 | _=>true
theorem J7:∀{fs:List Fm},K3 fs=true→∀ g∈fs,CF g=true
 | [],_,g,h=>nomatch h
 | f::fs,h,g,hg=>by
  rw[K3,Bool.and_eq_true]at h
  rcases List.mem_cons.mp hg with e | e
  ·rw[e];exact h.1
  ·exact J7 h.2 g e
theorem SR {f:Fm}(h:CF f=true):SQ f=true:=by
 cases f with
 | nd k ps=>rfl
 | lf l=>
  cases l with
  | cell s c=>
   cases s with
   | none=>rw[CF]at h;cases h
   | some z=>rfl
  | rng s c d=>
   cases s with
   | none=>rw[CF]at h;cases h
   | some z=>rfl
  | cols s i x j y=>
   cases s with
   | none=>rw[CF]at h;cases h
   | some z=>rfl
  | _=>rfl
theorem K4 {A:Around}(h:A.units+5<cLine):A.units+3<cLine:=Nat.lt_of_le_of_lt (Nat.add_le_add_left (by decide) _) h
theorem Qk {A:Around}(h:A.units+5<cLine):A.units+4<cLine:=Nat.lt_of_le_of_lt (Nat.add_le_add_left (by decide) _) h
abbrev DZ:=Str×Nat×Fm
def SS (own:Bool)(e:DZ)(v:V):List V:=if own=true then [.str e.1,.int e.2.1,v]else [.str e.1,v]
def BS (own:Bool)(H:Hp)(v:V)(e:DZ):Prop:=∃(a:Addr) (v1:V),v=.ref a∧H a=some (.tup (SS own e v1))∧Bi H v1 e.2.2
theorem BS.kp {own:Bool}{H H':Hp}{v:V}{e:DZ}(h:BS own H v e)(s:Kp H H'):BS own H' v e:=by
 obtain⟨a,v1,x,y,z⟩:=h
 exact⟨a,v1,x,s _ _ y,z.kp s⟩
structure FK (own:Bool)(e:DZ):Prop where
 nm:Nm e.1
 rs:MX e.1=false
 n0:own=false→e.2.1=0
 m3:e.2.1≤3
 fo:FO e.2.1 8 e.2.2
 sz:Cm e.2.2≤24
 td:CF e.2.2=true
def PZ (own:Bool):Sp:=fun vs H Q _=>∃(v:V) (e:DZ),vs=[v]∧BS own H v e∧FK own e∧∀ H',AH H H'→Q (.bl true) H'
inductive Ct where
 | val (v:Vl) | fm (f:Fm)
def Fp (H:Hp)(u:V):Ct→Prop
 | .val v=>∃ q,u=.ref q∧FN H q v
 | .fm f=>∃ a v1,u=.ref a∧H a=some (.tup [vS "formula",v1])∧Bi H v1 f
theorem Fp.kp {H H':Hp}{u:V}{c:Ct}(h:Fp H u c)(s:Kp H H'):Fp H' u c:=by
 cases c with
 | val v=>obtain⟨q,x,y⟩:=h;exact⟨q,x,y.kp s⟩
 | fm f=>obtain⟨a,v1,x,y,z⟩:=h;exact⟨a,v1,x,s _ _ y,z.kp s⟩
def Ua:Vl→Prop
 | .num _ _=>True
 | .txt _=>True
 | .tru _=>True
 | _=>False
def JA:Ct→Prop
 | .val v=>J1 v∧Ua v
 | .fm f=>FO 0 8 f∧Cm f≤24
abbrev CK:=GS.CK
def Pa (c:CK):List V:=[.str c.1,.int c.2.1,.int c.2.2]
def Oz (zs:List Str)(c:CK):Prop:=c.1∈zs∧Nm c.1∧1≤c.2.1∧c.2.1≤16∧1≤c.2.2∧c.2.2≤8
abbrev Pr:=CK×Ct
def Cg (H:Hp)(u:V)(p:Pr):Prop:=∃ a b v1,u=.ref a∧H a=some (.tup [.ref b,v1])∧H b=some (.tup (Pa p.1))∧Fp H v1 p.2
theorem Cg.kp {H H':Hp}{u:V}{p:Pr}(h:Cg H u p)(s:Kp H H'):Cg H' u p:=by
 obtain⟨a,b,v1,x,y,z,w⟩:=h
 exact⟨a,b,v1,x,s _ _ y,s _ _ z,w.kp s⟩
def ST:Sp:=fun vs H Q E=>PX vs H Q E∨∃(a:Addr) (u:V),vs=[.ref a]∧H a=some (.tup [vS "formula",u])∧Q (.bl false) H
def SU:Sp:=fun vs H Q _=>∃(a:Addr) (b:Bool) (ys:List V) (m:Int),vs=[.ref a,.int m]∧H a=some (GR b ys)∧(ys.length:Int)≤m∧∀ H',AH H H'→Q (.bl true) H'
def SV:Sp:=fun vs H Q _=>∃(i m:Int),vs=[.int i,.int m]∧0≤i∧i≤m∧∀ H',AH H H'→Q (.bl true) H'
theorem O0 {X:Cx}{scope:Scope}{cl:List (Str×Addr)}{C:Addr}{N:List Str}{s₀:Shared}{H₀:Hp}{ex:List Addr}{pn:List (Addr×Obj)}:EX (BG X scope cl C N s₀ H₀ ex pn) (compareOp .In) (Ts X.K false):=EY
def SW:Sp:=fun vs H Q _=>∃(a:Addr) (ys:List V) (m:Int),vs=[.ref a,.int m]∧H a=some (.tup ys)∧(ys.length:Int)=m∧Q (.bl true) H
def Cn (zs:List Str):Prop:=1≤zs.length∧zs.length≤4∧zs.Nodup∧∀ z∈zs,Nm z
def SX:Sp:=fun vs H Q _=>∃(a:Addr) (b:Bool) (zs:List Str),vs=[.ref a]∧H a=some (GR b (zs.map V.str))∧Cn zs∧∀ H',AH H H'→Q (.bl true) H'
def F2 (H:Hp)(v f:V):Prop:=∃(b:Addr) (r:List V),v=.ref b∧H b=some (.tup (f::r))
def SY (H:Hp)(v:V)(z:Str):Prop:=F2 H v (.str z)
theorem BS.fst {own:Bool}{H:Hp}{v:V}{e:DZ}(h:BS own H v e):F2 H v (.str e.1):=by
 obtain⟨a,v1,x,y,z⟩:=h
 cases own with
 | true=>exact⟨a,_,x,y⟩
 | false=>exact⟨a,_,x,y⟩
theorem BS.hd {own:Bool}{H:Hp}{v:V}{e:DZ}(h:BS own H v e):SY H v e.1:=h.fst
def Ur (H:Hp)(fs:List V):Prop:=(∃ zs:List Str,fs=zs.map V.str∧zs.Nodup)∨∃ cs:List CK,Paired (fun v c=>∃ b,v=.ref b∧H b=some (.tup (Pa c))) fs cs∧cs.Nodup
def SZ:Sp:=fun vs H Q _=>∃(a:Addr) (b:Bool) (us fs:List V),vs=[.ref a]∧H a=some (GR b us)∧Paired (F2 H) us fs∧Ur H fs∧us.length≤60∧∀ H',AH H H'→Q (.bl true) H'
def HH (zs:List Str)(cs:List Pr):Prop:=cs.length≤60∧(cs.map (·.1)).Nodup∧∀ p∈cs,Oz zs p.1∧JA p.2
def Sa:Sp:=fun vs H Q _=>∃(u:V) (c:Ct),vs=[u]∧Fp H u c∧JA c∧∀ H',AH H H'→Q (.bl true) H'
def Sb:Sp:=fun vs H Q _=>∃(u:V) (sa:Addr) (b:Bool) (zs:List Str) (p:Pr),vs=[u,.ref sa]∧H sa=some (GR b (zs.map V.str))∧Cg H u p∧Oz zs p.1∧JA p.2∧∀ H',AH H H'→Q (.bl true) H'
def Ql:Sp:=fun vs H Q _=>∃(a sa:Addr) (b b2:Bool) (us:List V) (zs:List Str) (cs:List Pr),vs=[.ref a,.ref sa]∧H a=some (GR b us)∧H sa=some (GR b2 (zs.map V.str))∧Paired (Cg H) us cs∧HH zs cs∧∀ H',AH H H'→Q (.bl true) H'
def Pb (own:Bool):Nat:=if own=true then 6 else 8
def Bl (own:Bool)(es:List DZ):Prop:=es.length≤Pb own∧(es.map (·.1)).Nodup∧∀ e∈es,FK own e
def Pc (own:Bool):Sp:=fun vs H Q _=>∃(a:Addr) (b:Bool) (us:List V) (es:List DZ),vs=[.ref a]∧H a=some (GR b us)∧Paired (BS own H) us es∧Bl own es∧∀ H',AH H H'→Q (.bl true) H'
theorem HJ {c d:CK}(h:GS.ckK c=GS.ckK d):c=d:=by
 obtain⟨a,b,e⟩:=c
 obtain⟨f,g,i⟩:=d
 simp[GS.ckK]at h
 rw[h.1,h.2.1,h.2.2]
def MZ:List V:=[vS "cell",vS "range",vS "columns"]
def HP (H:Hp)(u:V):Prop:=∃(a:Addr) (w z:Str) (r:List V),u=.ref a∧H a=some (.tup (.str w::.str z::r))
theorem HP.kp {H H':Hp}{u:V}(h:HP H u)(s:Kp H H'):HP H' u:=by
 obtain⟨a,w,z,r,x,y⟩:=h
 exact⟨a,w,z,r,x,s _ _ y⟩
theorem HP.same {H H':Hp}{u:V}(h:HP H u)(s:AH H H'):HP H' u:=h.kp (Kp.same s)
theorem Sc {n:Nat}(h:n≤4000):n<sizeLine:=Nat.lt_of_le_of_lt h (by decide)
theorem Lw {g:Fm}:∀{fs:List Fm},g∈GD fs→∃ f∈fs,g∈K1 f
 | [],h=>by rw[GD]at h;cases h
 | f::fs,h=>by
  rw[GD]at h
  rcases List.mem_append.mp h with h | h
  ·exact⟨f,by simp,h⟩
  ·obtain⟨f',a,b⟩:=Lw h
   exact⟨f',List.mem_cons_of_mem _ a,b⟩
theorem O1 {pr n:Nat}{f:Fm}(fo:FO pr n f):CF f=true→∀ g∈K1 f,FO pr n g∧CF g=true:=by
 induction fo with
 | @lf n l h=>
  intro tl g hg
  rw[K1]at hg
  rw[List.mem_singleton.mp hg]
  exact⟨.lf h,tl⟩
 | @nd n k ps h hp ih=>
  intro tl g hg
  rw[K1]at hg
  rcases List.mem_append.mp hg with hg | hg
  ·obtain⟨f,hf,hg⟩:=Lw hg
   rw[CF]at tl
   have:=ih f hf (J7 tl f hf) g hg
   exact⟨this.1.mono (Nat.le_succ _),this.2⟩
  ·rw[List.mem_singleton.mp hg]
   exact⟨.nd h hp,tl⟩
theorem Qm {k:Kd}{m:Nat}(ok:Iw k m):F9 (.str (kw k)) MZ=false:=by
 cases k with
 | op z=>show F9 (vS "op") MZ=false;nofun
 | neg=>show F9 (vS "neg") MZ=false;nofun
 | own z=>show F9 (vS "own") MZ=false;nofun
 | sumif z=>show F9 (vS "sumif") MZ=false;nofun
 | grid a b=>show F9 (vS "grid") MZ=false;nofun
 | wd z=>
  have:∀ x∈J6,F9 (.str x.1) MZ=false:=by nofun
  exact this _ ok
theorem Nv {H:Hp}{v:V}{g:Fm}{pr n:Nat}(hv:Bi H v g)(fo:FO pr n g)(h1:SQ g=true):∃(a:Addr) (w:Str) (r:List V),v=.ref a∧H a=some (.tup (.str w::r))∧(F9 (.str w) MZ=true→∃ z r',r=.str z::r'):=by
 cases hv with
 | @lf a l hl=>
  cases l with
  | val v=>obtain⟨q,ha,_⟩:=hl;exact⟨a,_,_,rfl,ha,fun z=>absurd z (by nofun)⟩
  | cell s c=>
   cases s with
   | none=>cases h1
   | some z=>obtain⟨q,ha,_⟩:=hl;exact⟨a,_,_,rfl,ha,fun _=>⟨z,_,rfl⟩⟩
  | rng s c d=>
   cases s with
   | none=>cases h1
   | some z=>obtain⟨q,q2,ha,_⟩:=hl;exact⟨a,_,_,rfl,ha,fun _=>⟨z,_,rfl⟩⟩
  | cols s i x j y=>
   cases s with
   | none=>cases h1
   | some z=>obtain⟨q,q2,ha,_⟩:=hl;exact⟨a,_,_,rfl,ha,fun _=>⟨z,_,rfl⟩⟩
  | gone=>exact⟨a,_,_,rfl,hl,fun z=>absurd z (by nofun)⟩
  | nam z=>exact⟨a,_,_,rfl,hl,fun z=>absurd z (by nofun)⟩
  | par i=>exact⟨a,_,_,rfl,hl,fun z=>absurd z (by nofun)⟩
  | flt z=>exact⟨a,_,_,rfl,hl,fun z=>absurd z (by nofun)⟩
 | @nd a t kd us ps ha ht hl hh=>
  cases fo with
  | nd ok hps=>
   obtain⟨r0,er⟩:=Nj t kd us
   exact⟨a,kw kd,r0,rfl,by rw[ha,er],fun z=>by rw[Qm ok]at z;cases z⟩
theorem JB {α β γ:Type}{F:α→β→Prop}{f:β→γ}:∀{xs:List α} {ys:List β},Paired F xs ys→(xs.zip (ys.map f)).map (·.1)=xs∧(xs.zip (ys.map f)).map (·.2)=ys.map f∧(xs.zip (ys.map f)).length=ys.length
 | _,_,.nil=>⟨rfl,rfl,rfl⟩
 | x::xs,y::ys,.cons _ t=>by
  obtain⟨a,b,c⟩:=JB (f:=f) t
  refine⟨?_,?_,?_⟩
  ·rw[List.map_cons,List.zip_cons_cons,List.map_cons,a]
  ·rw[List.map_cons,List.zip_cons_cons,List.map_cons,b]
  ·rw[List.map_cons,List.zip_cons_cons,List.length_cons,c];rfl
theorem GX {α β γ:Type}{F:α→β→Prop}{f:β→γ}{p:α×γ}:∀{xs:List α} {ys:List β},Paired F xs ys→p∈xs.zip (ys.map f)→∃ y∈ys,F p.1 y∧f y=p.2
 | _,_,.nil,h=>by simp at h
 | x::xs,y::ys,.cons r t,h=>by
  rw[List.map_cons,List.zip_cons_cons]at h
  rcases List.mem_cons.mp h with e | h
  ·rw[e];exact⟨y,by simp,r,rfl⟩
  ·obtain⟨z,a,b⟩:=GX t h
   exact⟨z,List.mem_cons_of_mem _ a,b⟩
theorem Lx {α β γ:Type}{F:α→γ→Prop}{f:β→γ}:∀{xs:List α} {ys:List β},Paired (fun x y=>F x (f y)) xs ys→Paired F xs (ys.map f)
 | _,_,.nil=>.nil
 | _,_,.cons r t=>.cons r (Lx t)
theorem Ly {H:Hp}:∀{us:List V} {cs:List Pr},Paired (Cg H) us cs→∃ fs,Paired (F2 H) us fs∧Paired (fun v c=>∃ b,v=.ref b∧H b=some (.tup (Pa c))) fs (cs.map (·.1))
 | _,_,.nil=>⟨[],.nil,.nil⟩
 | _,_,.cons ⟨a,b,v1,x,y,z,w⟩ t=>by
  obtain⟨fs,f1,f2⟩:=Ly t
  exact⟨.ref b::fs,.cons ⟨a,_,x,y⟩ f1,.cons ⟨b,rfl,z⟩ f2⟩
def Sd (H:Hp)(v:V)(c:CK):Prop:=∃ b:Addr,F2 H v (.ref b)∧H b=some (.tup (Pa c))
theorem Cg.hd {H:Hp}{u:V}{p:Pr}(h:Cg H u p):Sd H u p.1:=by
 obtain⟨a,b,v1,x,y,z,w⟩:=h
 exact⟨b,⟨a,_,x,y⟩,z⟩
def qS:Str:=Str.ofString "sorted_by_first"++Str.ofString ".<locals>."++Str.ofString "<lambda>"
def UH {α:Type}(lt:α→α→Bool)(Hd:Hp→V→α→Prop)(P:Addr)(a:Addr)(H:Hp)(Q:VK):Prop:=∃(b:Bool) (ps:List (V×α)),H a=some (GR b (ps.map (·.1)))∧ps.length<64∧(ps.map (·.2)).Nodup∧(∀ p∈ps,Hd H p.1 p.2)∧
 ∀(c:Addr) (qs:List (V×α)) (H':Hp),(∀ p∈qs,p∈ps)→(qs.map (·.2)).Perm (ps.map (·.2))→(qs.map (·.2)).Pairwise (fun p q=>lt q p=false)→H' c=some (.tup (qs.map (·.1)))→KeepX P H H'→Bq H' P qS→Q (.ref c) H'
def Se (P:Addr):Sp:=fun vs H Q _=>∃ a:Addr,vs=[.ref a]∧Bq H P qS∧(UH KSt.slt SY P a H Q∨UH GS.clt Sd P a H Q)
structure Ma {α β:Type}(lt:α→α→Bool)(key:β→α)(es ns:List β):Prop where
 sub:∀ e∈es,e∈ns
 perm:(es.map key).Perm (ns.map key)
 rise:(es.map key).Pairwise fun p q=>lt q p=false
theorem Ia {α:Type}{lt:α→α→Bool}(as:∀ a b,lt a b=false→lt b a=false→a=b):∀{l m:List α},l.Perm m→l.Pairwise (fun p q=>lt q p=false)→m.Pairwise (fun p q=>lt q p=false)→l=m
 | [],m,h,_,_=>(List.nil_perm.mp h).symm
 | x::l,[],h,_,_=>absurd h.length_eq (by simp)
 | x::l,y::m,h,h1,h2=>by
  rw[List.pairwise_cons]at h1 h2
  have e:x=y:=by
   rcases List.mem_cons.mp (h.subset (List.mem_cons_self ..))with e | hx
   ·exact e
   rcases List.mem_cons.mp (h.symm.subset (List.mem_cons_self ..))with e | hy
   ·exact e.symm
   exact as x y (h2.1 x hx) (h1.1 y hy)
  subst e
  rw[Ia as (List.Perm.cons_inv h) h1.2 h2.2]
theorem GY {α β:Type}{key:β→α}:∀{ns:List β},(ns.map key).Nodup→∀{a b:β},a∈ns→b∈ns→key a=key b→a=b
 | [],_,_,_,h,_,_=>nomatch h
 | n::ns,h,a,b,ha,hb,e=>by
  rw[List.map_cons,List.nodup_cons]at h
  rcases List.mem_cons.mp ha with ra | ha
  ·rcases List.mem_cons.mp hb with rb | hb
   ·rw[ra,rb]
   ·exact absurd (List.mem_map.mpr ⟨b,hb,by rw[← e,ra]⟩) h.1
  ·rcases List.mem_cons.mp hb with rb | hb
   ·exact absurd (List.mem_map.mpr ⟨a,ha,by rw[e,rb]⟩) h.1
   ·exact GY h.2 ha hb e
theorem J8 {α β:Type}{key:β→α}{ns:List β}(nd:(ns.map key).Nodup):∀{es es':List β},(∀ e∈es,e∈ns)→(∀ e∈es',e∈ns)→es.map key=es'.map key→es=es'
 | [],[],_,_,_=>rfl
 | [],_::_,_,_,h=>by cases h
 | _::_,[],_,_,h=>by cases h
 | e::es,e'::es',h1,h2,h=>by
  rw[List.map_cons,List.map_cons]at h
  injection h with k1 k2
  rw[GY nd (h1 e (by simp)) (h2 e' (by simp)) k1,J8 nd (fun x hx=>h1 x (List.mem_cons_of_mem _ hx)) (fun x hx=>h2 x (List.mem_cons_of_mem _ hx)) k2]
theorem Ma.uniq {α β:Type}{lt:α→α→Bool}{key:β→α}{es es' ns ms:List β}(as:∀ a b,lt a b=false→lt b a=false→a=b)(nd:(ns.map key).Nodup)(mm:∀ e∈ms,e∈ns)(pm:(ms.map key).Perm (ns.map key))(a:Ma lt key es ns)(b:Ma lt key es' ms):es=es':=
 J8 nd a.sub (fun e he=>mm e (b.sub e he)) (Ia as (a.perm.trans (b.perm.trans pm).symm) a.rise b.rise)
abbrev Sf:=Ma GS.clt (fun(p:Pr)=>p.1)
abbrev O2:=Ma KSt.slt (fun(e:DZ)=>e.1)
def FP (H:Hp)(b:Addr)(zs:List Str)(cs:List Pr)(ns os:List DZ)(r:Int):Prop:=∃(t1 t2 t3 t4:Addr) (xs us ws:List V),H b=some (.tup [.ref t1,.ref t2,.ref t3,.ref t4,.int r])∧H t1=some (.tup (zs.map V.str))∧H t2=some (.tup xs)∧H t3=some (.tup us)∧H t4=some (.tup ws)∧Paired (Cg H) xs cs∧Paired (BS false H) us ns∧Paired (BS true H) ws os
theorem FP.kp {H H':Hp}{b:Addr}{zs:List Str}{cs:List Pr}{ns os:List DZ}{r:Int}(h:FP H b zs cs ns os r)(s:Kp H H'):FP H' b zs cs ns os r:=by
 obtain⟨t1,t2,t3,t4,xs,us,ws,a,c,d,e,f,g,i,j⟩:=h
 exact⟨t1,t2,t3,t4,xs,us,ws,s _ _ a,s _ _ c,s _ _ d,s _ _ e,s _ _ f,Paired.imp' (fun _ _ x=>x.kp s) g,Paired.imp' (fun _ _ x=>x.kp s) i,Paired.imp' (fun _ _ x=>x.kp s) j⟩
def Sg (P:Addr):Sp:=fun vs H Q _=>∃(a c n o:Addr) (b1 b2 b3 b4:Bool) (xs us ws:List V) (zs:List Str) (cs:List Pr) (ns os:List DZ) (r:Int),vs=[.ref a,.ref c,.ref n,.ref o,.int r]∧H a=some (GR b1 (zs.map V.str))∧H c=some (GR b2 xs)∧H n=some (GR b3 us)∧H o=some (GR b4 ws)∧Paired (Cg H) xs cs∧Paired (BS false H) us ns∧Paired (BS true H) ws os∧Cn zs∧HH zs cs∧Bl false ns∧Bl true os∧0≤r∧r≤4∧Bq H P qS∧
 ∀(b:Addr) (cs':List Pr) (ns' os':List DZ) (H':Hp),FP H' b zs cs' ns' os' r→Sf cs' cs→O2 ns' ns→O2 os' os→KeepX P H H'→Bq H' P qS→Q (.ref b) H'
theorem K5 {α β:Type}{lt:α→α→Bool}{key:β→α}{F:V→β→Prop}{us:List V}{ns:List β}(h:Paired F us ns):∀{qs:List (V×α)},(∀ p∈qs,p∈us.zip (ns.map key))→∃ ns':List β,Paired F (qs.map (·.1)) ns'∧(∀ e∈ns',e∈ns)∧ns'.map key=qs.map (·.2)
 | [],_=>⟨[],.nil,(fun _ h=>nomatch h),rfl⟩
 | q::qs,hq=>by
  obtain⟨e,he,x,y⟩:=GX h (hq q (by simp))
  obtain⟨ns',a,b,c⟩:=K5 (lt:=lt) h (qs:=qs) fun p hp=>hq p (List.mem_cons_of_mem _ hp)
  exact⟨e::ns',.cons x a,fun z hz=>(List.mem_cons.mp hz).elim (fun w=>w▸he) (b z),by rw[List.map_cons,List.map_cons,c,y]⟩
theorem JC {b:Bool}{us:List V}:∀ ts,GR b us≠.tbl ts:=fun _ z=>by cases b <;> cases z
theorem J9 {X:Cx}:CC X (.type "tuple") (fun xs H Q=>∃(p:Addr) (b:Bool) (ys:List V),xs=[.ref p]∧H p=some (GR b ys)∧∀(t:Addr) (H5:Hp),AH H H5→H5 t=some (.tup ys)→Q (.ref t) H5):=by
 intro pins s σ H xs us Q I r h
 obtain⟨p,b,ys,rfl,ha,k⟩:=h
 cases b with
 | true=>exact BN pins s σ H _ us Q I r ⟨p,ys,rfl,.inl ⟨A3.of ha,fun l hl=>k l _ (AH.new hl) AD⟩⟩
 | false=>exact BN pins s σ H _ us Q I r ⟨p,ys,rfl,.inr ⟨Ao.of ha,k p H (AH.refl _) ha⟩⟩
theorem K6 {α β:Type}{lt:α→α→Bool}{Hd:Hp→V→α→Prop}{key:β→α}{F:Hp→V→β→Prop}{P a:Addr}{b:Bool}{us:List V}{ns:List β}{H:Hp}{Q:VK}(ha:H a=some (GR b us))(hp:Paired (F H) us ns)(hd:∀{v e},F H v e→Hd H v (key e))(h64:ns.length<64)(nd:(ns.map key).Nodup)
 (k:∀(c:Addr) (xs:List V) (ns':List β) (H':Hp),Paired (F H) xs ns'→Ma lt key ns' ns→H' c=some (.tup xs)→KeepX P H H'→Bq H' P qS→Q (.ref c) H'):UH lt Hd P a H Q:=by
 obtain⟨z1,z2,z3⟩:=JB (f:=key) hp
 refine⟨b,us.zip (ns.map key),by rw[z1];exact ha,by rw[z3];exact h64,by rw[z2];exact nd,fun p hm=>?_,fun c qs H' m1 m2 m3 oc kx tb=>?_⟩
 ·obtain⟨e,_,x,y⟩:=GX hp hm
  rw[← y]
  exact hd x
 ·obtain⟨ns',na,nb,nc⟩:=K5 (lt:=lt) (key:=key) hp m1
  exact k c _ ns' H' na ⟨nb,by rw[nc,← z2];exact m2,by rw[nc];exact m3⟩ oc kx tb
def Sh:Sp:=fun vs H Q _=>∃(bk q:Addr) (zs:List Str) (cs:List Pr) (ns os:List DZ) (r:Int) (c:CK),vs=[.ref bk,.ref q]∧FP H bk zs cs ns os r∧H q=some (.tup (Pa c))∧(∀(ct:Ct) (u:V),(c,ct)∈cs→Fp H u ct→Q u H)∧(c∉cs.map (·.1)→Q .non H)
theorem O3 {c d:CK}:Gm (Pa c) (Pa d)=decide (c=d):=by
 obtain⟨a,b,e⟩:=c
 obtain⟨f,g,i⟩:=d
 simp only[Pa,Gm,JO]
 by_cases h:(a,b,e)=(f,g,i)
 ·rw[decide_eq_true h]
  injection h with h1 h2
  injection h2 with h2 h3
  simp[h1,h2,h3]
 ·rw[decide_eq_false h]
  rw[Bool.eq_false_iff]
  intro z
  apply h
  simp at z
  rw[z.1,z.2.1,z.2.2]
inductive Ak (H:Hp):Nat→V→V→Prop where
 | fl {n:Nat} {x:V} (h:BP x=true):Ak H n x x
 | tp {n:Nat} {a b:Addr} {xs ys:List V} (h1:H a=some (.tup xs)) (h2:H b=some (.tup ys)) (h5:xs.length≤100) (hl:xs.length=ys.length)
  (hh:∀(j:Nat) (u v:V),xs[j]?=some u→ys[j]?=some v→Ak H n u v):Ak H (n+1) (.ref a) (.ref b)
theorem Cf {H:Hp}{n:Nat}{a b:Addr}{xs:List V}(h1:H a=some (.tup xs))(h2:H b=some (.tup xs))(hf:xs.all BP=true)(h5:xs.length≤100:=by simp):Ak H (n+1) (.ref a) (.ref b):=
 .tp h1 h2 h5 rfl fun j u v e1 e2=>by
  rw[e1]at e2
  cases e2
  exact .fl (List.all_eq_true.mp hf u (List.mem_of_getElem? e1))
theorem KA {H:Hp}{n:Nat}{x y:V}(h:Ak H n x y):∀{m:Nat},n≤m→Ak H m x y:=by
 induction h with
 | fl h=>intro m _;exact .fl h
 | tp h1 h2 h5 hl _ ih=>
  intro m hm
  obtain⟨m,rfl⟩:∃ k,m=k+1:=⟨m-1,by omega⟩
  exact .tp h1 h2 h5 hl fun j u v e1 e2=>ih j u v e1 e2 (by omega)
theorem K8 {H:Hp}{n:Nat}{a b:Addr}{xs ys:List V}(h1:H a=some (.tup xs))(h2:H b=some (.tup ys))(h:Paired (Ak H n) xs ys)(h5:xs.length≤100:=by simp):Ak H (n+1) (.ref a) (.ref b):=
 .tp h1 h2 h5 (Paired.length h) fun j u v e1 e2=>by
  obtain⟨w,e3,x⟩:=BW h e1
  rw[e3]at e2
  cases e2
  exact x
theorem Qn {H:Hp}{n:Nat}(s:Option Str):Ak H n (OB s) (OB s):=by cases s <;> exact .fl rfl
theorem Ee.ak {H:Hp}{a b:Addr}{l:Lf}{pr:Nat}(ok:J5 pr l)(h1:Ee H a l)(h2:Ee H b l):Ak H 2 (.ref a) (.ref b):=by
 cases l with
 | val v=>
  obtain⟨q,x1,y1⟩:=h1
  obtain⟨r,x2,y2⟩:=h2
  refine K8 x1 x2 (.cons (.fl rfl) (.cons ?_ .nil))
  obtain⟨_,w⟩:=ok
  cases v with
  | none=>exact w.elim
  | flt w' z r c=>exact w.elim
  | num t b=>exact Cf y1 y2 rfl
  | txt z=>exact Cf y1 y2 rfl
  | tru b=>exact Cf y1 y2 rfl
 | cell s c=>
  obtain⟨q,x1,y1⟩:=h1
  obtain⟨r,x2,y2⟩:=h2
  exact K8 x1 x2 (.cons (.fl rfl) (.cons (Qn s) (.cons (Cf y1 y2 rfl) .nil)))
 | rng s c d=>
  obtain⟨q,u,x1,y1,z1⟩:=h1
  obtain⟨r,v,x2,y2,z2⟩:=h2
  exact K8 x1 x2 (.cons (.fl rfl) (.cons (Qn s) (.cons (Cf y1 y2 rfl) (.cons (Cf z1 z2 rfl) .nil))))
 | cols s i x j y=>
  obtain⟨q,u,x1,y1,z1⟩:=h1
  obtain⟨r,v,x2,y2,z2⟩:=h2
  exact K8 x1 x2 (.cons (.fl rfl) (.cons (Qn s) (.cons (Cf y1 y2 rfl) (.cons (Cf z1 z2 rfl) .nil))))
 | gone=>exact KA (Cf (n:=0) h1 h2 rfl) (by decide)
 | nam z=>exact KA (Cf (n:=0) h1 h2 rfl) (by decide)
 | par i=>exact KA (Cf (n:=0) h1 h2 rfl) (by decide)
 | flt z=>exact KA (Cf (n:=0) h1 h2 rfl) (by decide)
theorem O4 (t:Addr)(k:Kd)(us:List V):(Kz t k us).length≤us.length+3:=by
 cases k with
 | op z=>show us.length+2≤_;omega
 | neg=>show us.length+1≤_;omega
 | own z=>show 3≤_;omega
 | sumif z=>
  show(us.take 1++V.str z::us.drop 1).length+1≤_
  rw[List.length_append,List.length_cons,List.length_take,List.length_drop];omega
 | grid i j=>show us.length+3≤_;omega
 | wd z=>show us.length+1≤_;omega
theorem Si {H:Hp}{n:Nat}{k:Kd}{t t':Addr}{us ws:List V}(ok:Iw k us.length)(h:Paired (Ak H n) us ws)(h1:G9 k=true→H t=some (.tup us))(h2:G9 k=true→H t'=some (.tup ws)):Paired (Ak H (n+1)) (Kz t k us) (Kz t' k ws):=by
 have up:Paired (Ak H (n+1)) us ws:=Paired.imp' (fun _ _ x=>KA x (Nat.le_succ _)) h
 cases k with
 | op z=>exact .cons (.fl rfl) (.cons (.fl rfl) up)
 | neg=>exact .cons (.fl rfl) up
 | own z=>exact .cons (.fl rfl) (.cons (.fl rfl) (.cons (K8 (h1 rfl) (h2 rfl) h (by have:=ok.2.2;omega)) .nil))
 | sumif z=>
  obtain⟨u1,u2,u3,rfl⟩:=Ou (show us.length=3 from ok.2)
  obtain⟨w1,w2,w3,rfl⟩:=Ou ((Paired.length h).symm.trans (show [u1,u2,u3].length=3 from rfl))
  cases up with
  | cons a r=>
   cases r with
   | cons b r=>exact .cons (.fl rfl) (.cons a (.cons (.fl rfl) (.cons b r)))
 | grid i j=>exact .cons (.fl rfl) (.cons (.fl rfl) (.cons (.fl rfl) up))
 | wd z=>exact .cons (.fl rfl) up
theorem Nw {H:Hp}{n:Nat}:∀{us ws:List V} {ps:List Fm},Bn H us ps→Bn H ws ps→(∀ g∈ps,∀ x y,Bi H x g→Bi H y g→Ak H n x y)→Paired (Ak H n) us ws
 | _,_,_,.nil,.nil,_=>.nil
 | _,_,_,.cons a r,.cons b s,h=>.cons (h _ (by simp) _ _ a b) (Nw r s fun g hg=>h g (List.mem_cons_of_mem _ hg))
theorem FO.ak {H:Hp}{pr n:Nat}{f:Fm}(fo:FO pr n f):∀{x y:V},Bi H x f→Bi H y f→Ak H (2*n) x y:=by
 induction fo with
 | @lf n l ok=>
  intro x y h1 h2
  cases h1 with
  | lf h1=>
   cases h2 with
   | lf h2=>exact KA (Ee.ak ok h1 h2) (by omega)
 | @nd n k ps ok hp ih=>
  intro x y h1 h2
  cases h1 with
  | @nd a t _ us _ ha ht hl hh=>
   cases h2 with
   | @nd a' t' _ us' _ ha' ht' hl' hh'=>
    have p:=Nw (n:=2*n) (Bi.parts hl hh) (Bi.parts hl' hh') fun g hg x y=>ih g hg
    exact KA (K8 ha ha' (Si (by rw[hl];exact ok) p ht ht') (by have a:=O4 t k us;have b:=ok.le;omega)) (by omega)
def LD (pr:Nat)(tn:Bool)(l:Lf):Prop:=J5 pr l∧(tn=true→CF (.lf l)=true)
def DO (pr:Nat)(tn:Bool)(n:Nat)(f:Fm):Prop:=FO pr n f∧(tn=true→CF f=true)
theorem DO.lf {pr:Nat}{tn:Bool}{n:Nat}{l:Lf}(h:LD pr tn l):DO pr tn (n+1) (.lf l):=⟨.lf h.1,h.2⟩
theorem Lz:∀{ps:List Fm},(∀ f∈ps,CF f=true)→K3 ps=true
 | [],_=>by rw[K3]
 | f::fs,h=>by rw[K3,h f (by simp),Lz fun g hg=>h g (List.mem_cons_of_mem _ hg)];rfl
theorem DO.nd {pr:Nat}{tn:Bool}{n:Nat}{k:Kd}{ps:List Fm}(ok:Iw k ps.length)(h:∀ f∈ps,DO pr tn n f):DO pr tn (n+1) (.nd k ps):=⟨.nd ok fun f hf=>(h f hf).1,fun z=>by rw[CF];exact Lz fun f hf=>(h f hf).2 z⟩
theorem LD.up {pr q:Nat}{tn:Bool}{l:Lf}(h:LD pr tn l)(hq:pr≤q):LD q tn l:=⟨h.1.up hq,h.2⟩
def Sj (K:PySem.W.Frag):Sp:=fun vs H Q _=>∃(p:Addr) (k:Nat) (S:Addr×List Int),vs=[.ref p]∧BE K S H p k∧k≤8000000∧∀(q:Addr) (v:Vl) (H':Hp),FN H' q v→J1 v→Q3 v→BE K S H' p (k+2)→KeepX p H H'→Q (.ref q) H'
def Sk (K:PySem.W.Frag):Sp:=fun vs H Q _=>∃(p:Addr) (k:Nat) (S:Addr×List Int),vs=[.ref p]∧BE K S H p k∧k≤8000000∧∀(q:Addr) (c:Q2) (H':Hp),H' q=some (.tup (Ni c))→J4 c→BE K S H' p (k+4)→KeepX p H H'→Q (.ref q) H'
def Sl (K:PySem.W.Frag):Sp:=fun vs H Q _=>∃(p sl:Addr) (zs:List Str) (k:Nat) (S:Addr×List Int) (tn:Bool),vs=[.ref p,.ref sl,.bl tn]∧BE K S H p k∧k≤8000000∧H sl=some (.lst (zs.map V.str))∧Cn zs∧∀(s:Option Str) (H':Hp),Nh s∧(tn=true→s≠none)→BE K S H' p (k+2)→KeepX p H H'→Q (OB s) H'
def Sm (K:PySem.W.Frag):Sp:=fun vs H Q _=>∃(p sl:Addr) (zs:List Str) (k:Nat) (S:Addr×List Int) (tn:Bool),vs=[.ref p,.ref sl,.bl tn]∧BE K S H p k∧k≤7900000∧H sl=some (.lst (zs.map V.str))∧Cn zs∧∀(a:Addr) (l:Lf) (H':Hp),Ee H' a l→LD 0 tn l→BE K S H' p (k+12)→KeepX p H H'→Q (.ref a) H'
def Sn (K:PySem.W.Frag):Sp:=fun vs H Q _=>∃(p sl:Addr) (zs:List Str) (k:Nat) (S:Addr×List Int) (tn:Bool) (pr:Nat),vs=[.ref p,.ref sl,.bl tn,.int (pr:Nat)]∧pr≤3∧BE K S H p k∧k≤7800000∧H sl=some (.lst (zs.map V.str))∧Cn zs∧∀(a:Addr) (l:Lf) (H':Hp),Ee H' a l→LD pr tn l→BE K S H' p (k+14)→KeepX p H H'→Q (.ref a) H'
def sB:Nat→Nat
 | 0=>1
 | n+1=>2*sB n+2
def uB:Nat→Nat
 | 0=>14
 | n+1=>2*uB n+20
def Pd (K:PySem.W.Frag)(n:Nat):Sp:=fun vs H Q _=>∃(p sl:Addr) (zs:List Str) (k:Nat) (S:Addr×List Int) (tn:Bool) (pr:Nat),vs=[.ref p,.ref sl,.bl tn,.int (pr:Nat),.int (n:Int)]∧pr≤3∧1≤n∧BE K S H p k∧k+uB n≤7000000∧H sl=some (.lst (zs.map V.str))∧Cn zs∧∀(v:V) (f:Fm) (H':Hp),Bi H' v f→DO pr tn (n+1) f→Cm f≤sB n→BE K S H' p (k+uB n)→KeepX p H H'→Q v H'
def So (K:PySem.W.Frag)(n:Nat):Sp:=fun vs H Q _=>∃(p sl:Addr) (zs:List Str) (k:Nat) (S:Addr×List Int) (tn:Bool) (pr:Nat),vs=[.ref p,.ref sl,.bl tn,.int (pr:Nat),.int (n:Int)]∧pr≤3∧BE K S H p k∧k+uB n≤7000000∧H sl=some (.lst (zs.map V.str))∧Cn zs∧∀(v:V) (f:Fm) (H':Hp),Bi H' v f→DO pr tn (n+1) f→Cm f≤sB n→BE K S H' p (k+uB n)→KeepX p H H'→Q v H'
theorem FQ {K:PySem.W.Frag}{S:Addr×List Int}{H:Hp}{p sl:Addr}{k:Nat}{zs:List Str}(h:BE K S H p k)(hs:H sl=some (.lst (zs.map V.str)))(ok:Cn zs):sl≠p:=fun e=>by
 obtain⟨c,r,hp,_⟩:=h
 rw[e,hp]at hs
 cases zs with
 | nil=>cases hs
 | cons z zs=>cases hs
def Sq (lo hi:Int)(L:List V):Bool:=L.all fun v=>match v with | .int i=>decide (lo≤i)&&decide (i≤hi) | _=>false
theorem FR {lo hi:Int}{L:List V}{r:Int}(h:Sq lo hi L=true)(h0:0≤r)(h1:r<(L.length:Int)):∃ i,FF L r=some (.int i)∧lo≤i∧i≤hi:=by
 obtain⟨j,rfl⟩:∃ j:Nat,r=(j:Int):=⟨r.toNat,by omega⟩
 have hj:j<L.length:=by omega
 have:=List.all_eq_true.mp h L[j] (List.getElem_mem hj)
 cases e:L[j]with
 | int i=>
  rw[e]at this
  simp only[Bool.and_eq_true,decide_eq_true_eq]at this
  exact⟨i,B2 (by rw[List.getElem?_eq_getElem hj,e]),this.1,this.2⟩
 | str z=>rw[e]at this;cases this
 | bl i=>rw[e]at this;cases this
 | non=>rw[e]at this;cases this
 | ref i=>rw[e]at this;cases this
 | byt i=>rw[e]at this;cases this
 | flt i=>rw[e]at this;cases this
 | ty i=>rw[e]at this;cases this
def Sr (P:Str→Bool)(L:List V):Bool:=L.all fun v=>match v with | .str z=>P z | _=>false
theorem Ea {P:Str→Bool}{L:List V}{r:Int}(h:Sr P L=true)(h0:0≤r)(h1:r<(L.length:Int)):∃ z,FF L r=some (.str z)∧P z=true:=by
 obtain⟨j,rfl⟩:∃ j:Nat,r=(j:Int):=⟨r.toNat,by omega⟩
 have hj:j<L.length:=by omega
 have:=List.all_eq_true.mp h L[j] (List.getElem_mem hj)
 cases e:L[j]with
 | str z=>
  rw[e]at this
  exact⟨z,B2 (by rw[List.getElem?_eq_getElem hj,e]),this⟩
 | int z=>rw[e]at this;cases this
 | bl i=>rw[e]at this;cases this
 | non=>rw[e]at this;cases this
 | ref i=>rw[e]at this;cases this
 | byt i=>rw[e]at this;cases this
 | flt i=>rw[e]at this;cases this
 | ty i=>rw[e]at this;cases this
def UI (z:Str):Bool:=decide (z.length≤20)&&z.cps.toList.all fun c=>decide (c∈(Str.ofString "abcdefghijklmnopqrstuvwxyz0123456789 ").cps.toList)
theorem Qo {z:Str}(h:UI z=true):J1 (.txt z):=by
 unfold UI at h
 rw[Bool.and_eq_true]at h
 exact⟨of_decide_eq_true h.1,fun c hc=>of_decide_eq_true (List.all_eq_true.mp h.2 c hc)⟩
theorem O5:Nm (zS "lost"):=Bz (by nofun)
theorem Qp {zs:List Str}{r:Int}(nm:∀ z∈zs,Nm z)(h0:0≤r)(h1:r≤(zs.length:Int)):∃ z,FF (zs.map V.str++[vS "lost"]) r=some (.str z)∧Nm z:=by
 obtain⟨j,rfl⟩:∃ j:Nat,r=(j:Int):=⟨r.toNat,by omega⟩
 by_cases hj:j<zs.length
 ·exact⟨zs[j],B2 (by rw[List.getElem?_append_left (by rw[List.length_map];exact hj),List.getElem?_map,List.getElem?_eq_getElem hj];rfl),nm _ (List.getElem_mem hj)⟩
 ·have e:j=(zs.map V.str).length:=by rw[List.length_map];omega
  exact⟨zS "lost",B2 (by rw[e,List.getElem?_append_right (Nat.le_refl _),Nat.sub_self];rfl),O5⟩
theorem DW {pr:Nat}{tn:Bool}{H:Hp}{a t:Addr}{k:Kd}{us:List V}{ps:List Fm}{n:Nat}(h:H a=some (.tup (Kz t k us)))(ht:G9 k=true→H t=some (.tup us))(fm:Bn H us ps)(ok:Iw k ps.length)(fo:∀ f∈ps,DO pr tn n f):Bi H (.ref a) (.nd k ps)∧DO pr tn (n+1) (.nd k ps):=
 ⟨.nd h ht (Paired.length fm) fun j u f e1 e2=>by
  obtain⟨g,e3,x⟩:=BW fm e1
  rw[e3]at e2
  cases e2
  exact x,DO.nd ok fo⟩
theorem Nx {k:Kd}{f:Fm}:Cm (.nd k [f])=1+Cm f:=by rw[Cm,DA,DA];omega
theorem Us {k:Kd}:Cm (.nd k [])=1:=by rw[Cm,DA]
theorem TU {k:Kd}{f g:Fm}:Cm (.nd k [f,g])=1+Cm f+Cm g:=by rw[Cm,DA,DA,DA];omega
theorem TV {k:Kd}{f g h:Fm}:Cm (.nd k [f,g,h])=1+Cm f+Cm g+Cm h:=by rw[Cm,DA,DA,DA,DA];omega
theorem Qq {l:Lf}:Cm (.lf l)=1:=by rw[Cm]
theorem TW {pr:Nat}{tn:Bool}{n:Nat}{f:Fm}(h:DO pr tn n f):∀ g∈[f],DO pr tn n g:=fun g hg=>by rw[List.mem_singleton.mp hg];exact h
theorem Ss {pr:Nat}{tn:Bool}{n:Nat}{f g:Fm}(h:DO pr tn n f)(h2:DO pr tn n g):∀ x∈[f,g],DO pr tn n x:=fun x hx=>by
 rcases List.mem_cons.mp hx with e | e
 ·rw[e];exact h
 ·rw[List.mem_singleton.mp e];exact h2
theorem TX {pr:Nat}{tn:Bool}{n:Nat}{f g i:Fm}(h:DO pr tn n f)(h2:DO pr tn n g)(h3:DO pr tn n i):∀ x∈[f,g,i],DO pr tn n x:=fun x hx=>by
 rcases List.mem_cons.mp hx with e | e
 ·rw[e];exact h
 ·exact Ss h2 h3 x e
theorem Su:∀ n,1≤sB n
 | 0=>Nat.le_refl _
 | n+1=>by show 1≤2*sB n+2;omega
def KB (z:Str):Bool:=(decide (1≤z.length)&&decide (z.length≤6)&&z.cps.toList.all fun c=>decide (97≤c)&&decide (c≤122))&&!MX z
theorem HQ {z:Str}(h:KB z=true):Nm z∧MX z=false:=by
 unfold KB at h
 rw[Bool.and_eq_true]at h
 exact⟨Bz h.1,by simpa using h.2⟩
theorem Kp.new0 {H:Hp}{p:Addr}{o:HO}(h:H p=none):Kp H (upd H p o):=Kp.same (AH.new h)
theorem Ut {r:Int}(h0:0≤r)(h1:r<2):∃ c,FF (Str.ofString "=<").cps.toList r=some c∧((⟨#[c]⟩:Str)=Str.ofString "="∨(⟨#[c]⟩:Str)=Str.ofString "<"):=by
 have:r=0∨r=1:=by omega
 rcases this with rfl | rfl
 ·exact⟨61,rfl,.inl (by nofun)⟩
 ·exact⟨60,rfl,.inr (by nofun)⟩
def Sv (n:Nat):Sp:=fun vs H Q _=>∃ x y:V,vs=[x,y]∧Ak H n x y∧∀ H',AH H H'→Q (.bl true) H'
theorem Ak.same {H H':Hp}{n:Nat}{x y:V}(h:Ak H n x y)(s:AH H H'):Ak H' n x y:=by
 induction h with
 | fl h=>exact .fl h
 | tp h1 h2 h5 hl _ ih=>exact .tp (s _ _ h1) (s _ _ h2) h5 hl ih
def Sw (K:PySem.W.Frag):Sp:=fun vs H Q _=>∃(p:Addr) (k:Nat) (S:Addr×List Int),vs=[.ref p]∧BE K S H p k∧k≤8000000∧∀(sl:Addr) (zs:List Str) (H':Hp),H' sl=some (.lst (zs.map V.str))→Cn zs→BE K S H' p (k+1)→KeepX p H H'→Q (.ref sl) H'
theorem O6:Cn [zS "main"]:=⟨by decide,by decide,by nofun,fun z h=>by
 rcases List.mem_cons.mp h with rfl | h
 ·exact Bz (by nofun)
 ·cases h⟩
theorem O7:Cn [zS "main",zS "two"]:=⟨by decide,by decide,by nofun,fun z h=>by
 rcases List.mem_cons.mp h with rfl | h
 ·exact Bz (by nofun)
 ·rw[List.mem_singleton.mp h];exact Bz (by nofun)⟩
theorem O8:Cn [zS "two",zS "main",zS "a"]:=⟨by decide,by decide,by nofun,fun z h=>by
 rcases List.mem_cons.mp h with rfl | h
 ·exact Bz (by nofun)
 rcases List.mem_cons.mp h with rfl | h
 ·exact Bz (by nofun)
 ·rw[List.mem_singleton.mp h];exact Bz (by nofun)⟩
def Pe (K:PySem.W.Frag)(own:Bool):Sp:=fun vs H Q _=>∃(p sl:Addr) (zs:List Str) (k:Nat) (S:Addr×List Int),vs=[.ref p,.ref sl]∧BE K S H p k∧k≤1000000∧H sl=some (.lst (zs.map V.str))∧Cn zs∧∀(l:Addr) (us:List V) (es:List DZ) (H':Hp),H l=none→H' l=some (.lst us)→Paired (BS own H') us es→(∀ e∈es,FK own e∧FO e.2.1 2 e.2.2∧Cm e.2.2≤4)→(es.map (·.1)).Sublist (if own=true then [zS "f",zS "g"]else [zS "n",zS "m"])→BE K S H' p (k+200)→KeepX p H H'→Q (.ref l) H'
theorem Ny {r:Int}(h0:0≤r)(h1:r<4):∃ m:Nat,FF [V.int 1,.int 2,.int 0,.int 3] r=some (.int (m:Int))∧m≤3:=by
 have:r=0∨r=1∨r=2∨r=3:=by omega
 rcases this with rfl | rfl | rfl | rfl
 ·exact⟨1,rfl,by decide⟩
 ·exact⟨2,rfl,by decide⟩
 ·exact⟨0,rfl,by decide⟩
 ·exact⟨3,rfl,by decide⟩
def Fq (own:Bool):List Str:=if own=true then [zS "f",zS "g"]else [zS "n",zS "m"]
theorem GZ {own:Bool}:∀ z∈Fq own,Nm z∧MX z=false:=by
 intro z hz
 cases own with
 | true=>
  rcases List.mem_cons.mp hz with rfl | h
  ·exact⟨Bz (by nofun),by nofun⟩
  ·rw[List.mem_singleton.mp h];exact⟨Bz (by nofun),by nofun⟩
 | false=>
  rcases List.mem_cons.mp hz with rfl | h
  ·exact⟨Bz (by nofun),by nofun⟩
  ·rw[List.mem_singleton.mp h];exact⟨Bz (by nofun),by nofun⟩
def Sx (own:Bool)(e:DZ):Prop:=FK own e∧FO e.2.1 2 e.2.2∧Cm e.2.2≤4
structure Pf (K:PySem.W.Frag)(own:Bool)(S:Addr×List Int)(H:Hp)(p l ls:Addr)(c i:Nat)(H5:Hp)(us:List V)(es:List DZ):Prop where
 ol:H5 l=some (.lst us)
 en:Paired (BS own H5) us es
 ok:∀ e∈es,Sx own e
 sb:(es.map (·.1)).Sublist ((Fq own).take i)
 pen:BE K S H5 p (c+60*i)
 ls:H5 ls=some (.lst ((Fq own).map V.str))
 kp:∀ b o,b≠p→H b=some o→H5 b=some o
theorem Pf.add {K:PySem.W.Frag}{own:Bool}{S:Addr×List Int}{H H5 H7:Hp}{p l ls a:Addr}{c i:Nat}{us:List V}{es:List DZ}{v1:V}{e:DZ}(h:Pf K own S H p l ls c i H5 us es)(h0:BE K S H p c)(nl:l≠p)(nls:ls≠p)(lls:ls≠l)(hl:H l=none)(k7:KeepX p H5 H7)(q7:Kp H5 H7)(pen7:BE K S H7 p (c+60*(i+1)))(ha:H7 a=some (.tup (SS own e v1)))(hv:Bi H7 v1 e.2.2)(ed:Sx own e)(hz:(Fq own)[i]?=some e.1):
 us.length<sizeLine∧Pf K own S H p l ls c (i+1) (upd H7 l (.lst (us++[.ref a]))) (us++[.ref a]) (es++[e]):=by
 have o7:=k7 _ _ nl h.ol
 have q9:Kp H7 (upd H7 l (.lst (us++[.ref a]))):=Kp.lst o7 KeepX.upd
 have le:us.length=es.length:=Paired.length h.en
 have l2:=h.sb.length_le
 have e2:(Fq own).length=2:=by cases own <;> rfl
 rw[List.length_map,List.length_take]at l2
 refine⟨CP (by omega),AD,Hm (Paired.imp' (fun _ _ x=>x.kp (q7.trans q9)) h.en) (.cons ⟨a,v1,rfl,q9 _ _ ha,hv.kp q9⟩ .nil),fun x hx=>?_,?_,?_,?_,fun b o hb e=>?_⟩
 ·rcases List.mem_append.mp hx with hx | hx
  ·exact h.ok x hx
  ·rw[List.mem_singleton.mp hx];exact ed
 ·rw[List.map_append,List.take_add_one,hz]
  exact h.sb.append (List.Sublist.refl _)
 ·exact BE.put h0 hl pen7
 ·rw[AT lls];exact k7 _ _ nls h.ls
 ·rw[AT (Aa e hl)];exact k7 _ _ hb (h.kp b o hb e)
theorem Pf.skip {K:PySem.W.Frag}{own:Bool}{S:Addr×List Int}{H H5 H7:Hp}{p l ls:Addr}{c i:Nat}{us:List V}{es:List DZ}(h:Pf K own S H p l ls c i H5 us es)(nl:l≠p)(nls:ls≠p)(k7:KeepX p H5 H7)(q7:Kp H5 H7)(pen7:BE K S H7 p (c+60*(i+1))):Pf K own S H p l ls c (i+1) H7 us es:=
 ⟨k7 _ _ nl h.ol,Paired.imp' (fun _ _ x=>x.kp q7) h.en,h.ok,h.sb.trans (by rw[List.take_add_one];exact List.sublist_append_left _ _),pen7,k7 _ _ nls h.ls,fun b o hb e=>k7 _ _ hb (h.kp b o hb e)⟩
theorem O9:bootBuiltins "dict"=some (.type "dict"):=by nofun
def Sy (K:PySem.W.Frag):Sp:=fun vs H Q _=>∃(p sl:Addr) (zs:List Str) (k:Nat) (S:Addr×List Int),vs=[.ref p,.ref sl,.int 1]∧BE K S H p k∧k≤1000000∧H sl=some (.lst (zs.map V.str))∧Cn zs∧∀(u:V) (ct:Ct) (H':Hp),Fp H' u ct→JA ct→BE K S H' p (k+60)→KeepX p H H'→Q u H'
theorem Qr:∀ t∈[(-1:Int),3,1-10 ^ 30,5],∀ b∈[(2:Int),4,10 ^ 30-2],0<b∧Nat.gcd t.natAbs b.natAbs=1∧t.natAbs<10 ^ 30∧b.natAbs<10 ^ 30:=by nofun
theorem L0 {L:List Int}{r:Int}(h0:0≤r)(h1:r<(L.length:Int)):∃ i∈L,FF (L.map V.int) r=some (.int i):=by
 obtain⟨j,rfl⟩:∃ j:Nat,r=(j:Int):=⟨r.toNat,by omega⟩
 have hj:j<L.length:=by omega
 exact⟨L[j],List.getElem_mem hj,B2 (by rw[List.getElem?_map,List.getElem?_eq_getElem hj];rfl)⟩
theorem Q3.c {v:Vl}(h:Q3 v):Ua v:=by
 cases v with
 | none=>exact h.elim
 | flt _ _ _ _=>exact h.elim
 | _=>trivial
def Ef (H:Hp)(kvs:List (List BF×V))(cs:List Pr):Prop:=Paired (fun(kv:List BF×V) (p:Pr)=>kv.1=GS.ckK p.1∧Fp H kv.2 p.2) kvs cs
theorem Ef.kp {H H':Hp}{kvs:List (List BF×V)}{cs:List Pr}(h:Ef H kvs cs)(s:Kp H H'):Ef H' kvs cs:=Paired.imp' (fun _ _ ⟨x,y⟩=>⟨x,y.kp s⟩) h
theorem Ef.keys {H:Hp}{kvs:List (List BF×V)}{cs:List Pr}(h:Ef H kvs cs):kvs.map (·.1)=(cs.map (·.1)).map GS.ckK:=by
 unfold Ef at h
 induction h with
 | nil=>rfl
 | cons r _ ih=>rw[List.map_cons,List.map_cons,List.map_cons,ih,r.1]
theorem Nz {H:Hp}{c:CK}{v:V}{ct:Ct}(hv:Fp H v ct):∀{kvs:List (List BF×V)} {cs:List Pr},Ef H kvs cs→Ef H (kvs.map fun kv=>if kv.1=GS.ckK c then(kv.1,v)else kv) (cs.map fun p=>if p.1=c then(p.1,ct)else p)
 | _,_,.nil=>.nil
 | kv::kvs,p::cs,.cons ⟨h1,h2⟩ t=>by
  rw[List.map_cons,List.map_cons]
  refine .cons ?_ (Nz hv t)
  by_cases e:p.1=c
  ·rw[if_pos e,if_pos (by rw[h1,e])];exact⟨h1,hv⟩
  ·rw[if_neg e,if_neg fun z=>e (HJ (h1.symm.trans z))];exact⟨h1,h2⟩
theorem Qs {H:Hp}{c:CK}{v:V}{ct:Ct}{kvs:List (List BF×V)}{cs:List Pr}(h:Ef H kvs cs)(hv:Fp H v ct)(nd:(cs.map (·.1)).Nodup):∃ cs',Ef H (FJ kvs (GS.ckK c) v) cs'∧(∀ p∈cs',p∈cs∨p=(c,ct))∧(cs'.map (·.1)).Nodup∧cs'.length≤cs.length+1:=by
 unfold FJ
 by_cases e:(kvs.any fun kv=>decide (kv.1=GS.ckK c))=true
 ·rw[if_pos e]
  refine⟨_,Nz hv h,fun p hp=>?_,?_,by rw[List.length_map];omega⟩
  ·obtain⟨q,hq,rfl⟩:=List.mem_map.mp hp
   by_cases z:q.1=c
   ·rw[if_pos z,z];exact .inr rfl
   ·rw[if_neg z];exact .inl hq
  ·rw[List.map_map]
   have:((fun(p:Pr)=>p.1)∘fun p=>if p.1=c then(p.1,ct)else p)=fun p=>p.1:=by
    funext p
    show(if p.1=c then(p.1,ct)else p).1=p.1
    split <;> rfl
   rw[this];exact nd
 ·rw[if_neg e]
  refine⟨cs++[(c,ct)],Hm h (.cons ⟨rfl,hv⟩ .nil),fun p hp=>?_,?_,by rw[List.length_append];exact Nat.le_refl _⟩
  ·rcases List.mem_append.mp hp with z | z
   ·exact .inl z
   ·exact .inr (List.mem_singleton.mp z)
  ·rw[List.map_append,List.nodup_append]
   refine⟨nd,by simp,fun a ha b hb=>?_⟩
   rw[show b=c by simpa using hb]
   rintro rfl
   apply e
   rw[List.any_eq_true]
   have:GS.ckK a∈kvs.map (·.1):=by rw[h.keys];exact List.mem_map.mpr ⟨a,ha,rfl⟩
   obtain⟨kv,h1,h2⟩:=List.mem_map.mp this
   exact⟨kv,h1,by rw[h2];simp⟩
structure Qt (zs:List Str)(cs:List Pr):Prop where
 nd:(cs.map (·.1)).Nodup
 ok:∀ p∈cs,Oz zs p.1∧JA p.2
def S0 (K:PySem.W.Frag):Sp:=fun vs H Q _=>∃(p sl:Addr) (zs:List Str) (k m:Nat) (S:Addr×List Int),vs=[.ref p,.ref sl,.int (m:Int),.int 1]∧m≤12∧BE K S H p k∧k≤900000∧H sl=some (.lst (zs.map V.str))∧Cn zs∧∀(d:Addr) (kvs:List (List BF×V)) (cs:List Pr) (H':Hp),H d=none→H' d=some (.dT kvs)→Ef H' kvs cs→Qt zs cs→cs.length≤12→BE K S H' p (k+1000)→KeepX p H H'→Q (.ref d) H'
theorem Pg {zs:List Str}{r:Int}(h0:0≤r)(h1:r<(zs.length:Int)):∃ z∈zs,FF (zs.map V.str) r=some (.str z):=by
 obtain⟨j,rfl⟩:∃ j:Nat,r=(j:Int):=⟨r.toNat,by omega⟩
 have hj:j<zs.length:=by omega
 exact⟨zs[j],List.getElem_mem hj,B2 (by rw[List.getElem?_map,List.getElem?_eq_getElem hj];rfl)⟩
theorem Kp.dT {H:Hp}{d:Addr}{kvs kvs':List (List BF×V)}(h:H d=some (.dT kvs)):Kp H (upd H d (.dT kvs')):=fun b xs e=>by rw[AT (DB e h (by intro z;cases z))];exact e
def S1 (K:PySem.W.Frag):Sp:=fun vs H Q _=>∃(p a:Addr) (us:List V) (k:Nat) (S:Addr×List Int),vs=[.ref p,.ref a]∧BE K S H p k∧k≤900000∧a≠p∧H a=some (.lst us)∧us.length≤60∧∀(l:Addr) (ws:List V) (H':Hp),H l=none→H' l=some (.lst ws)→ws.Perm us→BE K S H' p (k+60)→KeepX p H H'→Q (.ref l) H'
def S3 (K:PySem.W.Frag):Sp:=fun vs H Q _=>∃(p a:Addr) (us:List V) (k:Nat) (S:Addr×List Int),vs=[.ref p,.ref a]∧BE K S H p k∧k≤900000∧a≠p∧H a=some (.lst us)∧us.length≤60∧∀(l:Addr) (b:Bool) (ws:List V) (H':Hp),H l=none→H' l=some (GR b ws)→ws.Perm us→BE K S H' p (k+64)→KeepX p H H'→Q (.ref l) H'
theorem Qu {j n:Nat}(h:j<n):seqIndex? (j:Int) n=some j:=by
 unfold seqIndex?
 have h1:¬ ((j:Int)<0):=by omega
 simp[h1,h]
theorem HR {α:Type}:∀{xs:List α} {j:Nat} (h:j<xs.length),(xs[j]::xs.eraseIdx j).Perm xs
 | [],_,h=>absurd h (Nat.not_lt_zero _)
 | x::xs,0,_=>List.Perm.refl _
 | x::xs,j+1,h=>by
  have ih:=HR (xs:=xs) (j:=j) (by simpa using h)
  simp only[List.getElem_cons_succ,List.eraseIdx_cons_succ]
  exact(List.Perm.swap _ _ _).trans (List.Perm.cons x ih)
theorem Eb {H H':Hp}{p l:Addr}(k:KeepX p H H')(np:l≠p)(h:H' l=none):H l=none:=by
 cases e:H l with
 | none=>rfl
 | some o=>rw[k _ _ np e]at h;cases h
theorem Qv {a:Addr}{o:Obj}{kvs:List (List BF×V)}{g:TG}{tb:TS}{D:Gb}{σ:St}{H:Hp}(Pv:Nat→St→Hp→Prop)(h0:Pv 0 σ H)(hl:∀ i σ H,i≤kvs.length→Pv i σ H→H a=some (.frz o (.dT kvs)))
 (hs:∀ i k v b σ H,kvs[i]?=some (k,v)→H b=some (.tup (k.map kV))→Pv i σ H→g (.ref b) σ H fun σ2 H2=>tb { D with nx:=Pv (i+1),ct:=Pv (i+1),bk:=D.nx } σ2 H2) (hd:∀ σ H,Pv kvs.length σ H→D.nx σ H):
 ∃ W:Nat→Nat→St→Hp→Prop,(∃ m,W 0 m σ H)∧∀ i m σ H,W i m σ H→
  ((RZ a o).stop i H∧D.nx σ H)∨((RZ a o).go i H∧∃ N:St→Hp→Prop,(∀ σ' H',N σ' H'→∃ m',m'<m∧W (i+1) m' σ' H')∧∀ x H',(RZ a o).yld i H x H'→g x σ H' fun σ2 H2=>tb { D with nx:=N,ct:=N,bk:=D.nx } σ2 H2):=by
 refine⟨fun i m σ H=>m=kvs.length-i∧i≤kvs.length∧Pv i σ H,⟨kvs.length,by simp,Nat.zero_le _,h0⟩,?_⟩
 rintro i m σ H ⟨rfl,hi,p⟩
 have q:=hl i σ H hi p
 by_cases hlt:i<kvs.length
 ·refine .inr ⟨⟨kvs,q,hlt⟩,Pv (i+1),fun σ' H' p'=>⟨kvs.length-(i+1),by omega,rfl,hlt,p'⟩,fun x H' y=>?_⟩
  obtain⟨e,y⟩:=y
  subst e
  obtain⟨k,v,b,h1,rfl,h2⟩:=y kvs q
  exact hs i k v b σ _ h1 h2 p
 ·have e:i=kvs.length:=by omega
  subst e
  exact .inl ⟨⟨kvs,q,Nat.le_refl _⟩,hd σ H p⟩
theorem Ph {H:Hp}{u v:V}{c:Ct}(ok:JA c)(h1:Fp H u c)(h2:Fp H v c):Ak H 17 u v:=by
 cases c with
 | val w=>
  obtain⟨q,rfl,y1⟩:=h1
  obtain⟨r,rfl,y2⟩:=h2
  cases w with
  | none=>exact ok.2.elim
  | flt w' z r c=>exact ok.2.elim
  | num t b=>exact Cf y1 y2 rfl
  | txt z=>exact Cf y1 y2 rfl
  | tru b=>exact Cf y1 y2 rfl
 | fm f=>
  obtain⟨a,v1,rfl,x1,y1⟩:=h1
  obtain⟨b,v2,rfl,x2,y2⟩:=h2
  exact K8 x1 x2 (.cons (.fl rfl) (.cons (ok.1.ak y1 y2) .nil))
theorem N1 {κ:Type}[DecidableEq κ]:∀{kvs:List (κ×V)} {i:Nat} {k:κ} {v:V},(kvs.map (·.1)).Nodup→kvs[i]?=some (k,v)→DK kvs k=some v
 | [],_,_,_,_,h=>by cases h
 | p::r,0,k,v,_,h=>by
  cases h
  exact DV rfl
 | p::r,i+1,k,v,nd,h=>by
  rw[List.map_cons,List.nodup_cons]at nd
  have hi:r[i]?=some (k,v):=h
  rw[Cj fun e=>nd.1 (List.mem_map.mpr ⟨(k,v),List.mem_of_getElem? hi,e.symm⟩)]
  exact N1 nd.2 hi
theorem N2 {κ:Type}[DecidableEq κ]{kvs:List (κ×V)}{k:κ}(h:DK kvs k=none):k∉kvs.map (·.1):=fun hm=>by
 have:=Gq k kvs
 rw[h]at this
 obtain⟨kv,h1,h2⟩:=List.mem_map.mp hm
 exact absurd (this.symm.trans (List.any_eq_true.mpr ⟨kv,h1,by simpa using h2⟩)) (by decide)
def S4:Sp:=fun vs H Q _=>∃(bk sl d:Addr) (zs:List Str) (cs cs':List Pr) (ns os:List DZ) (r:Int) (kvs:List (List BF×V)),vs=[.ref bk,.ref sl,.ref d]∧FP H bk zs cs' ns os r∧H sl=some (.lst (zs.map V.str))∧zs.length≤4∧H d=some (.dT kvs)∧Ef H kvs cs∧(cs.map (·.1)).Nodup∧(∀ p,p∈cs↔p∈cs')∧(∀ p∈cs,JA p.2)∧∀ H',KeepX d H H'→Q (.bl true) H'
theorem Ek {X:Cx}{scope:Scope}{cl:List (Str×Addr)}{C:Addr}{N:List Str}{s₀:Shared}{H₀:Hp}{ex:List Addr}{pn:List (Addr×Obj)}:CC (BG X scope cl C N s₀ H₀ ex pn) (.type "list") (fun xs H Q=>∃ p ys,xs=[.ref p]∧(A3 X.K H p ys∨Ao X.K H p ys)∧∀ l,H l=none→Q (.ref l) (upd H l (.lst ys))):=Bt
theorem KC {own:Bool}{es:List DZ}(h:∀ e∈es,FK own e∧FO e.2.1 2 e.2.2∧Cm e.2.2≤4)(s:(es.map (·.1)).Sublist (if own=true then [zS "f",zS "g"]else [zS "n",zS "m"])):Bl own es:=by
 refine⟨?_,?_,fun e he=>(h e he).1⟩
 ·have:=s.length_le
  rw[List.length_map]at this
  cases own with
  | true=>show es.length≤6;exact Nat.le_trans this (by decide)
  | false=>show es.length≤8;exact Nat.le_trans this (by decide)
 ·refine List.Pairwise.sublist s ?_
  cases own with
  | true=>show [zS "f",zS "g"].Nodup;nofun
  | false=>show [zS "n",zS "m"].Nodup;nofun
def S5 (z:Str)(j:Nat):CK:=(z,1+(j:Int) / 8,1+(j:Int)%8)
def UJ (z:Str)(j:Nat):Pr:=(S5 z j,.val (.num j 1))
theorem S6 {H H':Hp}{v:V}{kv:List BF×V}(h:DP.PvAt H v kv)(s:Kp H H'):DP.PvAt H' v kv:=by
 obtain⟨p,b,x,y,z⟩:=h
 exact⟨p,b,x,s _ _ y,s _ _ z⟩
theorem S7 {z:Str}:(((List.range 60).map (UJ z)).map (·.1)).Nodup:=by
 rw[List.map_map]
 refine List.Pairwise.map _ (fun a b hab e=>?_) (List.nodup_range (n:=60))
 have e:S5 z a=S5 z b:=e
 unfold S5 at e
 injection e with _ e
 injection e with e1 e2
 exact hab (by omega)
theorem UK {zs:List Str}{z:Str}(mz:z∈zs)(nm:Nm z):∀ p∈(List.range 60).map (UJ z),Oz zs p.1∧JA p.2:=fun p hp=>by
 obtain⟨j,hj,rfl⟩:=List.mem_map.mp hp
 have hj:=List.mem_range.mp hj
 refine⟨⟨mz,nm,?_,?_,?_,?_⟩,⟨⟨Lu,?_,by decide⟩,trivial⟩⟩
 ·show 1≤1+(j:Int) / 8;omega
 ·show 1+(j:Int) / 8≤16;omega
 ·show 1≤1+(j:Int)%8;omega
 ·show 1+(j:Int)%8≤8;omega
 ·show((j:Int)).natAbs<10 ^ 30;omega
def Qw (own:Bool)(i:Nat):Str:=(if own=true then zS "f" else zS "n")++⟨#[97+i]⟩
def N3 (own:Bool)(i:Nat):DZ:=(Qw own i,if own=true then i%4 else 0,.lf .gone)
theorem Uu:∀ i:Nat,i<8→FF (Str.ofString "abcdefgh").cps.toList (0+(i:Int))=some (97+i):=by nofun
theorem Uv:∀ i:Nat,i<6→FF (Str.ofString "abcdef").cps.toList (0+(i:Int))=some (97+i):=by nofun
theorem N4 (own:Bool):∀ i:Nat,i<8→Nm (Qw own i)∧MX (Qw own i)=false:=by
 have h:∀ own:Bool,∀ i:Nat,i<8→(decide (1≤(Qw own i).length)&&decide ((Qw own i).length≤6)&&(Qw own i).cps.toList.all fun c=>decide (97≤c)&&decide (c≤122))=true∧MX (Qw own i)=false:=by nofun
 exact fun i hi=>⟨Bz (h own i hi).1,(h own i hi).2⟩
theorem KD (own:Bool):Bl own ((List.range (Pb own)).map (N3 own)):=by
 refine⟨by rw[List.length_map,List.length_range];exact Nat.le_refl _,?_,fun e he=>?_⟩
 ·cases own with
  | true=>nofun
  | false=>nofun
 ·obtain⟨i,hi,rfl⟩:=List.mem_map.mp he
  have h8:i<8:=by
   have:=List.mem_range.mp hi
   cases own with
   | true=>exact Nat.lt_of_lt_of_le this (by decide)
   | false=>exact this
  have m3:(N3 own i).2.1≤3:=by
   cases own with
   | true=>show i%4≤3;omega
   | false=>exact Nat.zero_le _
  exact⟨(N4 own i h8).1,(N4 own i h8).2,fun z=>by subst z;rfl,m3,.lf trivial,by show Cm (.lf .gone)≤24;rw[Qq];decide,by simp[N3,CF]⟩
theorem N5 {H:Hp}:∀{kvs:List (List BF×V)} {cs:List Pr},Ef H kvs cs→∀{c:CK},c∈cs.map (·.1)→∃ v ct,DK kvs (GS.ckK c)=some v∧(c,ct)∈cs∧Fp H v ct
 | _,_,.nil,_,h=>nomatch h
 | kv::kvs,p::cs,.cons ⟨h1,h2⟩ t,c,h=>by
  by_cases e:p.1=c
  ·refine⟨kv.2,p.2,DV (by rw[h1,e]),?_,h2⟩
   rw[← e]
   exact List.mem_cons_self
  ·rw[List.map_cons]at h
   rcases List.mem_cons.mp h with z | z
   ·exact absurd z.symm e
   ·obtain⟨v,ct,a,b,d⟩:=N5 t z
    exact⟨v,ct,by rw[Cj fun z=>e (HJ (h1.symm.trans z))];exact a,List.mem_cons_of_mem _ b,d⟩
theorem N6 {own:Bool}{K:PySem.W.Frag}{ln:Addr}{us:List V}{nes:List DZ}{H:Hp}{Q:VK}(hl:H ln=some (.lst us))(en:Paired (BS own H) us nes)(ok:Bl own nes)
 (k:∀(l:Addr) (xs:List V) (ns':List DZ),H l=none→Paired (BS own H) xs ns'→O2 ns' nes→Q (.ref l) (upd H l (.lst xs))):GS.rSortG KSt.slt GS.HdV K [V.ref ln] H Q:=by
 obtain⟨z1,z2,z3⟩:=JB (f:=fun(e:DZ)=>e.1) en
 have l8:nes.length≤8:=Nat.le_trans ok.1 (by cases own <;> decide)
 refine⟨ln,us.zip (nes.map (·.1)),rfl,by rw[z1];exact A3.of hl,fun p hm=>?_,by rw[z2];exact ok.2.1,by rw[z3];omega,fun l qs hl m1 m2 m3=>?_⟩
 ·obtain⟨e,_,x,y⟩:=GX en hm
  rw[← y]
  exact x.hd
 ·obtain⟨ns',na,nb,nc⟩:=K5 (lt:=KSt.slt) (key:=fun(e:DZ)=>e.1) en m1
  exact k l _ ns' hl na ⟨nb,by rw[nc,← z2];exact m2,by rw[nc];exact m3⟩
theorem Fr {α β:Type}{F:α→β→Prop}{us ws:List α}(p:ws.Perm us):∀{ns:List β},Paired F us ns→∃ ns',Paired F ws ns'∧ns'.Perm ns:=by
 induction p with
 | nil=>intro ns h;exact⟨ns,h,List.Perm.refl _⟩
 | cons x _ ih=>
  intro ns h
  cases h with
  | cons r t=>
   obtain⟨ns',a,b⟩:=ih t
   exact⟨_::ns',.cons r a,b.cons _⟩
 | swap x y l=>
  intro ns h
  cases h with
  | cons r t=>
   cases t with
   | cons r2 t=>exact⟨_,.cons r2 (.cons r t),List.Perm.swap _ _ _⟩
 | trans _ _ ih1 ih2=>
  intro ns h
  obtain⟨ns1,a,b⟩:=ih2 h
  obtain⟨ns2,c,d⟩:=ih1 a
  exact⟨ns2,c,d.trans b⟩
theorem Bl.perm {own:Bool}{ns ms:List DZ}(h:Bl own ms)(p:ns.Perm ms):Bl own ns:=⟨by rw[p.length_eq];exact h.1,(p.map (·.1)).symm.nodup h.2.1,fun e he=>h.2.2 e (p.subset he)⟩
theorem Bl.srt {own:Bool}{ns ms:List DZ}(h:Bl own ms)(s:O2 ns ms):Bl own ns:=⟨by have:=s.perm.length_eq;rw[List.length_map,List.length_map]at this;rw[this];exact h.1,s.perm.symm.nodup h.2.1,fun e he=>h.2.2 e (s.sub e he)⟩
theorem TY {H:Hp}{n:Nat}{β:Type}{F:V→β→Prop}:∀{us ws:List V} {ns:List β},Paired F us ns→Paired F ws ns→(∀ e∈ns,∀ x y,F x e→F y e→Ak H n x y)→Paired (Ak H n) us ws
 | _,_,_,.nil,.nil,_=>.nil
 | _,_,_,.cons a r,.cons b s,h=>.cons (h _ (by simp) _ _ a b) (TY r s fun g hg=>h g (List.mem_cons_of_mem _ hg))
theorem L1 {H:Hp}{n:Nat}:∀{zs:List Str},Paired (Ak H n) (zs.map V.str) (zs.map V.str)
 | []=>.nil
 | _::_=>.cons (.fl rfl) L1
theorem BS.ak {own:Bool}{H:Hp}{e:DZ}(ok:FK own e){x y:V}(h1:BS own H x e)(h2:BS own H y e):Ak H 18 x y:=by
 obtain⟨a,v1,rfl,x1,y1⟩:=h1
 obtain⟨b,v2,rfl,x2,y2⟩:=h2
 have q:Ak H 17 v1 v2:=KA (ok.fo.ak y1 y2) (by decide)
 cases own with
 | true=>exact K8 (xs:=[.str e.1,.int e.2.1,v1]) (ys:=[.str e.1,.int e.2.1,v2]) x1 x2 (.cons (.fl rfl) (.cons (.fl rfl) (.cons q .nil)))
 | false=>exact K8 (xs:=[.str e.1,v1]) (ys:=[.str e.1,v2]) x1 x2 (.cons (.fl rfl) (.cons q .nil))
theorem Cg.ak {H:Hp}{p:Pr}(ok:JA p.2){x y:V}(h1:Cg H x p)(h2:Cg H y p):Ak H 18 x y:=by
 obtain⟨a,b,v1,rfl,x1,y1,z1⟩:=h1
 obtain⟨c,d,v2,rfl,x2,y2,z2⟩:=h2
 exact K8 x1 x2 (.cons (Cf (n:=16) y1 y2 rfl (by show 3≤100;decide)) (.cons (Ph ok z1 z2) .nil))
theorem K9 {H:Hp}{b b2:Addr}{zs:List Str}{cs:List Pr}{ns os:List DZ}{r:Int}(h1:FP H b zs cs ns os r)(h2:FP H b2 zs cs ns os r)(hz:zs.length≤4)(hc:HH zs cs)(hn:Bl false ns)(ho:Bl true os):Ak H 20 (.ref b) (.ref b2):=by
 obtain⟨t1,t2,t3,t4,xs,us,ws,a0,a1,a2,a3,a4,p1,p2,p3⟩:=h1
 obtain⟨u1,u2,u3,u4,xs',us',ws',b0,b1,b2',b3,b4,q1,q2,q3⟩:=h2
 have l1:xs.length=cs.length:=Paired.length p1
 have l2:us.length=ns.length:=Paired.length p2
 have l3:ws.length=os.length:=Paired.length p3
 have m1:=hc.1
 have m2:ns.length≤8:=hn.1
 have m3:os.length≤6:=ho.1
 refine K8 a0 b0 (.cons (K8 a1 b1 L1 (by rw[List.length_map];omega)) (.cons (K8 a2 b2' (TY p1 q1 fun p hp x y=>Cg.ak (hc.2.2 p hp).2) (by omega)) (.cons (K8 a3 b3 (TY p2 q2 fun e he x y=>BS.ak (hn.2.2 e he)) (by omega)) (.cons (K8 a4 b4 (TY p3 q3 fun e he x y=>BS.ak (ho.2.2 e he)) (by omega)) (.cons (.fl rfl) .nil)))))
abbrev Q4:=Addr×Bool×List V
def S8 (H:Hp)(As:List Q4):Prop:=∀ q∈As,H q.1=some (GR q.2.1 q.2.2)
def DX (As:List Q4):List V:=As.map fun q=>.ref q.1
def TZ (H H':Hp):Prop:=∀ b o,H b=some o→(∀ us,o≠.lst us)→H' b=some o
theorem Bq.kn {H H':Hp}{P:Addr}{q:Str}(x:Bq H P q)(h:TZ H H'):Bq H' P q:=by
 obtain⟨ps,a,b,c⟩:=x
 refine⟨ps,h _ _ a (by intro _ z;cases z),b,fun pos cv e=>?_⟩
 obtain⟨c',e1,e2⟩:=c pos cv e
 exact⟨c',e1,e2.keep fun b o z=>h _ _ z (by intro _ z;cases z)⟩
theorem Bq.kd {H H':Hp}{P d:Addr}{q:Str}{kvs:List (List BF×V)}(x:Bq H P q)(hd:H d=some (.dT kvs))(h:KeepX d H H'):Bq H' P q:=by
 obtain⟨ps,a,b,c⟩:=x
 refine⟨ps,h _ _ (DB a hd (by intro z;cases z)) a,b,fun pos cv e=>?_⟩
 obtain⟨c',e1,e2⟩:=c pos cv e
 exact⟨c',e1,e2.keep fun b o z=>h _ _ (DB z hd (by intro z;cases z)) z⟩
theorem TZ.kp {H H':Hp}(h:TZ H H'):Kp H H':=fun b xs e=>h b _ e (by intro _ z;cases z)
theorem PB {b:Bool}{us ws:List V}(h:GR b us=.lst ws):b=true:=by
 cases b with
 | true=>rfl
 | false=>cases h
theorem PC {H:Hp}:∀{v:V},(BP v=true∨∃ a,v=.ref a)→Jk H 0 v v:=by
 rintro v (h | ⟨a,rfl⟩)
 ·exact .fl h
 ·exact .rf
structure LJ (K:PySem.W.Frag)(S:Addr×List Int)(H:Hp)(p sl d ln lo P:Addr)(zs:List Str)(kvs:List (List BF×V))(cs:List Pr)(us ws:List V)(nes oes:List DZ)(c:Nat):Prop where
 pen:BE K S H p c
 hP:H P=some (.tbl #[])
 hsl:H sl=some (.lst (zs.map V.str))
 hd:H d=some (.dT kvs)
 dc:Ef H kvs cs
 dk:Qt zs cs
 l60:cs.length≤60
 hln:H ln=some (.lst us)
 en:Paired (BS false H) us nes
 okn:Bl false nes
 hlo:H lo=some (.lst ws)
 eo:Paired (BS true H) ws oes
 oko:Bl true oes
 n1:sl≠p
 n2:ln≠p
 n3:lo≠p
theorem LJ.kx {K:PySem.W.Frag}{S:Addr×List Int}{H H':Hp}{p sl d ln lo P:Addr}{zs:List Str}{kvs:List (List BF×V)}{cs:List Pr}{us ws:List V}{nes oes:List DZ}{c c':Nat}(h:LJ K S H p sl d ln lo P zs kvs cs us ws nes oes c)(k:KeepX p H H')(pn:BE K S H' p c'):LJ K S H' p sl d ln lo P zs kvs cs us ws nes oes c':=by
 obtain⟨vs,ep⟩:=h.pen.ob
 have q:=h.pen.kp k
 exact⟨pn,k _ _ (DB h.hP ep (by intro z;cases z)) h.hP,k _ _ h.n1 h.hsl,k _ _ (DB h.hd ep (by intro z;cases z)) h.hd,h.dc.kp q,h.dk,h.l60,k _ _ h.n2 h.hln,Paired.imp' (fun _ _ x=>x.kp q) h.en,h.okn,k _ _ h.n3 h.hlo,Paired.imp' (fun _ _ x=>x.kp q) h.eo,h.oko,h.n1,h.n2,h.n3⟩
theorem LJ.same {K:PySem.W.Frag}{S:Addr×List Int}{H H':Hp}{p sl d ln lo P:Addr}{zs:List Str}{kvs:List (List BF×V)}{cs:List Pr}{us ws:List V}{nes oes:List DZ}{c:Nat}(h:LJ K S H p sl d ln lo P zs kvs cs us ws nes oes c)(s:AH H H'):LJ K S H' p sl d ln lo P zs kvs cs us ws nes oes c:=h.kx (AH.keep s) (h.pen.same s)
end Fs
open PySem L2 Mx Fs
namespace Fs
def B9 (i:Nat):Stmt:=PySem.Challenge.pw_freshsheet_k25_books_made.main.body.getD i (.Pass ⟨0,0,0,0⟩)
abbrev EG:Stmt:=B9 76
abbrev Ey:Stmt:=B9 75
abbrev Ez:Stmt:=B9 4
abbrev B4:Stmt:=B9 5
abbrev EH:Stmt:=B9 6
abbrev CZ:Stmt:=B9 12
abbrev EI:Stmt:=B9 13
abbrev Ft:Stmt:=B9 14
abbrev CG:Stmt:=B9 20
abbrev CH:Stmt:=B9 21
abbrev Fu:Stmt:=B9 22
abbrev Ca:Stmt:=B9 23
abbrev E1:Stmt:=B9 24
abbrev E2:Stmt:=B9 36
abbrev EJ:Stmt:=B9 37
abbrev DM:Stmt:=B9 38
abbrev CI:Stmt:=B9 39
abbrev EK:Stmt:=B9 40
abbrev B5:Stmt:=B9 41
abbrev B6:Stmt:=B9 42
abbrev EL:Stmt:=B9 43
abbrev Cb:Stmt:=B9 44
abbrev Co:Stmt:=B9 45
abbrev EM:Stmt:=B9 46
abbrev E3:Stmt:=B9 47
abbrev E4:Stmt:=B9 48
abbrev Fv:Stmt:=B9 49
abbrev Dg:Stmt:=B9 50
abbrev HS:Stmt:=B9 57
abbrev E5:Stmt:=B9 59
abbrev DN:Stmt:=B9 58
abbrev Cp:Stmt:=B9 61
abbrev CJ:Stmt:=B9 62
abbrev Cq:Stmt:=B9 64
abbrev HU:Stmt:=B9 65
abbrev Dh:Stmt:=B9 60
abbrev Cr:Stmt:=B9 63
abbrev Di:Stmt:=B9 66
abbrev Cc:Stmt:=B9 67
abbrev EN:Stmt:=B9 68
abbrev EO:Stmt:=B9 69
abbrev E6:Stmt:=B9 70
abbrev CL:Stmt:=B9 71
abbrev Fw:Stmt:=B9 72
abbrev Dj:Stmt:=B9 73
abbrev Dk:Stmt:=B9 77
abbrev DQ:Stmt:=B9 78
abbrev CM:Stmt:=B9 79
abbrev Dl:Stmt:=B9 80
abbrev EQ:Stmt:=B9 81
abbrev ER:Stmt:=B9 82
abbrev Cs:Stmt:=B9 83
abbrev Dm:Stmt:=B9 84
abbrev DR:Stmt:=B9 85
abbrev Do:Stmt:=B9 86
abbrev ES:Stmt:=B9 87
abbrev Cu:Stmt:=B9 88
abbrev Dp:Stmt:=B9 89
abbrev Dq:Stmt:=B9 90
abbrev DS:Stmt:=B9 91
abbrev Bm:Stmt:=B9 92
abbrev N7:Stmt:=B9 93
theorem S9 {α:Type}{us:List α}(h:us.length=1):∃ a0,us=[a0]:=match us,h with | [a0],_=>⟨a0,rfl⟩
set_option genInjectivity false in
set_option genSizeOf false in
structure Ad where
 aa:Addr
 ab:FuncData
 ac:Addr
 ad:FuncData
 ae:Addr
 af:FuncData
 ag:Addr
 ah:FuncData
 ai:Addr
 aj:FuncData
 ak:Addr
 al:FuncData
 am:Addr
 an:FuncData
 ao:Addr
 ap:FuncData
 aq:Addr
 ar:FuncData
 au:Addr
 av:FuncData
 aw:Addr
 ax:FuncData
 ay:Addr
 az:FuncData
 a0:Addr
 a1:FuncData
 a2:Addr
 a3:FuncData
 a4:Addr
 a5:FuncData
 a6:Addr
 a7:FuncData
 a8:Addr
 a9:FuncData
 ba:Addr
 bb:FuncData
 bc:Addr
 bd:FuncData
 be:Addr
 bf:FuncData
 bg:Addr
 bh:FuncData
 bi:Addr
 bj:FuncData
 bk:Addr
 bl:FuncData
 bm:Addr
 bn:FuncData
 bo:Addr
 bp:FuncData
 bq:Addr
 br:FuncData
 bs:Addr
 bt:FuncData
 bu:Addr
 bv:FuncData
 bw:Addr
 bx:FuncData
 bz:Addr
 b0:FuncData
 b1:Addr
 b2:FuncData
 b3:Addr
 b4:FuncData
 b5:Addr
 b6:FuncData
 b7:Addr
 b8:FuncData
 b9:Addr
 ca:FuncData
 cb:Addr
 cc:FuncData
 cd:Addr
 ce:FuncData
 cf:Addr
 cg:FuncData
 ch:Addr
 ci:FuncData
 cj:Addr
 ck:FuncData
 cl:Addr
 cm:FuncData
 cn:Addr
 co:FuncData
 cp:Addr
 cq:FuncData
 cr:Addr
 cs:FuncData
 ct:Addr
 cu:FuncData
 cv:Addr
 cw:FuncData
 cx:Addr
 cy:FuncData
 cz:Addr
 c0:FuncData
 c1:Addr
 c2:FuncData
 c3:Addr
 c4:FuncData
 c5:Addr
 c6:FuncData
 c7:Addr
 c8:FuncData
 c9:Addr
 da:FuncData
 db:Addr
 dc:FuncData
 dd:Addr
 de:FuncData
 df:Addr
 dg:FuncData
 dh:Addr
 di:FuncData
 dj:Addr
 dk:FuncData
 dl:Addr
 dm:FuncData
 dn:Addr
 dp:FuncData
 dq:Addr
 dr:FuncData
 ds:Addr
 dt:FuncData
 e2:Addr
 dv:Addr
structure Txt (w:World)(K:PySem.W.Frag)(mg:Str→Option Value)(t:Ad):Prop where
 dw:Df K mg "_law_next" EG ["_law_pen_here","_law_many_here"] t.aa t.ab
 dx:Df K mg "_law_pen" Ey ["_law_script"] t.ac t.ad
 dy:Df K mg "is_whole" Ez ["thing"] t.ae t.af
 dz:Df K mg "greatest_divisor" B4 ["one","other"] t.ag t.ah
 d0:Df K mg "is_number" EH ["top","bottom"] t.ai t.aj
 d1:Df K mg "is_sheet_name" CZ ["thing"] t.ak t.al
 d2:Df K mg "is_within" EI ["thing","last"] t.am t.an
 d3:Df K mg "is_cell" Ft ["thing"] t.ao t.ap
 d4:Df K mg "has_few_figures" CG ["thing"] t.aq t.ar
 d5:Df K mg "is_short_number" CH ["top","bottom"] t.au t.av
 d6:Df K mg "is_text" Fu ["thing"] t.aw t.ax
 d7:Df K mg "is_fault_word" Ca ["thing"] t.ay t.az
 d8:Df K mg "is_value" E1 ["thing"] t.a0 t.a1
 d9:Df K mg "parts_of" E2 ["formula"] t.a2 t.a3
 ea:Df K mg "all_parts" EJ ["formula"] t.a4 t.a5
 eb:Df K mg "count_parts" DM ["formula"] t.a6 t.a7
 ec:Df K mg "is_formula_name" CI ["thing"] t.a8 t.a9
 ed:Df K mg "is_one_of" EK ["thing","texts"] t.ba t.bb
 ee:Df K mg "is_written_value" B5 ["thing"] t.bc t.bd
 ef:Df K mg "is_sheet_or_none" B6 ["thing"] t.be t.bf
 eg:Df K mg "is_corner" EL ["thing"] t.bg t.bh
 eh:Df K mg "is_column_end" Cb ["thing"] t.bi t.bj
 ei:Df K mg "is_reference" Co ["thing"] t.bk t.bl
 ej:Df K mg "is_called" EM ["thing"] t.bm t.bn
 ek:Df K mg "is_param" E3 ["thing","params"] t.bo t.bp
 el:Df K mg "has_form" E4 ["thing","params"] t.bq t.br
 em:Df K mg "is_tree" Fv ["thing","params","deep"] t.bs t.bt
 en:Df K mg "is_formula" Dg ["thing","params"] t.bu t.bv
 eo:Df K mg "is_row" HS ["thing","most"] t.bw t.bx
 ep:Df K mg "is_up_to" E5 ["thing","most"] t.bz t.b0
 eq:Df K mg "is_tuple_of" DN ["thing","many"] t.b1 t.b2
 er:Df K mg "tells_sheets" Cp ["formula"] t.b3 t.b4
 es:Df K mg "is_book_formula" CJ ["thing","params"] t.b5 t.b6
 et:Df K mg "is_name_pair" Cq ["thing"] t.b7 t.b8
 eu:Df K mg "is_own" HU ["thing"] t.b9 t.ca
 ev:Df K mg "is_content" Dh ["thing"] t.cb t.cc
 ew:Df K mg "is_cell_pair" Cr ["thing","sheets"] t.cd t.ce
 ex:Df K mg "are_sheets" Di ["thing"] t.cf t.cg
 ey:Df K mg "has_each_once" Cc ["pairs"] t.ch t.ci
 ez:Df K mg "are_cells" EN ["thing","sheets"] t.cj t.ck
 e0:Df K mg "are_names" EO ["thing"] t.cl t.cm
 e1:Df K mg "are_owns" E6 ["thing"] t.cn t.co
 e2:Df K mg "sorted_by_first" CL ["pairs"] t.cp t.cq
 e3:Df K mg "book_of" Fw ["sheets","cells","names","owns","rounds"] t.cr t.cs
 e4:Df K mg "content_at" Dj ["book","cell"] t.ct t.cu
 e5:Df K mg "_law_plain" Dk ["_law_pen_here"] t.cv t.cw
 e6:Df K mg "_law_corner" DQ ["_law_pen_here"] t.cx t.cy
 e7:Df K mg "_law_sheet_told" CM ["_law_pen_here","_law_sheets_here","_law_told_on"] t.cz t.c0
 e8:Df K mg "_law_place" Dl ["_law_pen_here","_law_sheets_here","_law_told_on"] t.c1 t.c2
 e9:Df K mg "_law_leaf" EQ ["_law_pen_here","_law_sheets_here","_law_told_on","_law_params"] t.c3 t.c4
 fa:Df K mg "_law_many" ER ["_law_pen_here","_law_sheets_here","_law_told_on","_law_params","_law_deep"] t.c5 t.c6
 fb:Df K mg "_law_formula" Cs ["_law_pen_here","_law_sheets_here","_law_told_on","_law_params","_law_deep"] t.c7 t.c8
 fc:Df K mg "_law_alike" Dm ["_law_found","_law_due"] t.c9 t.da
 fd:Df K mg "_law_sheets" DR ["_law_pen_here"] t.db t.dc
 fe:Df K mg "_law_names" Do ["_law_pen_here","_law_sheets_here"] t.dd t.de
 ff:Df K mg "_law_owns" ES ["_law_pen_here","_law_sheets_here"] t.df t.dg
 fg:Df K mg "_law_content" Cu ["_law_pen_here","_law_sheets_here","_law_deep"] t.dh t.di
 fh:Df K mg "_law_cells" Dp ["_law_pen_here","_law_sheets_here","_law_many_here","_law_deep"] t.dj t.dk
 fi:Df K mg "_law_dealt" Dq ["_law_pen_here","_law_some"] t.dl t.dm
 fj:Df K mg "_law_handed" DS ["_law_pen_here","_law_some"] t.dn t.dp
 fk:Df K mg "_law_contents_right" Bm ["_law_book","_law_sheets_here","_law_cells_here"] t.dq t.dr
 fl:Df K mg "law" N7 ["_law_script"] t.ds t.dt
 fm:mg "len"=none
 fn:mg "range"=none
 fo:mg "isinstance"=none
 fp:mg "int"=none
 fq:mg "bool"=none
 fr:mg "str"=none
 fs:mg "tuple"=none
 ft:mg "list"=none
 fu:mg "all"=none
 fv:mg "zip"=none
 fw:mg "min"=none
 fx:mg "sorted"=none
 fy:mg "set"=none
 fz:mg "abs"=none
 f0:mg "reversed"=none
 f1:mg "sum"=none
 f2:mg "dict"=none
 f3:Qc mg "LETTERS" (Str.ofString "abcdefghijklmnopqrstuvwxyz")
 f4:Ed mg "LONGEST_NAME" 6
 f5:Ed mg "LAST_ROW" 16
 f6:Ed mg "LAST_COLUMN" 8
 f7:Qc mg "SIGNS" (Str.ofString "abcdefghijklmnopqrstuvwxyz0123456789 ")
 f8:Nf K mg "FAULTS" (Ex.map V.str)
 f9:Ed mg "MOST_SIGNS" 20
 ga:Ed mg "GREATEST_WHOLE" 999999999999999999999999999999
 gb:Ed mg "MOST_PARTS" 24
 gc:Ed mg "MOST_DEEP" 8
 gd:Ed mg "MOST_OWN_PARTS" 3
 ge:Ed mg "MOST_PARAMS" 3
 gf:Ed mg "GREATEST_WRITTEN" 999999999
 gg:Nf K mg "WORDS" R8
 gh:Nf K mg "OP_SIGNS" R7
 gi:Nf K mg "SUMIF_SIGNS" TR
 gj:QG w K mg "LENGTHS" MY
 gk:Rf w K mg "PART_PLACES" UE
 gl:Ed mg "MOST_SHEETS" 4
 gm:Ed mg "MOST_CELLS" 60
 gn:Ed mg "MOST_NAMES" 8
 go:Ed mg "MOST_OWNS" 6
 gp:Ed mg "MOST_ROUNDS" 4
 gq:PySem.W.kitOne K (.type "NoneType") (.type "int")=some false
 gr:PySem.W.kitOne K (.type "NoneType") (.type "bool")=some false
 gs:PySem.W.kitOne K (.type "NoneType") (.type "str")=some false
 gt:PySem.W.kitOne K (.type "NoneType") (.type "tuple")=some false
 gu:PySem.W.kitOne K (.type "bool") (.type "int")=some true
 gv:PySem.W.kitOne K (.type "bool") (.type "bool")=some true
 gw:PySem.W.kitOne K (.type "bool") (.type "str")=some false
 gx:PySem.W.kitOne K (.type "bool") (.type "tuple")=some false
 gy:PySem.W.kitOne K (.type "int") (.type "int")=some true
 gz:PySem.W.kitOne K (.type "int") (.type "bool")=some false
 g0:PySem.W.kitOne K (.type "int") (.type "str")=some false
 g1:PySem.W.kitOne K (.type "int") (.type "tuple")=some false
 g2:PySem.W.kitOne K (.type "str") (.type "int")=some false
 g3:PySem.W.kitOne K (.type "str") (.type "bool")=some false
 g4:PySem.W.kitOne K (.type "str") (.type "str")=some true
 g5:PySem.W.kitOne K (.type "str") (.type "tuple")=some false
 g6:PySem.W.kitOne K (.type "list") (.type "int")=some false
 g7:PySem.W.kitOne K (.type "list") (.type "bool")=some false
 g8:PySem.W.kitOne K (.type "list") (.type "str")=some false
 g9:PySem.W.kitOne K (.type "list") (.type "tuple")=some false
 ha:PySem.W.kitOne K (.type "dict") (.type "int")=some false
 hb:PySem.W.kitOne K (.type "dict") (.type "bool")=some false
 hc:PySem.W.kitOne K (.type "dict") (.type "str")=some false
 hd:PySem.W.kitOne K (.type "dict") (.type "tuple")=some false
 he:PySem.W.kitOne K (.type "tuple") (.type "int")=some false
 hf:PySem.W.kitOne K (.type "tuple") (.type "bool")=some false
 hg:PySem.W.kitOne K (.type "tuple") (.type "str")=some false
 hh:PySem.W.kitOne K (.type "tuple") (.type "tuple")=some true
 hi:PySem.W.kitOne K (.type "str") (.type "tuple")=some false
 hj:PySem.W.kitOne K (.type "int") (.type "tuple")=some false
 hk:PySem.W.kitOne K (.type "int") (.type "bool")=some false
 hl:PySem.W.kitOne K (.type "tuple") (.type "list")=some false
 hm:t.cq.code=.ref t.e2
seal PE PT PW PA PS JU PI PG Qz PF PO PJ EX CC Py Ug
section
variable {P:Program}{w:World}{K:PySem.W.Frag}{mg:Str→Option Value}{base:Heap}{t:Ad}
theorem BQ:AZ ["_law_pen_here","_law_many_here","_law_script","_law_count","_law_rest","_law_cell","_law_number"] ["_law_pen_here","_law_many_here"] (AM EG):=BD
theorem AQ (T:Txt w K mg t):Az P w K mg base Bd 1 t.aa t.ab ["_law_pen_here","_law_many_here"] (R5 K):=by
 have D:=T.dw
 refine D.fn.okX BQ ?_ (fun cdv A outer s H vs Q E hr h Z hZ=>?_)
 ·rintro _ _ _ _ ⟨p,m,n,S,rfl,_⟩
  rfl
 ·obtain⟨p,m,n,S,rfl,hm,hz,hpen,hn,k⟩:=h
  refine hZ ⟨_,((AF (KS (AI 0) (P6 rfl (Ci (Be (i:=2) BQ.nd rfl (Or.inl rfl)) (Ci (Be (i:=3) BQ.nd rfl (Or.inl rfl)) (Ci (Be (i:=4) BQ.nd rfl (Or.inl rfl)) Id)))))
   (AF (KS (A4 B3 (AI 3) AC) (Mj (AI 0) AC JY))
   (AF (Af (Bg (AV An (AK Ac (by rfl) T.fm PySem.boot_len (AA (AI 2) AB)) AC (AN _)) (Ba (AV An (A4 CS (AW A5 (AI 2) AC (fun _ _=>rfl)) AC) AC (AN _)))).pt (AF (Al (i:=5) BQ.nd rfl (Or.inl rfl) AC)
   (AF (Af (AV Gg (AK Ac (by rfl) T.fm PySem.boot_len (AA (AI 2) AB)) AC (AN _)) (AG (Al (i:=5) BQ.nd rfl (Or.inl rfl) (AW A5 (AI 2) (A4 CS (A4 B3 (A4 FH (AI 3) AC) AC) (AK Ac (by rfl) T.fm PySem.boot_len (AA (AI 2) AB))) (fun _ _=>rfl)))) AR)
   (AF (Al (i:=6) BQ.nd rfl (Or.inl rfl) (A4 CS (A4 B3 (A4 B3 (A4 CS (AI 5) AC) (A4 FH AC (AI 3))) AC) AC))
   (AF (Al (i:=6) BQ.nd rfl (Or.inl rfl) (A4 CS (A4 FH (AI 6) (A4 B3 (AI 6) AC)) AC))
   (AF (Al (i:=6) BQ.nd rfl (Or.inl rfl) (A4 CS (A4 FH (AI 6) (A4 B3 (AI 6) AC)) AC))
   (AG (AJ (A4 CS (A4 FC (AI 6) AC) (AI 1))))))))) AR)
   (AF (Af (AV An (A4 CS (AI 3) AC) AC (AN _)) (AF (Al (i:=4) BQ.nd rfl (Or.inl rfl) AC)
   (AG (Af (AV Dv (A4 B3 AC (A4 FC (AI 3) AC)) (AK Ac (by rfl) T.fm PySem.boot_len (AA (AI 2) AB)) (AN _)) (AG (Al (i:=4) BQ.nd rfl (Or.inl rfl) (AW A5 (AI 2) (A4 B3 AC (A4 FC (AI 3) AC)) (fun _ _=>rfl)))) AR))) AR)
   (AF (KS (A4 M1 (AI 4) (AI 1)) (Mj (AI 0) AC JY))
   (AG (AJ (A4 CS (AI 4) (AI 1)))))))))),?_⟩
  try dsimp only[BC,Ar]
  obtain⟨a,ns⟩:=S
  obtain⟨c,r,hp,hS,hc0,hc1,h63⟩:=hpen
  dsimp only at hp hS h63
  refine⟨_,rfl,p,_,rfl,A3.of hp,rfl,_,_,rfl,_,_,rfl,_,_,rfl,rfl,?_⟩
  refine⟨_,rfl,_,_,rfl,rfl,_,rfl,p,_,_,1,rfl,rfl,hp,rfl,?_⟩
  have hS1:∀{o},A3 K (upd H p o) a (ns.map V.int):=fun {o}=>A3.kl hS hp KeepX.upd
  have fin:∀(r' x:Int) (H2:Hp),0≤x→x<m→H2 p=some (.lst [.ref a,.int (c+1),.int r'])→KeepX p H H2→Q (.int x) H2:=fun r' x H2 x0 x1 h2 kp=>
   k x H2 x0 x1 ⟨c+1,r',h2,A3.kl hS hp kp,by omega,by omega,h63⟩ kp
  have hlen:(ns.map V.int).length=ns.length:=List.length_map _
  have l0:V.bl (decide (V.int ((ns.map V.int).length:Int)=V.int 0))=V.bl (decide (ns.length=0)):=by
   congr 1
   by_cases z:ns.length=0
   ·rw[decide_eq_true z];exact decide_eq_true (by rw[hlen,z];rfl)
   ·rw[decide_eq_false z];exact decide_eq_false fun e=>z (by injection e with e;omega)
  refine⟨_,rfl,a,_,rfl,.inl hS1,rfl,_,l0,CA (fun c1=>Ap ?_) (fun c1=>?_)⟩
  ·refine⟨_,rfl,a,_,rfl,.inl hS1,_,_,rfl,rfl,false,?_,AX ?_⟩
   ·have z:=of_decide_eq_true c1
    exact congrArg V.bl (decide_eq_false (by rw[hlen,z];decide))
   have n1:=Int.emod_nonneg (5) (show(2147483629:Int)≠0 by decide)
   have n2:=Int.emod_lt_of_pos (5) (show(0:Int)<2147483629 by decide)
   refine⟨_,rfl,_,_,rfl,rfl,(by show(0:Int)<_;decide),_,rfl,_,_,rfl,rfl,⟨Ag (by decide) (by decide),Ag (by omega) (by omega)⟩,_,_,rfl,rfl,_,_,rfl,rfl,_,_,rfl,rfl,(by show(0:Int)<_;decide),?_⟩
   have m1:=Int.emod_nonneg ((5)%2147483629+69621*c+17) (show(2147483647:Int)≠0 by decide)
   have m2:=Int.emod_lt_of_pos ((5)%2147483629+69621*c+17) (show(0:Int)<2147483647 by decide)
   generalize ((5)%2147483629+69621*c+17)%2147483647=x at m1 m2 ⊢
   refine⟨_,rfl,_,rfl,_,_,rfl,rfl,_,_,rfl,rfl,⟨Ag (by omega) (by omega),Ag (by omega) (by omega)⟩,_,_,rfl,rfl,(by show(0:Int)<_;decide),?_⟩
   have q1:=Int.emod_nonneg (x*(x+40503)) (show(2147483629:Int)≠0 by decide)
   have q2:=Int.emod_lt_of_pos (x*(x+40503)) (show(0:Int)<2147483629 by decide)
   generalize (x*(x+40503))%2147483629=w' at q1 q2 ⊢
   refine⟨_,rfl,_,rfl,_,_,rfl,rfl,_,_,rfl,rfl,⟨Ag (by omega) (by omega),Ag (by omega) (by omega)⟩,_,_,rfl,rfl,(by show(0:Int)<_;decide),?_⟩
   refine⟨_,rfl,_,_,rfl,rfl,⟨by decide,by decide⟩,_,rfl,_,_,rfl,rfl,hm,?_⟩
   exact fin r _ _ (Int.emod_nonneg _ (by omega)) (Int.emod_lt_of_pos _ hm) AD KeepX.upd
  ·have hl:0<ns.length:=by
    have:¬ ns.length=0:=fun z=>c1 (decide_eq_true z)
    omega
   obtain⟨v0,hv0⟩:=G8 (ns:=ns) (r:=0) (by decide) (by omega)
   refine⟨_,rfl,a,_,_,_,rfl,rfl,hS1,hv0,_,_,rfl,rfl,(by show(0:Int)<_;decide),rfl,_,rfl,CA (fun c2=>?_) (fun c2=>?_)⟩
   ·obtain⟨v,hv⟩:=G8 (ns:=ns) (Int.emod_nonneg (c*3+1) (show(ns.length:Int)≠0 by omega)) (Int.emod_lt_of_pos (c*3+1) (show(0:Int)<ns.length by omega))
    refine⟨_,rfl,a,_,rfl,.inl hS1,_,_,rfl,rfl,true,congrArg V.bl (decide_eq_true (by rw[hlen];omega)),Ap ?_⟩
    refine⟨_,rfl,_,rfl,_,_,rfl,rfl,⟨Ag (by omega) (by omega),Ag (by decide) (by decide)⟩,_,_,rfl,rfl,_,rfl,a,_,rfl,.inl hS1,_,_,rfl,rfl,(by rw[hlen];omega),a,_,_,_,rfl,rfl,hS1,(by rw[hlen];exact hv),?_⟩
    have n1:=Int.emod_nonneg (v) (show(2147483629:Int)≠0 by decide)
    have n2:=Int.emod_lt_of_pos (v) (show(0:Int)<2147483629 by decide)
    refine⟨_,rfl,_,_,rfl,rfl,(by show(0:Int)<_;decide),_,rfl,_,_,rfl,rfl,⟨Ag (by decide) (by decide),Ag (by omega) (by omega)⟩,_,_,rfl,rfl,_,_,rfl,rfl,_,_,rfl,rfl,(by show(0:Int)<_;decide),?_⟩
    have m1:=Int.emod_nonneg ((v)%2147483629+69621*c+17) (show(2147483647:Int)≠0 by decide)
    have m2:=Int.emod_lt_of_pos ((v)%2147483629+69621*c+17) (show(0:Int)<2147483647 by decide)
    generalize ((v)%2147483629+69621*c+17)%2147483647=x at m1 m2 ⊢
    refine⟨_,rfl,_,rfl,_,_,rfl,rfl,_,_,rfl,rfl,⟨Ag (by omega) (by omega),Ag (by omega) (by omega)⟩,_,_,rfl,rfl,(by show(0:Int)<_;decide),?_⟩
    have q1:=Int.emod_nonneg (x*(x+40503)) (show(2147483629:Int)≠0 by decide)
    have q2:=Int.emod_lt_of_pos (x*(x+40503)) (show(0:Int)<2147483629 by decide)
    generalize (x*(x+40503))%2147483629=w' at q1 q2 ⊢
    refine⟨_,rfl,_,rfl,_,_,rfl,rfl,_,_,rfl,rfl,⟨Ag (by omega) (by omega),Ag (by omega) (by omega)⟩,_,_,rfl,rfl,(by show(0:Int)<_;decide),?_⟩
    refine⟨_,rfl,_,_,rfl,rfl,⟨by decide,by decide⟩,_,rfl,_,_,rfl,rfl,hm,?_⟩
    exact fin r _ _ (Int.emod_nonneg _ (by omega)) (Int.emod_lt_of_pos _ hm) AD KeepX.upd
   ·refine⟨_,rfl,_,_,rfl,rfl,(by show(0:Int)<_;decide),rfl,_,rfl,CA (fun c3=>?_) (fun c3=>?_)⟩
    ·refine⟨_,rfl,_,_,rfl,rfl,⟨by decide,by decide⟩,_,_,rfl,rfl,_,rfl,a,_,rfl,.inl hS1,_,_,rfl,rfl,_,rfl,CA (fun c4=>?_) (fun c4=>?_)⟩
     ·have c4':=of_decide_eq_true c4
      rw[hlen]at c4'
      obtain⟨v,hv⟩:=G8 (ns:=ns) (show 0≤1+c / 40 by omega) c4'
      refine⟨_,rfl,_,rfl,_,_,rfl,rfl,⟨by decide,by decide⟩,_,_,rfl,rfl,a,_,_,_,rfl,rfl,hS1,hv,?_⟩
      refine⟨_,rfl,_,rfl,_,_,rfl,rfl,⟨by omega,hz⟩,_,rfl,p,_,_,2,rfl,rfl,AD,rfl,?_⟩
      refine⟨_,rfl,_,rfl,_,_,rfl,rfl,hm,?_⟩
      exact fin _ _ _ (Int.emod_nonneg _ (by omega)) (Int.emod_lt_of_pos _ hm) AD (KeepX.trans KeepX.upd KeepX.upd)
     ·skip
      refine⟨_,rfl,_,rfl,_,_,rfl,rfl,⟨by omega,hz⟩,_,rfl,p,_,_,2,rfl,rfl,AD,rfl,?_⟩
      refine⟨_,rfl,_,rfl,_,_,rfl,rfl,hm,?_⟩
      exact fin _ _ _ (Int.emod_nonneg _ (by omega)) (Int.emod_lt_of_pos _ hm) AD (KeepX.trans KeepX.upd KeepX.upd)
    ·skip
     refine⟨_,rfl,_,rfl,_,_,rfl,rfl,⟨by omega,hz⟩,_,rfl,p,_,_,2,rfl,rfl,AD,rfl,?_⟩
     refine⟨_,rfl,_,rfl,_,_,rfl,rfl,hm,?_⟩
     exact fin _ _ _ (Int.emod_nonneg _ (by omega)) (Int.emod_lt_of_pos _ hm) AD (KeepX.trans KeepX.upd KeepX.upd)
theorem LA:AZ ["_law_script"] ["_law_script"] (AM Ey):=BD
theorem KE (T:Txt w K mg t):Az P w K mg base Bd 1 t.ac t.ad ["_law_script"] (R4 K):=by
 have D:=T.dx
 refine D.fn.okX LA ?_ (fun cdv A outer s H vs Q E hr h Z hZ=>?_)
 ·rintro _ _ _ _ ⟨a,ns,rfl,_⟩
  rfl
 ·obtain⟨a,ns,rfl,hS,h63,k⟩:=h
  refine hZ ⟨_,((AG (AJ (A8 (AA (AI 0) (AE AC (AE AC AB))))))),?_⟩
  try dsimp only[BC,Ar]
  exact⟨_,rfl,A6,fun p hp=>k p _ hp ⟨0,0,AD,(AH.new hp).seq hS,by decide,by decide,h63⟩ (AH.new hp)⟩
theorem LB:AZ ["thing"] ["thing"] (AM Ez):=BD
theorem DG (T:Txt w K mg t):Az P w K mg base Bd 1 t.ae t.af ["thing"] Oq:=by
 have D:=T.dy
 refine D.fn.okX LB ?_ (fun cdv A outer s H vs Q E hr h Z hZ=>?_)
 ·rintro _ _ _ _ ⟨i,rfl,_⟩
  rfl
 ·obtain⟨i,rfl,k⟩:=h
  refine hZ ⟨_,((AG (AJ (Aj (AK Ab (by rfl) T.fo AL (AA (AI 0) (AA (A1 T.fp G6) AB))) (Aw (KR (AK Ab (by rfl) T.fo AL (AA (AI 0) (AA (A1 T.fq Bb) AB))))))))),?_⟩
  try dsimp only[BC,Ar]
  refine⟨_,rfl,_,_,_,_,true,rfl,.int _,rfl,(fun _=>.inr trivial),Ax _ _,true,rfl,Ap ?_⟩
  exact⟨_,rfl,_,_,_,_,false,rfl,.int _,rfl,(fun _=>.inr trivial),T.hk,false,rfl,k⟩
theorem BK:AZ ["one","other","greater","lesser","rest"] ["one","other"] (AM B4):=BD
theorem Eg (T:Txt w K mg t):Az P w K mg base Bd 1 t.ag t.ah ["one","other"] UA:=by
 have D:=T.dz
 refine D.fn.okX BK ?_ (fun cdv A outer s H vs Q E hr h Z hZ=>?_)
 ·rintro _ _ _ _ ⟨a,b,rfl,_⟩
  rfl
 ·obtain⟨a,b,rfl,k⟩:=h
  refine hZ ⟨_,((AF (Al (i:=2) BK.nd rfl (Or.inl rfl) (AK Gj (by rfl) T.fz Gz (AA (AI 0) AB)))
   (AF (Al (i:=3) BK.nd rfl (Or.inl rfl) (AK Gj (by rfl) T.fz Gz (AA (AI 1) AB)))
   (AF (Gd PassesOwn.never (AV FD (AI 3) AC (AN _)) (AF (Al (i:=4) BK.nd rfl (Or.inl rfl) (A4 CS (AI 2) (AI 3)))
   (AF (Al (i:=2) BK.nd rfl (Or.inl rfl) (AI 3))
   (AG (Al (i:=3) BK.nd rfl (Or.inl rfl) (AI 4))))))
   (AG (AJ (AI 2))))))),?_⟩
  try dsimp only[BC,Ar]
  refine⟨_,rfl,a,rfl,_,rfl,b,rfl,?_⟩
  refine Mn (fun σ H'=>H'=H∧∃(m n:Nat) (r:Option V),σ=[some (.int a),some (.int b),some (.int m),some (.int n),r]∧Nat.gcd m n=Nat.gcd a.natAbs b.natAbs)
   (fun σ _=>Rs σ) ⟨rfl,a.natAbs,b.natAbs,none,by rw[← Ky a,← Ky b];rfl,rfl⟩ ?_ (fun σ H Q Q' hq ⟨v,e,z,c,e2,q⟩=>⟨v,e,z,c,e2,hq _ _ q⟩)
  rintro σ H' ⟨rfl,m,n,r,rfl,hg⟩
  refine⟨_,rfl,rfl,_,rfl,?_⟩
  refine CA (fun hc=>?_) (fun hc=>?_)
  ·have hn:n≠0:=by intro z;subst z;simp at hc
   refine⟨_,rfl,_,rfl,_,_,rfl,rfl,(by show(0:Int)<(n:Int);omega),_,rfl,_,rfl,?_⟩
   refine⟨⟨rfl,n,m%n,some (.int ((m:Int)%(n:Int))),?_,by rw[Nc];exact hg⟩,?_⟩
   ·rw[Int.natCast_emod];rfl
   ·show((m:Int)%(n:Int)).toNat<((n:Int)).toNat
    have h1:=Int.emod_lt_of_pos (m:Int) (show(0:Int)<n by omega)
    have h2:=Int.emod_nonneg (m:Int) (show(n:Int)≠0 by omega)
    omega
  ·have hn:n=0:=by
    rcases Nat.eq_zero_or_pos n with z | z
    ·exact z
    ·exfalso;apply hc;simp;omega
   subst hn
   rw[Nat.gcd_zero_right]at hg
   rw[← hg]at k
   exact⟨_,rfl,k⟩
theorem KF:AZ ["top","bottom"] ["top","bottom"] (AM EH):=BD
theorem JD (T:Txt w K mg t):Az P w K mg base Bd 2 t.ai t.aj ["top","bottom"] Rw:=by
 have D:=T.d0
 refine D.fn.okX KF ?_ (fun cdv A outer s H vs Q E hr h Z hZ=>?_)
 ·rintro _ _ _ _ ⟨t,b,rfl,_⟩
  rfl
 ·obtain⟨t,b,rfl,lo,k⟩:=h
  refine hZ ⟨_,((AG (AJ (Aj (Ae RM (AI 1) AC (AN _)) (Aw (Ae An (AO T.dz (Eg T) (BU hr) (AA (AI 0) (AA (AI 1) AB))) AC (AN _))))))),?_⟩
  try dsimp only[BC,Ar]
  have hp:=lo.pos
  refine⟨_,rfl,_,_,rfl,rfl,true,(by simp;omega),Ap ?_⟩
  exact⟨_,rfl,_,rfl,t,b,rfl,rfl,Ew (Q1 (by rw[lo.cop];rfl)) k⟩
theorem GE:AZ ["thing"] ["thing"] (AM CZ):=BD
theorem Bv (T:Txt w K mg t):Az P w K mg base Bd 1 t.ak t.al ["thing"] Ru:=by
 have D:=T.d1
 refine D.fn.okX GE ?_ (fun cdv A outer s H vs Q E hr h Z hZ=>?_)
 ·rintro _ _ _ _ ⟨z,rfl,_⟩
  rfl
 ·obtain⟨z,rfl,nm,k⟩:=h
  refine hZ ⟨_,((AF (Af (Bg (A7 (Av (AK Ab (by rfl) T.fo AL (AA (AI 0) (AA (A1 T.fr Br) AB))))) (Bg (AV Dv (AK Db (by rfl) T.fm PySem.boot_len (AA (AI 0) AB)) AC (AN _)) (Ba (AV Gg (AK Db (by rfl) T.fm PySem.boot_len (AA (AI 0) AB)) (BO T.f4) (AN _))))).pt (AG (AJ BV)) AR)
   (AG (AJ (AK (B0 rfl) (by rfl) T.fu B1 (Bp (Bh (fv:=[]) (js:=[]) (cl:=[]) rfl (by with_unfolding_all rfl) ⟨rfl,by nofun,by nofun,rfl,by nofun,by nofun,(List.forall_mem_nil _),(List.forall_mem_nil _),.nil⟩ (M5 (AI 0)) (fun _ _ _ _ _=>Bk) (fun _ _ _ _ _=>(Ae Nd (AI 0) (Lr T.f3) rfl))) AB)))))),?_⟩
  try dsimp only[BC,Ar]
  have h1:=nm.lo
  have h2:=nm.hi
  have hz:z.length≤sizeLine:=Ls (by omega)
  refine⟨_,rfl,_,_,_,_,true,rfl,.str _,rfl,(fun _=>.inr trivial),Ax _ _,true,rfl,AX ?_⟩
  refine⟨_,rfl,z,rfl,hz,_,_,rfl,rfl,false,(by simp;omega),AX ?_⟩
  refine⟨_,rfl,z,rfl,hz,_,_,rfl,rfl,false,(by simp;omega),AX ?_⟩
  refine⟨_,rfl,z,rfl,fun D hD=>?_⟩
  obtain⟨W,w0,turn⟩:=G7 (z:=z) (Str.ofString "abcdefghijklmnopqrstuvwxyz") (by omega) hD
  refine⟨W,w0,fun i m' H' w'=>?_⟩
  rcases turn i m' H' w' with⟨st,rfl⟩ | h
  case inr=>exact .inr ⟨h.1,fun x H2 y=>h.2 _ _ x H2 y⟩
  refine .inl ⟨st,?_⟩
  exact⟨D,_,rfl,A3.of AD,Ew (congrArg V.bl (IZ (Qd nm))) (k _ (AH.new hD))⟩
theorem KG:AZ ["thing","last"] ["thing","last"] (AM EI):=BD
theorem Bf (T:Txt w K mg t):Az P w K mg base Bd 2 t.am t.an ["thing","last"] Qe:=by
 have D:=T.d2
 refine D.fn.okX KG ?_ (fun cdv A outer s H vs Q E hr h Z hZ=>?_)
 ·rintro _ _ _ _ ⟨i,l,rfl,_⟩
  rfl
 ·obtain⟨i,l,rfl,h0,h1,k⟩:=h
  refine hZ ⟨_,((AG (AJ (Aj (AO T.dy (DG T) (BU hr) (AA (AI 0) AB)) (Aj (Ae DC AC (AI 0) (AN _)) (Aw (Ae DC (AI 0) (AI 1) (AN _)))))))),?_⟩
  try dsimp only[BC,Ar]
  refine⟨_,rfl,i,rfl,true,rfl,Ap ?_⟩
  refine⟨_,rfl,_,_,rfl,rfl,true,(by simp[h0]),Ap ?_⟩
  exact⟨_,rfl,_,rfl,_,_,rfl,rfl,Ew (by simp[h1]) k⟩
theorem Mb:AZ ["thing"] ["thing"] (AM Ft):=BD
theorem HV (T:Txt w K mg t):Az P w K mg base Bd 3 t.ao t.ap ["thing"] Rv:=by
 have D:=T.d3
 refine D.fn.okX Mb ?_ (fun cdv A outer s H vs Q E hr h Z hZ=>?_)
 ·rintro _ _ _ _ ⟨p,z,r,c,rfl,_⟩
  rfl
 ·obtain⟨p,z,r,c,rfl,hp,k⟩:=h
  refine hZ ⟨_,((AF (Af (Bg (A7 (Av (AK Ab (by rfl) T.fo AL (AA (AI 0) (AA (A1 T.fs Ay) AB))))) (Ba (AV FD (AK Ac (by rfl) T.fm PySem.boot_len (AA (AI 0) AB)) AC (AN _)))).pt (AG (AJ BV)) AR)
   (AG (AJ (Aj (AO T.d1 (Bv T) (BU hr) (AS (AW AY (AI 0) AC (fun _ _=>rfl)) AB)) (Aj (AO T.d2 (Bf T) (BU hr) (AS (AW AY (AI 0) AC (fun _ _=>rfl)) (AA (BO T.f5) AB))) (Aw (AO T.d2 (Bf T) (BU hr) (AS (AW AY (AI 0) AC (fun _ _=>rfl)) (AA (BO T.f6) AB)))))))))),?_⟩
  try dsimp only[BC,Ar]
  refine⟨_,rfl,_,_,_,_,true,rfl,.tup hp.ob,rfl,(fun _=>.inr trivial),Ax _ _,true,rfl,AX ?_⟩
  refine⟨_,rfl,p,_,rfl,.inr (Ao.of hp.ob),rfl,false,(by simp),AX ?_⟩
  refine⟨_,rfl,p,_,_,_,rfl,rfl,Ao.of hp.ob,rfl,z,rfl,hp.nm,fun H1 s1=>⟨true,rfl,Ap ?_⟩⟩
  have hp1:=hp.same s1
  refine⟨_,rfl,p,_,_,_,rfl,rfl,Ao.of hp1.ob,rfl,r,16,rfl,hp.r0,hp.r1,true,rfl,Ap ?_⟩
  exact⟨_,rfl,p,_,_,_,rfl,rfl,Ao.of hp1.ob,rfl,c,8,rfl,hp.c0,hp.c1,k _ s1⟩
theorem FS:AZ ["thing"] ["thing"] (AM CG):=BD
theorem Cv (T:Txt w K mg t):Az P w K mg base Bd 2 t.aq t.ar ["thing"] Rx:=by
 have D:=T.d4
 refine D.fn.okX FS ?_ (fun cdv A outer s H vs Q E hr h Z hZ=>?_)
 ·rintro _ _ _ _ ⟨i,rfl,_⟩
  rfl
 ·obtain⟨i,rfl,hi,k⟩:=h
  refine hZ ⟨_,((AG (AJ (Aj (AO T.dy (DG T) (BU hr) (AA (AI 0) AB)) (Aw (Ae DC (AK Gj (by rfl) T.fz Gz (AA (AI 0) AB)) (BO T.ga) (AN _))))))),?_⟩
  try dsimp only[BC,Ar]
  refine⟨_,rfl,i,rfl,true,rfl,Ap ?_⟩
  refine⟨_,rfl,i,rfl,_,_,rfl,rfl,Ew ?_ k⟩
  rw[Ky]
  simp
  omega
theorem FT:AZ ["top","bottom"] ["top","bottom"] (AM CH):=BD
theorem E7 (T:Txt w K mg t):Az P w K mg base Bd 3 t.au t.av ["top","bottom"] Ot:=by
 have D:=T.d5
 refine D.fn.okX FT ?_ (fun cdv A outer s H vs Q E hr h Z hZ=>?_)
 ·rintro _ _ _ _ ⟨t,b,rfl,_⟩
  rfl
 ·obtain⟨t,b,rfl,lo,ht,hb,k⟩:=h
  refine hZ ⟨_,((AG (AJ (Aj (AO T.d4 (Cv T) (BU hr) (AA (AI 0) AB)) (Aj (AO T.d4 (Cv T) (BU hr) (AA (AI 1) AB)) (Aw (AO T.d0 (JD T) (BU hr) (AA (AI 0) (AA (AI 1) AB))))))))),?_⟩
  try dsimp only[BC,Ar]
  refine⟨_,rfl,t,rfl,ht,true,rfl,Ap ?_⟩
  refine⟨_,rfl,b,rfl,hb,true,rfl,Ap ?_⟩
  exact⟨_,rfl,_,rfl,t,b,rfl,lo,k⟩
theorem Mc:AZ ["thing"] ["thing"] (AM Fu):=BD
theorem LC (T:Txt w K mg t):Az P w K mg base Bd 1 t.aw t.ax ["thing"] Ry:=by
 have D:=T.d6
 refine D.fn.okX Mc ?_ (fun cdv A outer s H vs Q E hr h Z hZ=>?_)
 ·rintro _ _ _ _ ⟨z,rfl,_⟩
  rfl
 ·obtain⟨z,rfl,ok,k⟩:=h
  refine hZ ⟨_,((AF (Af (Bg (A7 (Av (AK Ab (by rfl) T.fo AL (AA (AI 0) (AA (A1 T.fr Br) AB))))) (Ba (AV Gg (AK Db (by rfl) T.fm PySem.boot_len (AA (AI 0) AB)) (BO T.f9) (AN _)))).pt (AG (AJ BV)) AR)
   (AG (AJ (AK (B0 rfl) (by rfl) T.fu B1 (Bp (Bh (fv:=[]) (js:=[]) (cl:=[]) rfl (by with_unfolding_all rfl) ⟨rfl,by nofun,by nofun,rfl,by nofun,by nofun,(List.forall_mem_nil _),(List.forall_mem_nil _),.nil⟩ (M5 (AI 0)) (fun _ _ _ _ _=>Bk) (fun _ _ _ _ _=>(Ae Nd (AI 0) (Lr T.f7) rfl))) AB)))))),?_⟩
  try dsimp only[BC,Ar]
  have h2:=ok.1
  have hz:z.length≤sizeLine:=Ls (by omega)
  refine⟨_,rfl,_,_,_,_,true,rfl,.str _,rfl,(fun _=>.inr trivial),Ax _ _,true,rfl,AX ?_⟩
  refine⟨_,rfl,z,rfl,hz,_,_,rfl,rfl,false,(by simp;omega),AX ?_⟩
  refine⟨_,rfl,z,rfl,fun D hD=>?_⟩
  obtain⟨W,w0,turn⟩:=G7 (z:=z) (Str.ofString "abcdefghijklmnopqrstuvwxyz0123456789 ") (by omega) hD
  refine⟨W,w0,fun i m' H' w'=>?_⟩
  rcases turn i m' H' w' with⟨st,rfl⟩ | h
  case inr=>exact .inr ⟨h.1,fun x H2 y=>h.2 _ _ x H2 y⟩
  refine .inl ⟨st,?_⟩
  exact⟨D,_,rfl,A3.of AD,Ew (congrArg V.bl (IZ ok.2)) (k _ (AH.new hD))⟩
theorem GF:AZ ["thing"] ["thing"] (AM Ca):=BD
theorem Fx (T:Txt w K mg t):Az P w K mg base Bd 1 t.ay t.az ["thing"] UB:=by
 have D:=T.d7
 refine D.fn.okX GF ?_ (fun cdv A outer s H vs Q E hr h Z hZ=>?_)
 ·rintro _ _ _ _ ⟨w,rfl,_⟩
  rfl
 ·obtain⟨w,rfl,hw,k⟩:=h
  refine hZ ⟨_,((AG (AJ (Aj (AK Ab (by rfl) T.fo AL (AA (AI 0) (AA (A1 T.fr Br) AB))) (Aw (Ae EY (AI 0) (GT T.f8) rfl)))))),?_⟩
  try dsimp only[BC,Ar]
  refine⟨_,rfl,_,_,_,_,true,rfl,.str _,rfl,(fun _=>.inr trivial),Ax _ _,true,rfl,Ap ?_⟩
  exact⟨_,rfl,fun a ha=>⟨a,_,rfl,.inr (ha _),rfl,J3,Ew (by rw[Ng hw];rfl) k⟩⟩
theorem HW:AZ ["thing","kind"] ["thing"] (AM E1):=BD
theorem F3 (T:Txt w K mg t):Az P w K mg base Bd 4 t.a0 t.a1 ["thing"] ST:=by
 have D:=T.d8
 refine D.fn.okX HW (fun vs H Q E h=>?_) (fun cdv A outer s H vs Q E hr h Z hZ=>?_)
 ·rcases h with⟨p,v,rfl,_⟩ | ⟨a,u,rfl,_⟩
  ·rfl
  ·rfl
 ·have hu:=hr.units0
  refine hZ ⟨_,((AF (Af (Bg (A7 (Av (AK Ab (by rfl) T.fo AL (AA (AI 0) (AA (A1 T.fs Ay) AB))))) (Bg (AV An (AK Ac (by rfl) T.fm PySem.boot_len (AA (AI 0) AB)) AC (AN _)) (Ba (A7 (Av (AK Ab (by rfl) T.fo AL (AS (AW AY (AI 0) AC (fun _ _=>rfl)) (AA (A1 T.fr Br) AB)))))))).pt (AG (AJ BV)) AR)
   (AF (Al (i:=1) HW.nd rfl (Or.inl rfl) (AW AY (AI 0) AC (fun _ _=>rfl)))
   (AF (Af (AV An (AI 1) AU (AN _)) (AG (AJ (Ae An (AK Ac (by rfl) T.fm PySem.boot_len (AA (AI 0) AB)) AC (AN _)))) AR)
   (AF (Af (AV An (AI 1) AU (AN _)) (AG (AJ (Aj (Ae An (AK Ac (by rfl) T.fm PySem.boot_len (AA (AI 0) AB)) AC (AN _)) (Aw (AO T.d5 (E7 T) (BU hr) (AS (AW AY (AI 0) AC (fun _ _=>rfl)) (AS (AW AY (AI 0) AC (fun _ _=>rfl)) AB))))))) AR)
   (AF (Af (AV An (AI 1) AU (AN _)) (AG (AJ (Aj (Ae An (AK Ac (by rfl) T.fm PySem.boot_len (AA (AI 0) AB)) AC (AN _)) (Aw (AO T.d6 (LC T) (BU hr) (AS (AW AY (AI 0) AC (fun _ _=>rfl)) AB)))))) AR)
   (AF (Af (AV An (AI 1) AU (AN _)) (AG (AJ (Aj (Ae An (AK Ac (by rfl) T.fm PySem.boot_len (AA (AI 0) AB)) AC (AN _)) (Aw (AK Ab (by rfl) T.fo AL (AS (AW AY (AI 0) AC (fun _ _=>rfl)) (AA (A1 T.fq Bb) AB))))))) AR)
   (AF (Af (AV An (AI 1) AU (AN _)) (AG (AJ (Aj (Ae An (AK Ac (by rfl) T.fm PySem.boot_len (AA (AI 0) AB)) AC (AN _)) (Aj (AO T.d7 (Fx T) (BU hr) (AS (AW AY (AI 0) AC (fun _ _=>rfl)) AB)) (Aw (AO T.d3 (HV T) (BU hr) (AS (AW AY (AI 0) AC (fun _ _=>rfl)) AB))))))) AR)
   (AG (AJ BV)))))))))),?_⟩
  try dsimp only[BC,Ar]
  rcases h with⟨p,v,rfl,ok,hp,k⟩ | ⟨a,u,rfl,ha,k⟩
  rotate_left
  ·refine⟨_,rfl,_,_,_,_,true,rfl,.tup ha,rfl,(fun _=>.inr trivial),Ax _ _,true,rfl,AX ?_⟩
   refine⟨_,rfl,a,_,rfl,.inr (Ao.of ha),rfl,false,(by simp),AX ?_⟩
   refine⟨_,rfl,a,_,_,_,rfl,rfl,Ao.of ha,rfl,_,_,_,_,true,rfl,.str _,rfl,(fun _=>.inr trivial),Ax _ _,true,rfl,AX ?_⟩
   refine⟨_,rfl,a,_,_,_,rfl,rfl,Ao.of ha,rfl,?_⟩
   refine⟨_,rfl,rfl,false,(by nofun),AX ?_⟩
   refine⟨_,rfl,rfl,false,(by nofun),AX ?_⟩
   refine⟨_,rfl,rfl,false,(by nofun),AX ?_⟩
   refine⟨_,rfl,rfl,false,(by nofun),AX ?_⟩
   refine⟨_,rfl,rfl,false,(by nofun),AX ?_⟩
   exact k
  cases v with
  | none=>
   have ob:H p=some (.tup [.str (Str.ofString "none")]):=hp
   refine⟨_,rfl,_,_,_,_,true,rfl,.tup ob,rfl,(fun _=>.inr trivial),Ax _ _,true,rfl,AX ?_⟩
   refine⟨_,rfl,p,_,rfl,.inr (Ao.of ob),rfl,false,(by simp),AX ?_⟩
   refine⟨_,rfl,p,_,_,_,rfl,rfl,Ao.of ob,rfl,_,_,_,_,true,rfl,.str _,rfl,(fun _=>.inr trivial),Ax _ _,true,rfl,AX ?_⟩
   refine⟨_,rfl,p,_,_,_,rfl,rfl,Ao.of ob,rfl,?_⟩
   refine⟨_,rfl,rfl,true,(by nofun),Ap ?_⟩
   exact⟨_,rfl,p,_,rfl,.inr (Ao.of ob),rfl,Ew (Q1 rfl) (k _ (AH.refl _))⟩
  | num t b=>
   have ob:H p=some (.tup [.str (Str.ofString "number"),.int t,.int b]):=hp
   refine⟨_,rfl,_,_,_,_,true,rfl,.tup ob,rfl,(fun _=>.inr trivial),Ax _ _,true,rfl,AX ?_⟩
   refine⟨_,rfl,p,_,rfl,.inr (Ao.of ob),rfl,false,(by simp),AX ?_⟩
   refine⟨_,rfl,p,_,_,_,rfl,rfl,Ao.of ob,rfl,_,_,_,_,true,rfl,.str _,rfl,(fun _=>.inr trivial),Ax _ _,true,rfl,AX ?_⟩
   refine⟨_,rfl,p,_,_,_,rfl,rfl,Ao.of ob,rfl,?_⟩
   refine⟨_,rfl,rfl,false,(by nofun),AX ?_⟩
   refine⟨_,rfl,rfl,true,(by nofun),Ap ?_⟩
   refine⟨_,rfl,p,_,rfl,.inr (Ao.of ob),rfl,true,Q1 rfl,Ap ?_⟩
   exact⟨_,rfl,p,_,_,_,rfl,rfl,Ao.of ob,rfl,_,rfl,p,_,_,_,rfl,rfl,Ao.of ob,rfl,t,b,rfl,ok.1,ok.2.1,ok.2.2,k _ (AH.refl _)⟩
  | txt z=>
   have ob:H p=some (.tup [.str (Str.ofString "text"),.str z]):=hp
   refine⟨_,rfl,_,_,_,_,true,rfl,.tup ob,rfl,(fun _=>.inr trivial),Ax _ _,true,rfl,AX ?_⟩
   refine⟨_,rfl,p,_,rfl,.inr (Ao.of ob),rfl,false,(by simp),AX ?_⟩
   refine⟨_,rfl,p,_,_,_,rfl,rfl,Ao.of ob,rfl,_,_,_,_,true,rfl,.str _,rfl,(fun _=>.inr trivial),Ax _ _,true,rfl,AX ?_⟩
   refine⟨_,rfl,p,_,_,_,rfl,rfl,Ao.of ob,rfl,?_⟩
   refine⟨_,rfl,rfl,false,(by nofun),AX ?_⟩
   refine⟨_,rfl,rfl,false,(by nofun),AX ?_⟩
   refine⟨_,rfl,rfl,true,(by nofun),Ap ?_⟩
   refine⟨_,rfl,p,_,rfl,.inr (Ao.of ob),rfl,true,Q1 rfl,Ap ?_⟩
   exact⟨_,rfl,p,_,_,_,rfl,rfl,Ao.of ob,rfl,z,rfl,ok,k⟩
  | tru b=>
   have ob:H p=some (.tup [.str (Str.ofString "truth"),.bl b]):=hp
   refine⟨_,rfl,_,_,_,_,true,rfl,.tup ob,rfl,(fun _=>.inr trivial),Ax _ _,true,rfl,AX ?_⟩
   refine⟨_,rfl,p,_,rfl,.inr (Ao.of ob),rfl,false,(by simp),AX ?_⟩
   refine⟨_,rfl,p,_,_,_,rfl,rfl,Ao.of ob,rfl,_,_,_,_,true,rfl,.str _,rfl,(fun _=>.inr trivial),Ax _ _,true,rfl,AX ?_⟩
   refine⟨_,rfl,p,_,_,_,rfl,rfl,Ao.of ob,rfl,?_⟩
   refine⟨_,rfl,rfl,false,(by nofun),AX ?_⟩
   refine⟨_,rfl,rfl,false,(by nofun),AX ?_⟩
   refine⟨_,rfl,rfl,false,(by nofun),AX ?_⟩
   refine⟨_,rfl,rfl,true,(by nofun),Ap ?_⟩
   refine⟨_,rfl,p,_,rfl,.inr (Ao.of ob),rfl,true,Q1 rfl,Ap ?_⟩
   exact⟨_,rfl,p,_,_,_,rfl,rfl,Ao.of ob,rfl,_,_,_,_,true,rfl,.bl _,rfl,(fun _=>.inr trivial),Ax _ _,k _ (AH.refl _)⟩
  | flt w z r c=>
   obtain⟨hw,nm,r0,r1,c0,c1⟩:=ok
   obtain⟨q,ob,oq⟩:=hp
   refine⟨_,rfl,_,_,_,_,true,rfl,.tup ob,rfl,(fun _=>.inr trivial),Ax _ _,true,rfl,AX ?_⟩
   refine⟨_,rfl,p,_,rfl,.inr (Ao.of ob),rfl,false,(by simp),AX ?_⟩
   refine⟨_,rfl,p,_,_,_,rfl,rfl,Ao.of ob,rfl,_,_,_,_,true,rfl,.str _,rfl,(fun _=>.inr trivial),Ax _ _,true,rfl,AX ?_⟩
   refine⟨_,rfl,p,_,_,_,rfl,rfl,Ao.of ob,rfl,?_⟩
   refine⟨_,rfl,rfl,false,(by nofun),AX ?_⟩
   refine⟨_,rfl,rfl,false,(by nofun),AX ?_⟩
   refine⟨_,rfl,rfl,false,(by nofun),AX ?_⟩
   refine⟨_,rfl,rfl,false,(by nofun),AX ?_⟩
   refine⟨_,rfl,rfl,true,(by nofun),Ap ?_⟩
   refine⟨_,rfl,p,_,rfl,.inr (Ao.of ob),rfl,true,Q1 rfl,Ap ?_⟩
   refine⟨_,rfl,p,_,_,_,rfl,rfl,Ao.of ob,rfl,w,rfl,hw,true,rfl,Ap ?_⟩
   exact⟨_,rfl,p,_,_,_,rfl,rfl,Ao.of ob,rfl,q,z,r,c,rfl,⟨oq,nm,r0,r1,c0,c1⟩,k⟩
theorem JE (T:Txt w K mg t):Az P w K mg base Bd 4 t.a0 t.a1 ["thing"] PX:=by
 exact(F3 T).imp fun _ _ _ _ h=>.inl h
theorem LE:AZ ["formula"] ["formula"] (AM E2):=BD
theorem F4 (T:Txt w K mg t):Az P w K mg base Bd 1 t.a2 t.a3 ["formula"] PY:=by
 have D:=T.d9
 refine D.fn.okX LE ?_ (fun cdv A outer s H vs Q E hr h Z hZ=>?_)
 ·rintro _ _ _ _ ⟨v,f,pr,n,rfl,_⟩
  rfl
 ·obtain⟨v,f,pr,n,rfl,hv,fo,k⟩:=h
  refine hZ ⟨_,((AF (Af (AV An (AW AY (AI 0) AC (fun _ _=>rfl)) AU (AN _)) (AG (AJ (BH Bt (by rfl) T.ft Bj (AS (AW AY (AI 0) AC (fun _ _=>rfl)) AB)))) AR)
   (AG (AJ (Bh (fv:=["formula"]) (js:=[0]) (cl:=[("formula",s.heap.objs.size+1)]) rfl (by with_unfolding_all rfl) ⟨rfl,by nofun,by nofun,rfl,by nofun,by nofun,(List.forall_mem_cons.mpr ⟨⟨rfl,rfl,rfl⟩,(List.forall_mem_nil _)⟩),(List.forall_mem_cons.mpr ⟨rfl,(List.forall_mem_nil _)⟩),(.cons rfl .nil)⟩ (Ml (Jj (OS T.gk) (AW AY (AI 0) AC (fun _ _=>rfl)) (Ai AB) ⟨rfl,rfl,rfl,rfl⟩)) (fun _ _ _ _ _=>Bk) (fun _ _ _ _ _=>(AW GO (AI 1) (AI 0) (fun _ _=>rfl)))))))),?_⟩
  try dsimp only[BC,Ar]
  cases hv with
  | @lf a l hl=>
   obtain⟨w,r,ha,h1,h2,_⟩:=hl.pp
   refine⟨_,rfl,a,_,_,_,rfl,rfl,Ao.of ha,A0,rfl,false,h1,AX ?_⟩
   refine fun pa kvs hk hp=>⟨pa,kvs,rfl,hk,_,rfl,a,_,_,_,rfl,rfl,Ao.of ha,A0,Nat.zero_le _,fun e he=>⟨Sum.inr w,rfl,?_⟩⟩
   rw[Lv hp h2]
   have s1:=AH.new (o:=.tup []) he
   have sq:∀ ws D,upd H e (.tup []) D=none→Ao K (upd (upd H e (.tup [])) D (.lst ws)) e []:=fun ws D hD=>Ao.of (AH.new hD _ _ AD)
   refine⟨e,rfl,⟨_,Ao.of AD⟩,fun D hD=>?_⟩
   refine⟨fun i m H4=>i=0∧H4=upd (upd H e (.tup [])) D (.lst []),⟨0,rfl,rfl⟩,?_⟩
   rintro i m H4 ⟨rfl,rfl⟩
   refine .inl ⟨⟨[],sq _ _ hD,Nat.le_refl _⟩,?_⟩
   exact k D [] _ (AH.back0 s1 hD) AD .nil (s1.trans (AH.new hD))
  | @nd a t kd us ps ha ht hl hh=>
   cases fo with
   | nd ok hps=>
   obtain⟨r0,er⟩:=Nj t kd us
   have ha0:H a=some (.tup (.str (kw kd)::r0)):=by rw[ha,er]
   have fm:=Bi.parts hl hh
   cases ho:G9 kd with
   | true=>
    obtain⟨z,rfl⟩:∃ z,kd=.own z:=by cases kd <;> first | exact⟨_,rfl⟩ | cases ho
    replace ha:H a=some (.tup [vS "own",.str z,.ref t]):=ha
    refine⟨_,rfl,a,_,_,_,rfl,rfl,Ao.of ha,A0,rfl,true,(by nofun),Ap ?_⟩
    refine⟨_,rfl,a,_,_,_,rfl,rfl,Ao.of ha,Cl,t,us,rfl,.inr (Ao.of (ht rfl)),fun d hd=>?_⟩
    exact k d us _ hd AD (Bn.kp fm (Kp.same (AH.new hd))) (AH.new hd)
   | false=>
    obtain⟨pl,hpl,lpl,hat⟩:=Qg (t:=t) (us:=us) (by rw[hl];exact ok) ho
    have l3:=ok.le
    refine⟨_,rfl,a,_,_,_,rfl,rfl,Ao.of ha0,A0,rfl,false,congrArg V.bl ((Qf ok).trans ho),AX ?_⟩
    refine fun pa kvs hk hp=>⟨pa,kvs,rfl,hk,_,rfl,a,_,_,_,rfl,rfl,Ao.of ha0,A0,Nat.zero_le _,fun e he=>⟨Sum.inr (kw kd),rfl,?_⟩⟩
    obtain⟨b,hb,hsq⟩:=Nk hp hpl
    rw[hb]
    have s1:=AH.new (o:=.tup []) he
    have nsl:∀{D:Addr},upd H e (.tup []) D=none→H D=none:=fun {D} h=>AH.back0 s1 h
    generalize upd H e (.tup [])=H2 at *
    refine⟨b,rfl,⟨_,hsq _⟩,fun D hD=>?_⟩
    have sD:∀ ws,AH H2 (upd H2 D (.lst ws)):=fun ws=>AH.new hD
    refine⟨fun i m H4=>m=us.length-i∧i≤us.length∧H4=upd H2 D (.lst (us.take i)),⟨us.length,rfl,Nat.zero_le _,rfl⟩,?_⟩
    rintro i m H4 ⟨rfl,hi,rfl⟩
    by_cases hlt:i<us.length
    ·obtain⟨p,u,hp1,hu1',hat1⟩:=hat i hlt
     have hx1:(pl.map fun(p:Nat)=>V.int p)[i]?=some (.int p):=by rw[List.getElem?_map,hp1];rfl
     refine .inr ⟨⟨_,_,hsq _,hx1⟩,fun x H' y=>?_⟩
     obtain⟨e,y⟩:=y
     subst e
     have hx:=y _ (hsq _)
     rw[hx1]at hx
     cases hx
     refine⟨_,rfl,_,rfl,a,_,_,_,rfl,rfl,Ao.of (sD _ _ _ (s1 _ _ ha)),hat1,_,AD,CP (by rw[List.length_take];omega),us.length-(i+1),(by omega),rfl,hlt,?_⟩
     rw[GN,List.take_add_one,hu1'];rfl
    have ei:i=us.length:=by omega
    subst ei
    refine .inl ⟨⟨_,hsq _,(by rw[List.length_map,lpl];exact Nat.le_refl _)⟩,?_⟩
    rw[List.take_length]
    have s3:=s1.trans (sD us)
    exact k D us _ (nsl hD) AD (Bn.kp fm (Kp.same s3)) s3
theorem JF (T:Txt w K mg t):Az P w K mg base Bd 1 t.a2 t.a3 ["formula"] PY:=by
 exact F4 T
theorem DH:AZ ["formula","waiting","row","part"] ["formula"] (AM EJ):=BD
theorem FU (T:Txt w K mg t):Az P w K mg base Bd 2 t.a4 t.a5 ["formula"] R1:=by
 have D:=T.ea
 refine D.fn.okX DH ?_ (fun cdv A outer s H vs Q E hr h Z hZ=>?_)
 ·rintro _ _ _ _ ⟨v,f,pr,n,rfl,_⟩
  rfl
 ·obtain⟨v,f,pr,n,rfl,hv,fo,h8,k⟩:=h
  refine hZ ⟨_,((AF (Al (i:=1) DH.nd rfl (Or.inl rfl) (A8 (AA (AI 0) AB)))
   (AF (Al (i:=2) DH.nd rfl (Or.inl rfl) (A8 AB))
   (AF (Gd PassesOwn.never (AV Gg (AK Ac (by rfl) T.fm PySem.boot_len (AA (AI 1) AB)) AC (AN _)) (AF (Al (i:=3) DH.nd rfl (Or.inl rfl) (Ms PySem.F.plainAttrs_list PySem.F.slot_list_pop PySem.F.type_list_pop Pz (AI 1)))
   (AF (EV (IK PySem.F.plainAttrs_list PySem.F.slot_list_append PySem.F.type_list_append Ch (AI 2) (AA (AI 3) AB)))
   (AG (EV (IK PySem.F.plainAttrs_list PySem.F.slot_list_extend PySem.F.type_list_extend MA (AI 1) (Aq (AO T.d9 (F4 T) (BU hr) (AA (AI 3) AB)) AB)))))))
   (AG (AJ (Kk rfl (by rfl) T.ft Bj (by rfl) T.f0 (AI 2)))))))),?_⟩
  try dsimp only[BC,Ar]
  have bd:=Qi fo h8
  refine⟨_,rfl,EF,fun l hl=>?_⟩
  have s0:=AH.new (o:=.lst [v]) hl
  have hl1:upd H l (.lst [v]) l=some (.lst [v]):=AD
  have hv1:=Bi.kp hv (Kp.same s0)
  generalize upd H l (.lst [v])=H1 at *
  refine⟨Nat.zero_le _,fun r hr'=>?_⟩
  have s1:=AH.new (o:=.lst []) hr'
  have nlr:l≠r:=fun z=>by rw[← z,hl1]at hr';cases hr'
  have hr0:H r=none:=by
   cases c:H r with
   | none=>rfl
   | some o=>rw[s0 _ _ c]at hr';cases hr'
  refine⟨fun m σ H5=>∃(vs rs:List V) (fs gs:List Fm) (x:Option V),σ=[some v,some (.ref l),some (.ref r),x]∧H5 l=some (.lst vs)∧H5 r=some (.lst rs)∧Bn H5 vs fs∧Bn H5 rs gs∧(∀ g∈fs,FO pr n g)∧DA fs=m∧GD fs++gs.reverse=K1 f∧AH H H5,
   ⟨Cm f,_,_,[f],[],none,rfl,s1 _ _ hl1,AD,.cons (Bi.kp hv1 (Kp.same s1)) .nil,.nil,(fun g hg=>by rw[List.mem_singleton.mp hg];exact fo),(by rw[DA,DA];omega),(by rw[GD,GD];simp),fun b o e=>s1 _ _ (s0 _ _ e)⟩,?_⟩
  rintro m σ H5 ⟨vs,rs,fs,gs,x,rfl,hl5,hr5,fm5,gm5,good,hm,him,s5⟩
  refine⟨_,rfl,l,_,rfl,.inl (A3.of hl5),_,_,rfl,rfl,_,rfl,?_⟩
  rcases List.eq_nil_or_concat vs with rfl | ⟨vs',y,hvs⟩
  ·have e0:fs=[]:=List.length_eq_zero_iff.mp (Paired.length fm5).symm
   subst e0
   refine AX ⟨_,rfl,r,rs,rfl,A3.of hr5,fun lq hlq=>?_⟩
   have e1:gs.reverse=K1 f:=by rw[← him,GD,List.nil_append]
   have s6:=AH.new (o:=.lst rs.reverse) hlq
   have hq0:H lq=none:=by
    cases c:H lq with
    | none=>rfl
    | some o=>rw[s5 _ _ c]at hlq;cases hlq
   exact k lq rs.reverse _ hq0 AD (by rw[← e1];exact UF (Bn.kp gm5 (Kp.same s6))) fun b o e=>s6 _ _ (s5 _ _ e)
  have hvs:vs=vs'++[y]:=by rw[hvs,List.concat_eq_append]
  subst hvs
  obtain⟨fs',g,rfl,fm',hg⟩:=Qh fm5
  have fg:=good g (by simp)
  have hsz:DA fs'+(1+DA (Fo g))=m:=by
   rw[← hm,GU,DA,DA,Ix g];omega
  have hne:decide ((0:Int)<((vs'++[y]).length:Int))=true:=decide_eq_true (by rw[List.length_append,List.length_singleton];omega)
  rw[hne]
  refine Ap ⟨fun σ' H'=>∃ m',m'<m∧∃(vs rs:List V) (fs gs:List Fm) (x:Option V),σ'=[some v,some (.ref l),some (.ref r),x]∧H' l=some (.lst vs)∧H' r=some (.lst rs)∧Bn H' vs fs∧Bn H' rs gs∧(∀ g∈fs,FO pr n g)∧DA fs=m'∧GD fs++gs.reverse=K1 f∧AH H H',fun _ _ z=>z,?_⟩
  refine⟨_,rfl,.inl ⟨rfl,_,A3.of hl5⟩,l,_,y,rfl,rfl,hl5,(by simp),?_⟩
  rw[List.dropLast_concat]
  have t7:Kp H5 (upd H5 l (.lst vs')):=Kp.lst hl5 KeepX.upd
  have hl7:upd H5 l (.lst vs') l=some (.lst vs'):=AD
  have hr7:upd H5 l (.lst vs') r=some (.lst rs):=by rw[AT nlr.symm];exact hr5
  have fm7:=Bn.kp fm' t7
  have gm7:=Bn.kp gm5 t7
  have hg7:=Bi.kp hg t7
  have s7:AH H (upd H5 l (.lst vs')):=fun b o e=>by rw[AT (Aa e hl)];exact s5 _ _ e
  generalize upd H5 l (.lst vs')=H7 at *
  have n0:(GD (fs'++[g])).length+gs.length=Cm f:=by rw[← GV f,← him,List.length_append,List.length_reverse]
  rw[I0]at n0
  have n00:rs.length=gs.length:=Paired.length gm5
  refine⟨_,rfl,.inl ⟨rfl,_,A3.of hr7⟩,_,rfl,r,rs,y,rfl,rfl,hr7,UV (by omega),?_⟩
  have t8:Kp H7 (upd H7 r (.lst (rs++[y]))):=Kp.lst hr7 KeepX.upd
  have hl8:upd H7 r (.lst (rs++[y])) l=some (.lst vs'):=by rw[AT nlr];exact hl7
  have hr8:upd H7 r (.lst (rs++[y])) r=some (.lst (rs++[y])):=AD
  have fm8:=Bn.kp fm7 t8
  have hg8:=Bi.kp hg7 t8
  have gm8:Bn _ (rs++[y]) (gs++[g]):=Hm (Bn.kp gm7 t8) (.cons hg8 .nil)
  have s8:AH H (upd H7 r (.lst (rs++[y]))):=fun b o e=>by rw[AT (Aa e hr0)];exact s7 _ _ e
  generalize upd H7 r (.lst (rs++[y]))=H8 at *
  refine⟨_,rfl,.inl ⟨rfl,_,A3.of hl8⟩,_,rfl,y,g,pr,n,rfl,hg8,fg,fun lp ws HA hlp0 hlp fmp sA=>?_⟩
  have n1:vs'.length=fs'.length:=Paired.length fm7
  have n2:ws.length=(Fo g).length:=Paired.length fmp
  have n3:=Iy fs'
  have n4:=Iy (Fo g)
  have n5:DA (fs'++[g])=DA fs'+(1+DA (Fo g)):=by rw[GU,DA,DA,Ix g];omega
  have hlA:=sA _ _ hl8
  have hrA:=sA _ _ hr8
  refine⟨l,lp,vs',ws,rfl,rfl,hlA,hlp,UV (by omega),?_⟩
  have tB:Kp HA (upd HA l (.lst (vs'++ws))):=Kp.lst hlA KeepX.upd
  refine⟨DA fs'+DA (Fo g),(by omega),vs'++ws,rs++[y],fs'++Fo g,gs++[g],_,rfl,AD,(by rw[AT nlr.symm];exact hrA),Hm (Bn.kp fm8 ((Kp.same sA).trans tB)) (Bn.kp fmp tB),Bn.kp gm8 ((Kp.same sA).trans tB),fun x hx=>?_,GU _ _,?_,fun b o e=>?_⟩
  ·rcases List.mem_append.mp hx with q | q
   ·exact good x (List.mem_append.mpr (.inl q))
   ·exact fg.prt x q
  ·rw[← him,Iz,Iz,GD,GD,Ov g];simp
  ·rw[AT (Aa e hl)];exact sA _ _ (s8 _ _ e)
theorem Hq:AZ ["formula"] ["formula"] (AM DM):=BD
theorem HX (T:Txt w K mg t):Az P w K mg base Bd 3 t.a6 t.a7 ["formula"] R0:=by
 have D:=T.eb
 refine D.fn.okX Hq ?_ (fun cdv A outer s H vs Q E hr h Z hZ=>?_)
 ·rintro _ _ _ _ ⟨v,f,pr,n,rfl,_⟩
  rfl
 ·obtain⟨v,f,pr,n,rfl,hv,fo,h8,k⟩:=h
  refine hZ ⟨_,((AG (AJ (AK Ac (by rfl) T.fm PySem.boot_len (Aq (AO T.ea (FU T) (BU hr) (AA (AI 0) AB)) AB))))),?_⟩
  try dsimp only[BC,Ar]
  refine⟨_,rfl,v,f,pr,n,rfl,hv,fo,h8,fun l ws H' hl0 hl fm s=>?_⟩
  have e:ws.length=Cm f:=by rw[Paired.length fm,GV]
  refine⟨l,ws,rfl,.inl (A3.of hl),?_⟩
  rw[e]
  exact k _ s
theorem FW:AZ ["thing"] ["thing"] (AM CI):=BD
theorem B7 (T:Txt w K mg t):Az P w K mg base Bd 2 t.a8 t.a9 ["thing"] R9:=by
 have D:=T.ec
 refine D.fn.okX FW ?_ (fun cdv A outer s H vs Q E hr h Z hZ=>?_)
 ·rintro _ _ _ _ ⟨z,rfl,_⟩
  rfl
 ·obtain⟨z,rfl,nm,rs,k⟩:=h
  refine hZ ⟨_,((AG (AJ (Aj (AO T.d1 (Bv T) (BU hr) (AA (AI 0) AB)) (Aw (Ae Ih (AI 0) (GT T.gg) rfl)))))),?_⟩
  try dsimp only[BC,Ar]
  refine⟨_,rfl,z,rfl,nm,fun H1 s1=>⟨true,rfl,Ap ?_⟩⟩
  exact⟨_,rfl,fun b hb=>⟨b,_,rfl,.inr (hb _),rfl,Np,Ew (by rw[if_pos rfl,Ox rs];rfl) (k _ s1)⟩⟩
theorem KH:AZ ["thing","texts"] ["thing","texts"] (AM EK):=BD
theorem FX (T:Txt w K mg t):Az P w K mg base Bd 1 t.ba t.bb ["thing","texts"] (SA K):=by
 have D:=T.ed
 refine D.fn.okX KH ?_ (fun cdv A outer s H vs Q E hr h Z hZ=>?_)
 ·rintro _ _ _ _ ⟨z,b,ys,rfl,_⟩
  rfl
 ·obtain⟨z,b,ys,rfl,hb,hf,hi,k⟩:=h
  refine hZ ⟨_,((AG (AJ (Aj (AK Ab (by rfl) T.fo AL (AA (AI 0) (AA (A1 T.fr Br) AB))) (Aw (Ae EY (AI 0) (AI 1) rfl)))))),?_⟩
  try dsimp only[BC,Ar]
  refine⟨_,rfl,_,_,_,_,true,rfl,.str _,rfl,(fun _=>.inr trivial),Ax _ _,true,rfl,Ap ?_⟩
  exact⟨_,rfl,_,rfl,b,ys,rfl,.inr (hb _),rfl,hf,Ew (congrArg V.bl hi) k⟩
theorem E8:AZ ["thing"] ["thing"] (AM B5):=BD
theorem Eh (T:Txt w K mg t):Az P w K mg base Bd 5 t.bc t.bd ["thing"] SC:=by
 have D:=T.ee
 refine D.fn.okX E8 ?_ (fun cdv A outer s H vs Q E hr h Z hZ=>?_)
 ·rintro _ _ _ _ ⟨q,v,rfl,_⟩
  rfl
 ·obtain⟨q,v,rfl,hq,ok,vw,k⟩:=h
  refine hZ ⟨_,((AF (Af (A7 (Av (AO T.d8 (JE T) (hr.mono (by omega)) (AA (AI 0) AB)))) (AG (AJ BV)) AR)
   (AF (Af (AV An (AW AY (AI 0) AC (fun _ _=>rfl)) AU (AN _)) (AG (AJ (Aj (Ae An (AW AY (AI 0) AC (fun _ _=>rfl)) AC (AN _)) (Aj (Ae DC AC (AW AY (AI 0) AC (fun _ _=>rfl)) (AN _)) (Aw (Ae DC (AW AY (AI 0) AC (fun _ _=>rfl)) (BO T.gf) (AN _))))))) AR)
   (AG (AJ (PD (Ae An (AW AY (AI 0) AC (fun _ _=>rfl)) AU (AN _)) (Aw (Ae An (AW AY (AI 0) AC (fun _ _=>rfl)) AU (AN _))))))))),?_⟩
  try dsimp only[BC,Ar]
  refine⟨_,rfl,q,v,rfl,ok,hq,fun H1 s1=>⟨true,rfl,AX ?_⟩⟩
  have hq1:=hq.kp (Kp.same s1)
  cases v with
  | none=>exact vw.elim
  | flt w z r c=>exact vw.elim
  | num t b=>
   obtain⟨rfl,h0,h1⟩:=vw
   have e:H1 q=some (.tup [vS "number",.int t,.int 1]):=hq1
   refine⟨_,rfl,q,_,_,_,rfl,rfl,Ao.of e,A0,rfl,true,(by nofun),Ap ?_⟩
   exact⟨_,rfl,q,_,_,_,rfl,rfl,Ao.of e,Cl,rfl,Rb (fun k=>⟨_,rfl,q,_,_,_,rfl,rfl,Ao.of e,Bo,_,_,rfl,rfl,Rb (fun k=>⟨_,rfl,q,_,_,_,rfl,rfl,Ao.of e,Bo,_,_,rfl,rfl,k⟩) k⟩) (Ew (congrArg V.bl (by simp[h0,h1])) (k _ s1))⟩
  | txt z=>
   have e:H1 q=some (.tup [vS "text",.str z]):=hq1
   refine⟨_,rfl,q,_,_,_,rfl,rfl,Ao.of e,A0,rfl,false,(by nofun),AX ?_⟩
   exact⟨_,rfl,q,_,_,_,rfl,rfl,Ao.of e,A0,rfl,true,(by nofun),Ap (k _ s1)⟩
  | tru b=>
   have e:H1 q=some (.tup [vS "truth",.bl b]):=hq1
   refine⟨_,rfl,q,_,_,_,rfl,rfl,Ao.of e,A0,rfl,false,(by nofun),AX ?_⟩
   exact⟨_,rfl,q,_,_,_,rfl,rfl,Ao.of e,A0,rfl,false,(by nofun),AX ⟨_,rfl,q,_,_,_,rfl,rfl,Ao.of e,A0,rfl,Ew (by nofun) (k _ s1)⟩⟩
theorem E9:AZ ["thing"] ["thing"] (AM B6):=BD
theorem Ei (T:Txt w K mg t):Az P w K mg base Bd 2 t.be t.bf ["thing"] SD:=by
 have D:=T.ef
 refine D.fn.okX E9 ?_ (fun cdv A outer s H vs Q E hr h Z hZ=>?_)
 ·rintro _ _ _ _ ⟨s0,rfl,_⟩
  rfl
 ·obtain⟨s0,rfl,ok,k⟩:=h
  refine hZ ⟨_,((AG (AJ (PD (Ae Gh (AI 0) Da (AN _)) (Aw (AO T.d1 (Bv T) (BU hr) (AA (AI 0) AB))))))),?_⟩
  try dsimp only[BC,Ar]
  cases s0 with
  | none=>exact⟨_,rfl,rfl,true,rfl,Ap (k _ (AH.refl _))⟩
  | some z=>exact⟨_,rfl,rfl,false,rfl,AX ⟨_,rfl,z,rfl,ok,k⟩⟩
theorem F5:AZ ["thing","stands"] ["thing"] (AM EL):=BD
theorem FY (T:Txt w K mg t):Az P w K mg base Bd 3 t.bg t.bh ["thing"] SE:=by
 have D:=T.eg
 refine D.fn.okX F5 ?_ (fun cdv A outer s H vs Q E hr h Z hZ=>?_)
 ·rintro _ _ _ _ ⟨q,c,rfl,_⟩
  rfl
 ·obtain⟨q,c,rfl,hq,ok,k⟩:=h
  refine hZ ⟨_,((AF (Af (Bg (A7 (Av (AK Ab (by rfl) T.fo AL (AA (AI 0) (AA (A1 T.fs Ay) AB))))) (Ba (AV FD (AK Ac (by rfl) T.fm PySem.boot_len (AA (AI 0) AB)) AC (AN _)))).pt (AG (AJ BV)) AR)
   (AF (Al (i:=1) F5.nd rfl (Or.inl rfl) (Aj (AK Ab (by rfl) T.fo AL (AS (AW AY (AI 0) AC (fun _ _=>rfl)) (AA (A1 T.fq Bb) AB))) (Aw (AK Ab (by rfl) T.fo AL (AS (AW AY (AI 0) AC (fun _ _=>rfl)) (AA (A1 T.fq Bb) AB))))))
   (AG (AJ (Aj (AI 1) (Aj (AO T.d2 (Bf T) (BU hr) (AS (AW AY (AI 0) AC (fun _ _=>rfl)) (AA (BO T.f5) AB))) (Aw (AO T.d2 (Bf T) (BU hr) (AS (AW AY (AI 0) AC (fun _ _=>rfl)) (AA (BO T.f6) AB))))))))))),?_⟩
  try dsimp only[BC,Ar]
  obtain⟨c1,c2,c3,c4⟩:=ok
  have e:H q=some (.tup [.int c.r,.int c.c,.bl c.x,.bl c.y]):=hq
  refine⟨_,rfl,_,_,_,_,true,rfl,.tup e,rfl,(fun _=>.inr trivial),Ax _ _,true,rfl,AX ?_⟩
  refine⟨_,rfl,q,_,rfl,.inr (Ao.of e),rfl,false,rfl,AX ?_⟩
  refine⟨_,rfl,q,_,_,_,rfl,rfl,Ao.of e,Cl,_,_,_,_,true,rfl,.bl _,rfl,(fun _=>.inr trivial),Ax _ _,true,rfl,Ap ⟨_,rfl,q,_,_,_,rfl,rfl,Ao.of e,HG,_,_,_,_,true,rfl,.bl _,rfl,(fun _=>.inr trivial),Ax _ _,?_⟩⟩
  exact⟨_,rfl,true,rfl,Ap ⟨_,rfl,q,_,_,_,rfl,rfl,Ao.of e,A0,_,16,rfl,c1,c2,true,rfl,Ap ⟨_,rfl,q,_,_,_,rfl,rfl,Ao.of e,Bo,_,8,rfl,c3,c4,k⟩⟩⟩
theorem GG:AZ ["thing"] ["thing"] (AM Cb):=BD
theorem DY (T:Txt w K mg t):Az P w K mg base Bd 3 t.bi t.bj ["thing"] SF:=by
 have D:=T.eh
 refine D.fn.okX GG ?_ (fun cdv A outer s H vs Q E hr h Z hZ=>?_)
 ·rintro _ _ _ _ ⟨q,i,x,rfl,_⟩
  rfl
 ·obtain⟨q,i,x,rfl,hq,h1,h8,k⟩:=h
  refine hZ ⟨_,((AF (Af (Bg (A7 (Av (AK Ab (by rfl) T.fo AL (AA (AI 0) (AA (A1 T.fs Ay) AB))))) (Ba (AV FD (AK Ac (by rfl) T.fm PySem.boot_len (AA (AI 0) AB)) AC (AN _)))).pt (AG (AJ BV)) AR)
   (AG (AJ (Aj (AO T.d2 (Bf T) (BU hr) (AS (AW AY (AI 0) AC (fun _ _=>rfl)) (AA (BO T.f6) AB))) (Aw (AK Ab (by rfl) T.fo AL (AS (AW AY (AI 0) AC (fun _ _=>rfl)) (AA (A1 T.fq Bb) AB))))))))),?_⟩
  try dsimp only[BC,Ar]
  refine⟨_,rfl,_,_,_,_,true,rfl,.tup hq,rfl,(fun _=>.inr trivial),Ax _ _,true,rfl,AX ?_⟩
  refine⟨_,rfl,q,_,rfl,.inr (Ao.of hq),rfl,false,rfl,AX ?_⟩
  exact⟨_,rfl,q,_,_,_,rfl,rfl,Ao.of hq,A0,_,8,rfl,h1,h8,true,rfl,Ap ⟨_,rfl,q,_,_,_,rfl,rfl,Ao.of hq,Bo,_,_,_,_,true,rfl,.bl _,rfl,(fun _=>.inr trivial),Ax _ _,k⟩⟩
theorem HY:AZ ["thing"] ["thing"] (AM Co):=BD
theorem GH (T:Txt w K mg t):Az P w K mg base Bd 4 t.bk t.bl ["thing"] SG:=by
 have D:=T.ei
 refine D.fn.okX HY ?_ (fun cdv A outer s H vs Q E hr h Z hZ=>?_)
 ·rintro _ _ _ _ ⟨a,l,rfl,_⟩
  rfl
 ·obtain⟨a,l,rfl,hl,rf,ok,k⟩:=h
  refine hZ ⟨_,((AF (Af (A7 (Av (AO T.ef (Ei T) (BU hr) (AS (AW AY (AI 0) AC (fun _ _=>rfl)) AB)))) (AG (AJ BV)) AR)
   (AF (Af (AV An (AW AY (AI 0) AC (fun _ _=>rfl)) AU (AN _)) (AG (AJ (Aj (AO T.eh (DY T) (BU hr) (AS (AW AY (AI 0) AC (fun _ _=>rfl)) AB)) (Aj (AO T.eh (DY T) (BU hr) (AS (AW AY (AI 0) AC (fun _ _=>rfl)) AB)) (Aw (Ae DC (AW AY (AW AY (AI 0) AC (fun _ _=>rfl)) AC (fun _ _=>rfl)) (AW AY (AW AY (AI 0) AC (fun _ _=>rfl)) AC (fun _ _=>rfl)) (AN _))))))) AR)
   (AF (Af (A7 (Av (AO T.eg (FY T) (BU hr) (AS (AW AY (AI 0) AC (fun _ _=>rfl)) AB)))) (AG (AJ BV)) AR)
   (AF (Af (AV An (AW AY (AI 0) AC (fun _ _=>rfl)) AU (AN _)) (AG (AJ BV)) AR)
   (AG (AJ (Aj (AO T.eg (FY T) (BU hr) (AS (AW AY (AI 0) AC (fun _ _=>rfl)) AB)) (Aj (Ae DC (AW AY (AW AY (AI 0) AC (fun _ _=>rfl)) AC (fun _ _=>rfl)) (AW AY (AW AY (AI 0) AC (fun _ _=>rfl)) AC (fun _ _=>rfl)) (AN _)) (Aw (Ae DC (AW AY (AW AY (AI 0) AC (fun _ _=>rfl)) AC (fun _ _=>rfl)) (AW AY (AW AY (AI 0) AC (fun _ _=>rfl)) AC (fun _ _=>rfl)) (AN _)))))))))))),?_⟩
  try dsimp only[BC,Ar]
  obtain⟨s0,⟨c,rfl⟩ | ⟨c,d,rfl⟩ | ⟨i,x,j,y,rfl⟩⟩:=rf
  ·obtain⟨q,ha,hq⟩:=hl
   refine⟨_,rfl,a,_,_,_,rfl,rfl,Ao.of ha,Bo,s0,rfl,ok.1,fun H1 s1=>⟨true,rfl,AX ?_⟩⟩
   have e:=s1 _ _ ha
   have e2:=s1 _ _ hq
   refine⟨_,rfl,a,_,_,_,rfl,rfl,Ao.of e,A0,rfl,false,(by nofun),AX ?_⟩
   refine⟨_,rfl,a,_,_,_,rfl,rfl,Ao.of e,Cl,q,c,rfl,e2,ok.2,true,rfl,AX ?_⟩
   exact⟨_,rfl,a,_,_,_,rfl,rfl,Ao.of e,A0,rfl,true,(by nofun),Ap (k _ s1)⟩
  ·obtain⟨q,u,ha,hq,hu0⟩:=hl
   obtain⟨o1,o2,o3,o4,o5⟩:=ok
   refine⟨_,rfl,a,_,_,_,rfl,rfl,Ao.of ha,Bo,s0,rfl,o1,fun H1 s1=>⟨true,rfl,AX ?_⟩⟩
   have e:=s1 _ _ ha
   have e2:H1 q=some (.tup [.int c.r,.int c.c,.bl c.x,.bl c.y]):=s1 _ _ hq
   have e3:H1 u=some (.tup [.int d.r,.int d.c,.bl d.x,.bl d.y]):=s1 _ _ hu0
   refine⟨_,rfl,a,_,_,_,rfl,rfl,Ao.of e,A0,rfl,false,(by nofun),AX ?_⟩
   refine⟨_,rfl,a,_,_,_,rfl,rfl,Ao.of e,Cl,q,c,rfl,e2,o2,true,rfl,AX ?_⟩
   refine⟨_,rfl,a,_,_,_,rfl,rfl,Ao.of e,A0,rfl,false,(by nofun),AX ?_⟩
   refine⟨_,rfl,a,_,_,_,rfl,rfl,Ao.of e,HG,u,d,rfl,e3,o3,true,rfl,Ap ?_⟩
   refine⟨_,rfl,a,_,_,_,rfl,rfl,Ao.of e,Cl,q,_,_,_,rfl,rfl,Ao.of e2,A0,_,rfl,a,_,_,_,rfl,rfl,Ao.of e,HG,u,_,_,_,rfl,rfl,Ao.of e3,A0,_,_,rfl,rfl,true,congrArg V.bl (decide_eq_true o4),Ap ?_⟩
   exact⟨_,rfl,a,_,_,_,rfl,rfl,Ao.of e,Cl,q,_,_,_,rfl,rfl,Ao.of e2,Bo,_,rfl,a,_,_,_,rfl,rfl,Ao.of e,HG,u,_,_,_,rfl,rfl,Ao.of e3,Bo,_,_,rfl,rfl,Ew (congrArg V.bl (decide_eq_true o5)) (k _ s1)⟩
  ·obtain⟨q,u,ha,hq,hu0⟩:=hl
   obtain⟨o1,o2,o3,o4⟩:=ok
   refine⟨_,rfl,a,_,_,_,rfl,rfl,Ao.of ha,Bo,s0,rfl,o1,fun H1 s1=>⟨true,rfl,AX ?_⟩⟩
   have e:=s1 _ _ ha
   have e2:=s1 _ _ hq
   have e3:=s1 _ _ hu0
   refine⟨_,rfl,a,_,_,_,rfl,rfl,Ao.of e,A0,rfl,true,(by nofun),Ap ?_⟩
   refine⟨_,rfl,a,_,_,_,rfl,rfl,Ao.of e,Cl,q,i,x,rfl,e2,o2,(by omega),true,rfl,Ap ?_⟩
   refine⟨_,rfl,a,_,_,_,rfl,rfl,Ao.of e,HG,u,j,y,rfl,e3,(by omega),o4,true,rfl,Ap ?_⟩
   exact⟨_,rfl,a,_,_,_,rfl,rfl,Ao.of e,Cl,q,_,_,_,rfl,rfl,Ao.of e2,A0,_,rfl,a,_,_,_,rfl,rfl,Ao.of e,HG,u,_,_,_,rfl,rfl,Ao.of e3,A0,_,_,rfl,rfl,Ew (congrArg V.bl (decide_eq_true o3)) (k _ s1)⟩
theorem KI:AZ ["thing"] ["thing"] (AM EM):=BD
theorem JG (T:Txt w K mg t):Az P w K mg base Bd 3 t.bm t.bn ["thing"] SH:=by
 have D:=T.ej
 refine D.fn.okX KI ?_ (fun cdv A outer s H vs Q E hr h Z hZ=>?_)
 ·rintro _ _ _ _ ⟨a,z,rfl,_⟩
  rfl
 ·obtain⟨a,z,rfl,nm,rs,ha,k⟩:=h
  refine hZ ⟨_,((AF (Af (A7 (Av (AO T.ec (B7 T) (BU hr) (AS (AW AY (AI 0) AC (fun _ _=>rfl)) AB)))) (AG (AJ BV)) AR)
   (AF (Af (AV An (AW AY (AI 0) AC (fun _ _=>rfl)) AU (AN _)) (AG (AJ BV)) AR)
   (AG (AJ (Aj (AK Ab (by rfl) T.fo AL (AS (AW AY (AI 0) AC (fun _ _=>rfl)) (AA (A1 T.fs Ay) AB))) (Aw (Ae DC (AK Ac (by rfl) T.fm PySem.boot_len (AS (AW AY (AI 0) AC (fun _ _=>rfl)) AB)) (BO T.gd) (AN _))))))))),?_⟩
  try dsimp only[BC,Ar]
  have hx:∃ w r,H a=some (.tup (.str w::.str z::r)):=by
   rcases ha with ha | ⟨q,us,ha,_⟩
   ·exact⟨_,_,ha⟩
   ·exact⟨_,_,ha⟩
  obtain⟨w,r,hx⟩:=hx
  refine⟨_,rfl,a,_,_,_,rfl,rfl,Ao.of hx,Bo,z,rfl,nm,rs,fun H1 s1=>⟨true,rfl,AX ?_⟩⟩
  rcases ha with ha | ⟨q,us,ha,hq,h3⟩
  ·have e:=s1 _ _ ha
   exact⟨_,rfl,a,_,_,_,rfl,rfl,Ao.of e,A0,rfl,true,(by nofun),Ap (k _ s1)⟩
  ·have e:=s1 _ _ ha
   have e2:=s1 _ _ hq
   refine⟨_,rfl,a,_,_,_,rfl,rfl,Ao.of e,A0,rfl,false,(by nofun),AX ?_⟩
   exact⟨_,rfl,a,_,_,_,rfl,rfl,Ao.of e,Cl,_,_,_,_,true,rfl,.tup e2,rfl,(fun _=>.inr trivial),Ax _ _,true,rfl,Ap ⟨_,rfl,a,_,_,_,rfl,rfl,Ao.of e,Cl,q,_,rfl,.inr (Ao.of e2),_,_,rfl,rfl,Ew (congrArg V.bl (decide_eq_true (by omega))) (k _ s1)⟩⟩
theorem LF:AZ ["thing","params"] ["thing","params"] (AM E3):=BD
theorem KJ (T:Txt w K mg t):Az P w K mg base Bd 2 t.bo t.bp ["thing","params"] SI:=by
 have D:=T.ek
 refine D.fn.okX LF ?_ (fun cdv A outer s H vs Q E hr h Z hZ=>?_)
 ·rintro _ _ _ _ ⟨i,pr,rfl,_⟩
  rfl
 ·obtain⟨i,pr,rfl,h0,h1,h3,k⟩:=h
  refine hZ ⟨_,((AG (AJ (Aj (AO T.dy (DG T) (BU hr) (AA (AI 0) AB)) (Aj (Ae DC AC (AI 0) (AN _)) (Aw (Ae Dv (AI 0) (AK (Fj rfl) (by rfl) T.fw G0 (AA (AI 1) (AA (BO T.ge) AB))) (AN _)))))))),?_⟩
  try dsimp only[BC,Ar]
  refine⟨_,rfl,i,rfl,true,rfl,Ap ?_⟩
  exact⟨_,rfl,_,_,rfl,rfl,true,congrArg V.bl (decide_eq_true h0),Ap ⟨_,rfl,_,rfl,_,_,rfl,_,_,rfl,rfl,Ew (congrArg V.bl (decide_eq_true (by split <;> omega))) k⟩⟩
theorem HZ:AZ ["thing","params","kind"] ["thing","params"] (AM E4):=BD
theorem KL (T:Txt w K mg t):Az P w K mg base Bd 6 t.bq t.br ["thing","params"] SJ:=by
 have D:=T.el
 refine D.fn.okX HZ ?_ (fun cdv A outer s H vs Q E hr h Z hZ=>?_)
 ·rintro _ _ _ _ ⟨v,f,pr,n,rfl,_⟩
  rfl
 ·obtain⟨v,f,pr,n,rfl,hv,fo,h3,k⟩:=h
  refine hZ ⟨_,((AF (Af (Bg (A7 (Av (AK Ab (by rfl) T.fo AL (AA (AI 0) (AA (A1 T.fs Ay) AB))))) (Bg (AV An (AK Ac (by rfl) T.fm PySem.boot_len (AA (AI 0) AB)) AC (AN _)) (Ba (A7 (Av (AK Ab (by rfl) T.fo AL (AS (AW AY (AI 0) AC (fun _ _=>rfl)) (AA (A1 T.fr Br) AB)))))))).pt (AG (AJ BV)) AR)
   (AF (Al (i:=2) HZ.nd rfl (Or.inl rfl) (AW AY (AI 0) AC (fun _ _=>rfl)))
   (AF (Af (AV FD (AK Ac (by rfl) T.fm PySem.boot_len (AA (AI 0) AB)) (Jj (OR T.gj) (AI 2) AC ⟨rfl,rfl,rfl,rfl⟩) (AN _)) (AG (AJ BV)) AR)
   (AF (Af (AV An (AI 2) AU (AN _)) (AG (AJ (AO T.ee (Eh T) (BU hr) (AS (AW AY (AI 0) AC (fun _ _=>rfl)) AB)))) AR)
   (AF (Af (Bg (AV An (AI 2) AU (AN _)) (Bg (AV An (AI 2) AU (AN _)) (Ba (AV An (AI 2) AU (AN _))))).pt (AG (AJ (AO T.ei (GH T) (BU hr) (AA (AI 0) AB)))) AR)
   (AF (Af (Bg (AV An (AI 2) AU (AN _)) (Ba (AV An (AI 2) AU (AN _)))).pt (AG (AJ (AO T.ej (JG T) (BU hr) (AA (AI 0) AB)))) AR)
   (AF (Af (AV An (AI 2) AU (AN _)) (AG (AJ (AO T.ek (KJ T) (BU hr) (AS (AW AY (AI 0) AC (fun _ _=>rfl)) (AA (AI 1) AB))))) AR)
   (AF (Af (AV An (AI 2) AU (AN _)) (AG (AJ (AO T.ed (FX T) (BU hr) (AS (AW AY (AI 0) AC (fun _ _=>rfl)) (AA (GT T.gh) AB))))) AR)
   (AF (Af (AV An (AI 2) AU (AN _)) (AG (AJ (AO T.ed (FX T) (BU hr) (AS (AW AY (AI 0) AC (fun _ _=>rfl)) (AA (GT T.gi) AB))))) AR)
   (AF (Af (AV An (AI 2) AU (AN _)) (AG (AJ (Aj (AO T.d2 (Bf T) (BU hr) (AS (AW AY (AI 0) AC (fun _ _=>rfl)) (AA (BO T.f5) AB))) (Aw (AO T.d2 (Bf T) (BU hr) (AS (AW AY (AI 0) AC (fun _ _=>rfl)) (AA (BO T.f6) AB))))))) AR)
   (AG (AJ BV))))))))))))),?_⟩
  try dsimp only[BC,Ar]
  obtain⟨a,w0,its,rfl,e,hL,cs⟩:=SL hv fo h3
  refine⟨_,rfl,_,_,_,_,true,rfl,.tup e,rfl,(fun _=>.inr trivial),Ax _ _,true,rfl,AX ?_⟩
  refine⟨_,rfl,a,_,rfl,.inr (Ao.of e),rfl,false,UG (by simp only[List.length_cons];omega),AX ?_⟩
  refine⟨_,rfl,a,_,_,_,rfl,rfl,Ao.of e,A0,_,_,_,_,true,rfl,.str _,rfl,(fun _=>.inr trivial),Ax _ _,true,rfl,AX ?_⟩
  refine⟨_,rfl,a,_,_,_,rfl,rfl,Ao.of e,A0,?_⟩
  refine⟨_,rfl,a,_,rfl,.inr (Ao.of e),fun pa hk=>⟨pa,_,rfl,hk,_,rfl,Sum.inr w0,rfl,?_⟩⟩
  rw[No]
  refine⟨rfl,false,R6 (by simp only[List.length_cons];exact hL),AX ?_⟩
  rcases cs with⟨rfl,q,v,rfl,hq,vo,vw⟩ | ⟨hw,l,hl,rf,lo⟩ | ⟨hw,z,nm,rs,hz⟩ | ⟨rfl,i,rfl,h0,h1⟩ | ⟨rfl,z,r,rfl,hz⟩ | ⟨rfl,u,z,r,rfl,hz⟩ | ⟨rfl,i,j,r,rfl,g1,g2,g3,g4⟩ | ⟨n1,n2,n3,n4,n5,n6,n7,n8,n9,n10⟩
  ·exact⟨_,rfl,rfl,true,Hl rfl,Ap ⟨_,rfl,a,_,_,_,rfl,rfl,Ao.of e,Bo,q,v,rfl,hq,vo,vw,k⟩⟩
  ·rcases hw with rfl | rfl | rfl
   ·refine⟨_,rfl,rfl,false,(by nofun),AX ?_⟩
    exact⟨_,rfl,rfl,true,Hl rfl,Ap (Ap ⟨_,rfl,a,l,rfl,hl,rf,lo,k⟩)⟩
   ·refine⟨_,rfl,rfl,false,(by nofun),AX ?_⟩
    refine⟨_,rfl,rfl,false,(by nofun),AX ?_⟩
    exact⟨_,rfl,rfl,true,Hl rfl,Ap (Ap ⟨_,rfl,a,l,rfl,hl,rf,lo,k⟩)⟩
   ·refine⟨_,rfl,rfl,false,(by nofun),AX ?_⟩
    refine⟨_,rfl,rfl,false,(by nofun),AX ?_⟩
    refine⟨_,rfl,rfl,false,(by nofun),AX ?_⟩
    exact⟨_,rfl,rfl,true,Hl rfl,Ap ⟨_,rfl,a,l,rfl,hl,rf,lo,k⟩⟩
  ·rcases hw with rfl | rfl
   ·refine⟨_,rfl,rfl,false,(by nofun),AX ?_⟩
    refine⟨_,rfl,rfl,false,(by nofun),AX ?_⟩
    refine⟨_,rfl,rfl,false,(by nofun),AX ?_⟩
    refine⟨_,rfl,rfl,false,(by nofun),AX ?_⟩
    exact⟨_,rfl,rfl,true,Hl rfl,Ap (Ap ⟨_,rfl,a,z,rfl,nm,rs,hz,k⟩)⟩
   ·refine⟨_,rfl,rfl,false,(by nofun),AX ?_⟩
    refine⟨_,rfl,rfl,false,(by nofun),AX ?_⟩
    refine⟨_,rfl,rfl,false,(by nofun),AX ?_⟩
    refine⟨_,rfl,rfl,false,(by nofun),AX ?_⟩
    refine⟨_,rfl,rfl,false,(by nofun),AX ?_⟩
    exact⟨_,rfl,rfl,true,Hl rfl,Ap ⟨_,rfl,a,z,rfl,nm,rs,hz,k⟩⟩
  ·refine⟨_,rfl,rfl,false,(by nofun),AX ?_⟩
   refine⟨_,rfl,rfl,false,(by nofun),AX ?_⟩
   refine⟨_,rfl,rfl,false,(by nofun),AX ?_⟩
   refine⟨_,rfl,rfl,false,(by nofun),AX ?_⟩
   refine⟨_,rfl,rfl,false,(by nofun),AX ?_⟩
   refine⟨_,rfl,rfl,false,(by nofun),AX ?_⟩
   exact⟨_,rfl,rfl,true,Hl rfl,Ap ⟨_,rfl,a,_,_,_,rfl,rfl,Ao.of e,Bo,_,rfl,i,pr,rfl,h0,h1,h3,k _ (AH.refl _)⟩⟩
  ·refine⟨_,rfl,rfl,false,(by nofun),AX ?_⟩
   refine⟨_,rfl,rfl,false,(by nofun),AX ?_⟩
   refine⟨_,rfl,rfl,false,(by nofun),AX ?_⟩
   refine⟨_,rfl,rfl,false,(by nofun),AX ?_⟩
   refine⟨_,rfl,rfl,false,(by nofun),AX ?_⟩
   refine⟨_,rfl,rfl,false,(by nofun),AX ?_⟩
   refine⟨_,rfl,rfl,false,(by nofun),AX ?_⟩
   exact⟨_,rfl,rfl,true,Hl rfl,Ap ⟨_,rfl,a,_,_,_,rfl,rfl,Ao.of e,Bo,fun b hb=>⟨z,b,_,rfl,hb,Nq,hz,k _ (AH.refl _)⟩⟩⟩
  ·refine⟨_,rfl,rfl,false,(by nofun),AX ?_⟩
   refine⟨_,rfl,rfl,false,(by nofun),AX ?_⟩
   refine⟨_,rfl,rfl,false,(by nofun),AX ?_⟩
   refine⟨_,rfl,rfl,false,(by nofun),AX ?_⟩
   refine⟨_,rfl,rfl,false,(by nofun),AX ?_⟩
   refine⟨_,rfl,rfl,false,(by nofun),AX ?_⟩
   refine⟨_,rfl,rfl,false,(by nofun),AX ?_⟩
   refine⟨_,rfl,rfl,false,(by nofun),AX ?_⟩
   exact⟨_,rfl,rfl,true,Hl rfl,Ap ⟨_,rfl,a,_,_,_,rfl,rfl,Ao.of e,Cl,fun b hb=>⟨z,b,_,rfl,hb,Nr,hz,k _ (AH.refl _)⟩⟩⟩
  ·refine⟨_,rfl,rfl,false,(by nofun),AX ?_⟩
   refine⟨_,rfl,rfl,false,(by nofun),AX ?_⟩
   refine⟨_,rfl,rfl,false,(by nofun),AX ?_⟩
   refine⟨_,rfl,rfl,false,(by nofun),AX ?_⟩
   refine⟨_,rfl,rfl,false,(by nofun),AX ?_⟩
   refine⟨_,rfl,rfl,false,(by nofun),AX ?_⟩
   refine⟨_,rfl,rfl,false,(by nofun),AX ?_⟩
   refine⟨_,rfl,rfl,false,(by nofun),AX ?_⟩
   refine⟨_,rfl,rfl,false,(by nofun),AX ?_⟩
   exact⟨_,rfl,rfl,true,Hl rfl,Ap ⟨_,rfl,a,_,_,_,rfl,rfl,Ao.of e,Bo,i,16,rfl,g1,g2,true,rfl,Ap ⟨_,rfl,a,_,_,_,rfl,rfl,Ao.of e,Cl,j,8,rfl,g3,g4,k _ (AH.refl _)⟩⟩⟩
  ·refine⟨_,rfl,rfl,false,Ho n1,AX ?_⟩
   refine⟨_,rfl,rfl,false,Ho n2,AX ?_⟩
   refine⟨_,rfl,rfl,false,Ho n3,AX ?_⟩
   refine⟨_,rfl,rfl,false,Ho n4,AX ?_⟩
   refine⟨_,rfl,rfl,false,Ho n5,AX ?_⟩
   refine⟨_,rfl,rfl,false,Ho n6,AX ?_⟩
   refine⟨_,rfl,rfl,false,Ho n7,AX ?_⟩
   refine⟨_,rfl,rfl,false,Ho n8,AX ?_⟩
   refine⟨_,rfl,rfl,false,Ho n9,AX ?_⟩
   refine⟨_,rfl,rfl,false,Ho n10,AX ?_⟩
   exact k _ (AH.refl _)
theorem Md:AZ ["thing","params","deep"] ["thing","params","deep"] (AM Fv):=BD
theorem LG (T:Txt w K mg t):∀ n:Nat,Az P w K mg base Bd (3*n+8) t.bs t.bt ["thing","params","deep"] (SK n):=by
 have D:=T.em
 intro n
 induction n with
 | zero=>exact⟨fun _ _ _ _ h=>(by obtain⟨_,_,_,_,_,_,_,o,_⟩:=h;cases o),fun _ _ _ _ _ _ _ _ _ _ _ _ _ h=>(by obtain⟨_,_,_,_,_,_,_,o,_⟩:=h;cases o)⟩
 | succ n ih=>
  refine D.fn.okX Md ?_ (fun cdv A outer s H vs Q E hr h Z hZ=>?_)
  ·rintro _ _ _ _ ⟨v,f,pr,d,rfl,_⟩
   rfl
  ·obtain⟨v,f,pr,d,rfl,hd,hv,fo,h3,k⟩:=h
   refine hZ ⟨_,((AF (Af (Bg (AV An (AI 2) AC (AN _)) (Ba (A7 (Av (AO T.el (KL T) (hr.mono (by omega)) (AA (AI 0) (AA (AI 1) AB))))))).pt (AG (AJ BV)) AR)
   (AG (AJ (AK (B0 rfl) (by rfl) T.fu B1 (Bp (Bh (fv:=["params","deep"]) (js:=[1,2]) (cl:=[("params",s.heap.objs.size+1),("deep",s.heap.objs.size+2)]) rfl (by with_unfolding_all rfl) ⟨rfl,by nofun,by nofun,rfl,by nofun,by nofun,(List.forall_mem_cons.mpr ⟨⟨rfl,rfl,rfl⟩,(List.forall_mem_cons.mpr ⟨⟨rfl,rfl,rfl⟩,(List.forall_mem_nil _)⟩)⟩),(List.forall_mem_cons.mpr ⟨rfl,(List.forall_mem_cons.mpr ⟨rfl,(List.forall_mem_nil _)⟩)⟩),(.cons rfl (.cons rfl .nil))⟩ (CB (AO T.d9 (JF T) (hr.mono (by omega)) (AA (AI 0) AB))) (fun _ _ _ _ _=>Bk) (fun _ _ _ _ _=>(AO T.em ih (hr.mono (by omega)) (AA (AI 0) (AA (AI 1) (BX (A4 Gf (AI 2) AC) AB)))))) AB)))))),?_⟩
   try dsimp only[BC,Ar]
   refine⟨_,rfl,rfl,false,?_,AX ?_⟩
   ·rw[decide_eq_false fun z=>by injection z with z;omega]
   refine⟨_,rfl,_,rfl,v,f,pr,n+1,rfl,hv,fo,h3,fun H1 s1=>⟨true,rfl,AX ?_⟩⟩
   refine⟨_,rfl,v,f,pr,n+1,rfl,hv.kp (Kp.same s1),fo,fun lp us H2 nlp hlp pm s2=>?_⟩
   have hus:us.length=(Fo f).length:=Paired.length pm
   have p3:=fo.len3
   refine⟨lp,rfl,⟨_,A3.of hlp⟩,fun D hD=>?_⟩
   refine⟨fun i m H4=>m=us.length-i∧i≤us.length∧H4 D=some (.lst ((List.replicate i true).map V.bl))∧AH H2 H4,⟨us.length,rfl,Nat.zero_le _,AD,AH.new hD⟩,?_⟩
   rintro i m H4 ⟨rfl,hi,hD4,s4⟩
   by_cases hlt:i<us.length
   ·refine .inr ⟨⟨us,us[i],A3.of (s4 _ _ hlp),List.getElem?_eq_getElem hlt⟩,fun x H' y=>?_⟩
    obtain⟨e,y⟩:=y
    subst e
    obtain⟨g,hg,xg⟩:=BW pm (y us (A3.of (s4 _ _ hlp)))
    refine⟨_,rfl,_,rfl,_,rfl,_,_,rfl,rfl,x,g,pr,_,rfl,(by omega),xg.kp (Kp.same s4),fo.prt1 g (List.mem_of_getElem? hg),h3,fun H5 s5=>?_⟩
    refine⟨_,s5 _ _ hD4,CP (by rw[List.length_map,List.length_replicate];omega),us.length-(i+1),(by omega),rfl,hlt,?_,fun b o e=>?_⟩
    ·rw[AD,List.replicate_succ',List.map_append];rfl
    ·rw[AT (Aa e hD)];exact s5 _ _ (s4 _ _ e)
   obtain rfl:i=us.length:=by omega
   refine .inl ⟨⟨us,A3.of (s4 _ _ hlp),Nat.le_refl _⟩,?_⟩
   exact⟨D,_,rfl,A3.of hD4,Ew (congrArg V.bl (by simp)) (k _ ((s1.trans s2).trans s4))⟩
theorem JH:AZ ["thing","params"] ["thing","params"] (AM Dg):=BD
theorem El (T:Txt w K mg t):Az P w K mg base Bd 33 t.bu t.bv ["thing","params"] SM:=by
 have D:=T.en
 refine D.fn.okX JH ?_ (fun cdv A outer s H vs Q E hr h Z hZ=>?_)
 ·rintro _ _ _ _ ⟨v,f,pr,rfl,_⟩
  rfl
 ·obtain⟨v,f,pr,rfl,hv,fo,h3,sz,k⟩:=h
  refine hZ ⟨_,((AG (AJ (Aj (AO T.em (LG T 8) (hr.mono (by omega)) (AA (AI 0) (AA (AI 1) (AA (BO T.gc) AB)))) (Aw (Ae DC (AO T.eb (HX T) (BU hr) (AA (AI 0) AB)) (BO T.gb) (AN _))))))),?_⟩
  try dsimp only[BC,Ar]
  refine⟨_,rfl,_,rfl,v,f,pr,_,rfl,rfl,hv,fo,h3,fun H1 s1=>⟨true,rfl,Ap ?_⟩⟩
  exact⟨_,rfl,v,f,pr,8,rfl,hv.kp (Kp.same s1),fo,Nat.le_refl _,fun H2 s2=>⟨_,_,rfl,rfl,Ew (congrArg V.bl (decide_eq_true (by omega))) (k _ (s1.trans s2))⟩⟩
theorem N8:AZ ["thing","most"] ["thing","most"] (AM HS):=BD
theorem Ec (T:Txt w K mg t):Az P w K mg base Bd 1 t.bw t.bx ["thing","most"] SU:=by
 have D:=T.eo
 refine D.fn.okX N8 ?_ (fun cdv A outer s H vs Q E hr h Z hZ=>?_)
 ·rintro _ _ _ _ ⟨a,b,ys,m,rfl,_⟩
  rfl
 ·obtain⟨a,b,ys,m,rfl,ha,hm,k⟩:=h
  refine hZ ⟨_,((AG (AJ (Aj (AK Gy (by rfl) T.fo AL (AA (AI 0) (A9 (Ai (AA (A1 T.ft Bj) (AA (A1 T.fs Ay) AB))) AB))) (Aw (Ae DC (AK Ac (by rfl) T.fm PySem.boot_len (AA (AI 0) AB)) (AI 1) (AN _))))))),?_⟩
  try dsimp only[BC,Ar]
  refine⟨_,rfl,BB,fun p hp=>⟨a,p,b,ys,rfl,AH.new hp _ _ ha,AD,true,rfl,Ap ?_⟩⟩
  exact⟨_,rfl,a,ys,rfl,F1 (AH.new hp _ _ ha),_,rfl,_,_,rfl,rfl,Ew (by simp[hm]) (k _ (AH.new hp))⟩
theorem LH:AZ ["thing","most"] ["thing","most"] (AM E5):=BD
theorem F6 (T:Txt w K mg t):Az P w K mg base Bd 2 t.bz t.b0 ["thing","most"] SV:=by
 have D:=T.ep
 refine D.fn.okX LH ?_ (fun cdv A outer s H vs Q E hr h Z hZ=>?_)
 ·rintro _ _ _ _ ⟨i,m,rfl,_⟩
  rfl
 ·obtain⟨i,m,rfl,h0,h1,k⟩:=h
  refine hZ ⟨_,((AG (AJ (Aj (AO T.dy (DG T) (BU hr) (AA (AI 0) AB)) (Aj (Ae DC AC (AI 0) (AN _)) (Aw (Ae DC (AI 0) (AI 1) (AN _)))))))),?_⟩
  try dsimp only[BC,Ar]
  refine⟨_,rfl,i,rfl,true,rfl,Ap ?_⟩
  refine⟨_,rfl,_,_,rfl,rfl,true,(by simp[h0]),Ap ?_⟩
  exact⟨_,rfl,_,rfl,_,_,rfl,rfl,Ew (by simp[h1]) (k _ (AH.refl _))⟩
theorem Hr:AZ ["thing","many"] ["thing","many"] (AM DN):=BD
theorem CN (T:Txt w K mg t):Az P w K mg base Bd 1 t.b1 t.b2 ["thing","many"] SW:=by
 have D:=T.eq
 refine D.fn.okX Hr ?_ (fun cdv A outer s H vs Q E hr h Z hZ=>?_)
 ·rintro _ _ _ _ ⟨a,ys,m,rfl,_⟩
  rfl
 ·obtain⟨a,ys,m,rfl,ha,hm,k⟩:=h
  refine hZ ⟨_,((AG (AJ (Aj (AK Ab (by rfl) T.fo AL (AA (AI 0) (AA (A1 T.fs Ay) AB))) (Aw (Ae An (AK Ac (by rfl) T.fm PySem.boot_len (AA (AI 0) AB)) (AI 1) (AN _))))))),?_⟩
  try dsimp only[BC,Ar]
  refine⟨_,rfl,_,_,_,_,true,rfl,.tup ha,rfl,(fun _=>.inr trivial),Ax _ _,true,rfl,Ap ?_⟩
  exact⟨_,rfl,a,ys,rfl,.inr (Ao.of ha),_,rfl,rfl,Ew (congrArg V.bl (decide_eq_true (by rw[hm]))) k⟩
theorem ET:AZ ["formula","references"] ["formula"] (AM Cp):=BD
theorem GI (T:Txt w K mg t):Az P w K mg base Bd 4 t.b3 t.b4 ["formula"] SN:=by
 have D:=T.er
 refine D.fn.okX ET ?_ (fun cdv A outer s H vs Q E hr h Z hZ=>?_)
 ·rintro _ _ _ _ ⟨v,f,pr,rfl,_⟩
  rfl
 ·obtain⟨v,f,pr,rfl,hv,fo,tl,k⟩:=h
  have hu:=hr.units0
  refine hZ ⟨_,((AF (FI (i:=1) ET.nd rfl rfl (fv:=[]) (js:=[]) (cl:=[]) rfl (by with_unfolding_all rfl) ⟨rfl,by nofun,by nofun,rfl,by nofun,by nofun,(List.forall_mem_nil _),(List.forall_mem_nil _),.nil⟩ (CB (AO T.ea (FU T) (BU hr) (AA (AI 0) AB))) (fun _ _ _ _ _=>(P8 (AV (O0) (AW GO (AI 0) AC (fun _ _=>rfl)) (Ai (AE AU (AE AU (AE AU AB)))) rfl))) (fun _ _ _ _ _=>(AI 0)))
   (AG (AJ (AK (B0 rfl) (by rfl) T.fu B1 (Bp (Bh (fv:=[]) (js:=[]) (cl:=[]) rfl (by with_unfolding_all rfl) ⟨rfl,by nofun,by nofun,rfl,by nofun,by nofun,(List.forall_mem_nil _),(List.forall_mem_nil _),.nil⟩ (CB (AI 1)) (fun _ _ _ _ _=>Bk) (fun _ _ _ _ _=>(Ae LQ (AW GO (AI 0) AC (fun _ _=>rfl)) Da (AN _)))) AB)))))),?_⟩
  try dsimp only[BC,Ar]
  refine⟨_,rfl,v,f,pr,8,rfl,hv,fo,Nat.le_refl _,fun l ws H1 hl0 hl fm s1=>?_⟩
  have h24:ws.length≤3280:=by
   rw[Paired.length fm,GV]
   exact fo.sz8
  refine⟨l,rfl,⟨_,A3.of hl⟩,fun D hD=>?_⟩
  have sD:∀ ws,AH H1 (upd H1 D (.lst ws)):=fun ws=>AH.new hD
  refine⟨fun i m H4=>∃ us,m=ws.length-i∧i≤ws.length∧us.length≤i∧H4 D=some (.lst us)∧AH H1 H4∧∀ u∈us,HP H4 u,⟨ws.length,[],rfl,Nat.zero_le _,Nat.zero_le _,AD,sD _,fun u hu=>nomatch hu⟩,?_⟩
  rintro i m H4 ⟨us,rfl,hi,lu,o4,s4,tu⟩
  by_cases hlt:i<ws.length
  ·refine .inr ⟨⟨_,_,A3.of (s4 _ _ hl),List.getElem?_eq_getElem hlt⟩,fun x H' y=>?_⟩
   obtain⟨e,y⟩:=y
   subst e
   have hx:=y _ (A3.of (s4 _ _ hl))
   obtain⟨g,hg,xg⟩:=BW fm hx
   obtain⟨fog,tg⟩:=O1 fo tl g (List.mem_of_getElem? hg)
   obtain⟨a,w0,r,rfl,ha,hin⟩:=Nv (xg.kp (Kp.same s4)) fog (SR tg)
   refine⟨_,rfl,a,_,_,_,rfl,rfl,Ao.of ha,A0,A6,fun p hp=>?_⟩
   have sp:=AH.new (o:=.tup MZ) hp
   refine⟨p,MZ,rfl,.inr (Ao.of AD),rfl,rfl,?_⟩
   rw[if_neg (by decide)]
   have s5:=s4.trans sp
   cases hb:F9 (.str w0) MZ with
   | false=>exact⟨false,rfl,AX ⟨ws.length-(i+1),(by omega),us,rfl,hlt,(by omega),sp _ _ o4,s5,fun u hu=>(tu u hu).same sp⟩⟩
   | true=>
    refine⟨true,rfl,Ap ⟨_,rfl,us,sp _ _ o4,Sc (by omega),ws.length-(i+1),(by omega),us++[.ref a],rfl,hlt,?_,AD,fun b o e=>?_,fun u hu=>?_⟩⟩
    ·rw[List.length_append,List.length_singleton];omega
    ·rw[AT (Aa e hD)];exact s5 _ _ e
    ·have q7:Kp (upd H' p (.tup MZ)) (upd (upd H' p (.tup MZ)) D (.lst (us++[.ref a]))):=Kp.lst (sp _ _ o4) KeepX.upd
     rcases List.mem_append.mp hu with hu | hu
     ·exact((tu u hu).same sp).kp q7
     ·rw[List.mem_singleton.mp hu]
      obtain⟨z,r',hz⟩:=hin hb
      exact⟨a,w0,z,r',rfl,q7 _ _ (sp _ _ (by rw[ha,hz]))⟩
  have ei:i=ws.length:=by omega
  subst ei
  refine .inl ⟨⟨_,A3.of (s4 _ _ hl),Nat.le_refl _⟩,?_⟩
  refine⟨_,rfl,D,rfl,⟨_,A3.of o4⟩,fun D2 hD2=>?_⟩
  have s2D:∀ ws,AH H4 (upd H4 D2 (.lst ws)):=fun ws=>AH.new hD2
  refine⟨fun i m H5=>m=us.length-i∧i≤us.length∧H5=upd H4 D2 (.lst ((List.replicate i true).map V.bl)),⟨us.length,rfl,Nat.zero_le _,rfl⟩,?_⟩
  rintro i m H5 ⟨rfl,hi,rfl⟩
  by_cases hlt:i<us.length
  ·refine .inr ⟨⟨_,_,A3.of (s2D _ _ _ o4),List.getElem?_eq_getElem hlt⟩,fun x H' y=>?_⟩
   obtain⟨e,y⟩:=y
   subst e
   have hx:=y _ (A3.of (s2D _ _ _ o4))
   obtain⟨a,w0,z,r,rfl,ha⟩:=tu x (List.mem_of_getElem? hx)
   refine⟨_,rfl,a,_,_,_,rfl,rfl,Ao.of (s2D _ _ _ ha),Bo,rfl,_,AD,Sc (by rw[List.length_map,List.length_replicate];omega),us.length-(i+1),(by omega),rfl,hlt,?_⟩
   rw[GN,List.replicate_succ',List.map_append];rfl
  have ei:i=us.length:=by omega
  subst ei
  refine .inl ⟨⟨_,A3.of (s2D _ _ _ o4),Nat.le_refl _⟩,?_⟩
  exact⟨D2,_,rfl,A3.of AD,Ew (congrArg V.bl (by simp)) (k _ ((s1.trans s4).trans (s2D _)))⟩
theorem FZ:AZ ["thing","params"] ["thing","params"] (AM CJ):=BD
theorem Cw (T:Txt w K mg t):Az P w K mg base Bd 34 t.b5 t.b6 ["thing","params"] SO:=by
 have D:=T.es
 refine D.fn.okX FZ ?_ (fun cdv A outer s H vs Q E hr h Z hZ=>?_)
 ·rintro _ _ _ _ ⟨v,f,pr,rfl,_⟩
  rfl
 ·obtain⟨v,f,pr,rfl,hv,fo,h3,sz,tl,k⟩:=h
  refine hZ ⟨_,((AG (AJ (Aj (AO T.en (El T) (BU hr) (AA (AI 0) (AA (AI 1) AB))) (Aw (AO T.er (GI T) (BU hr) (AA (AI 0) AB))))))),?_⟩
  try dsimp only[BC,Ar]
  refine⟨_,rfl,_,rfl,v,f,pr,rfl,hv,fo,h3,sz,fun H1 s1=>⟨true,rfl,Ap ?_⟩⟩
  exact⟨_,rfl,v,f,pr,rfl,hv.kp (Kp.same s1),fo,tl,fun H2 s2=>k _ (s1.trans s2)⟩
theorem Ha:AZ ["thing"] ["thing"] (AM Cq):=BD
theorem GJ (T:Txt w K mg t):Az P w K mg base Bd 35 t.b7 t.b8 ["thing"] (PZ false):=by
 have D:=T.et
 refine D.fn.okX Ha ?_ (fun cdv A outer s H vs Q E hr h Z hZ=>?_)
 ·rintro _ _ _ _ ⟨v,e,rfl,_⟩
  rfl
 ·obtain⟨v,e,rfl,he,ok,k⟩:=h
  refine hZ ⟨_,((AG (AJ (Aj (AO T.eq (CN T) (BU hr) (AA (AI 0) (AE AC AB))) (Aj (AO T.ec (B7 T) (BU hr) (AS (AW AY (AI 0) AC (fun _ _=>rfl)) AB)) (Aw (AO T.es (Cw T) (BU hr) (AS (AW AY (AI 0) AC (fun _ _=>rfl)) (AE AC AB))))))))),?_⟩
  try dsimp only[BC,Ar]
  obtain⟨a,v1,rfl,ha,hv⟩:=he
  have ha:H a=some (.tup [.str e.1,v1]):=ha
  have n0:=ok.n0 rfl
  refine⟨_,rfl,a,_,2,rfl,ha,rfl,true,rfl,Ap ?_⟩
  refine⟨_,rfl,a,_,_,_,rfl,rfl,Ao.of ha,A0,e.1,rfl,ok.nm,ok.rs,fun H1 s1=>⟨true,rfl,Ap ?_⟩⟩
  exact⟨_,rfl,a,_,_,_,rfl,rfl,Ao.of (s1 _ _ ha),Bo,v1,e.2.2,0,rfl,hv.kp (Kp.same s1),(by have:=ok.fo;rwa [n0]at this),(by decide),ok.sz,ok.td,fun H2 s2=>k _ (s1.trans s2)⟩
theorem N9:AZ ["thing"] ["thing"] (AM HU):=BD
theorem Me (T:Txt w K mg t):Az P w K mg base Bd 35 t.b9 t.ca ["thing"] (PZ true):=by
 have D:=T.eu
 refine D.fn.okX N9 ?_ (fun cdv A outer s H vs Q E hr h Z hZ=>?_)
 ·rintro _ _ _ _ ⟨v,e,rfl,_⟩
  rfl
 ·obtain⟨v,e,rfl,he,ok,k⟩:=h
  refine hZ ⟨_,((AF (Af (PW.pt (Bg (A7 (Av (AO T.eq (CN T) (BU hr) (AA (AI 0) (AE AC AB))))) (Ba (A7 (Av (AO T.ec (B7 T) (BU hr) (AS (AW AY (AI 0) AC (fun _ _=>rfl)) AB))))))) (AG (AJ BV)) AR)
   (AG (AJ (Aj (AO T.ep (F6 T) (BU hr) (AS (AW AY (AI 0) AC (fun _ _=>rfl)) (AA (BO T.ge) AB))) (Aw (AO T.es (Cw T) (BU hr) (AS (AW AY (AI 0) AC (fun _ _=>rfl)) (AS (AW AY (AI 0) AC (fun _ _=>rfl)) AB))))))))),?_⟩
  try dsimp only[BC,Ar]
  obtain⟨a,v1,rfl,ha,hv⟩:=he
  have ha:H a=some (.tup [.str e.1,.int e.2.1,v1]):=ha
  refine⟨_,rfl,a,_,3,rfl,ha,rfl,true,rfl,AX ?_⟩
  refine⟨_,rfl,a,_,_,_,rfl,rfl,Ao.of ha,A0,e.1,rfl,ok.nm,ok.rs,fun H1 s1=>⟨true,rfl,AX ?_⟩⟩
  have h3:=ok.m3
  refine⟨_,rfl,a,_,_,_,rfl,rfl,Ao.of (s1 _ _ ha),Bo,_,3,rfl,(by omega),(by omega),fun H2 s2=>⟨true,rfl,Ap ?_⟩⟩
  have s12:=s1.trans s2
  exact⟨_,rfl,a,_,_,_,rfl,rfl,Ao.of (s12 _ _ ha),Cl,_,rfl,a,_,_,_,rfl,rfl,Ao.of (s12 _ _ ha),Bo,v1,e.2.2,e.2.1,rfl,hv.kp (Kp.same s12),ok.fo,h3,ok.sz,ok.td,fun H3 s3=>k _ (s12.trans s3)⟩
theorem JI:AZ ["thing"] ["thing"] (AM Dh):=BD
theorem Hs (T:Txt w K mg t):Az P w K mg base Bd 35 t.cb t.cc ["thing"] Sa:=by
 have D:=T.ev
 refine D.fn.okX JI ?_ (fun cdv A outer s H vs Q E hr h Z hZ=>?_)
 ·rintro _ _ _ _ ⟨u,c,rfl,_⟩
  rfl
 ·obtain⟨u,c,rfl,hc,ok,k⟩:=h
  refine hZ ⟨_,((AF (Af (Av (AO T.d8 (F3 T) (BU hr) (AA (AI 0) AB))) (AG (AJ (Aj (Ae FD (AW AY (AI 0) AC (fun _ _=>rfl)) AU (AN _)) (Aw (Ae FD (AW AY (AI 0) AC (fun _ _=>rfl)) AU (AN _)))))) AR)
   (AF (Af (PW.pt (Bg (A7 (Av (AO T.eq (CN T) (BU hr) (AA (AI 0) (AE AC AB))))) (Ba (A7 (Av (AK Ab (by rfl) T.fo AL (AS (AW AY (AI 0) AC (fun _ _=>rfl)) (AA (A1 T.fr Br) AB)))))))) (AG (AJ BV)) AR)
   (AG (AJ (Aj (Ae An (AW AY (AI 0) AC (fun _ _=>rfl)) AU (AN _)) (Aw (AO T.en (El T) (BU hr) (AS (AW AY (AI 0) AC (fun _ _=>rfl)) (AE AC AB)))))))))),?_⟩
  try dsimp only[BC,Ar]
  cases c with
  | val v=>
   obtain⟨q,rfl,hq⟩:=hc
   refine⟨_,rfl,.inl ⟨q,v,rfl,ok.1,hq,fun H1 s1=>⟨true,rfl,Ap ?_⟩⟩⟩
   have hq1:=hq.kp (Kp.same s1)
   have hx:∃ w r,H1 q=some (.tup (.str w::r))∧w≠zS "none"∧w≠zS "fault":=by
    cases v with
    | num t b=>exact⟨_,_,hq1,by nofun,by nofun⟩
    | txt z=>exact⟨_,_,hq1,by nofun,by nofun⟩
    | tru b=>exact⟨_,_,hq1,by nofun,by nofun⟩
    | none=>exact ok.2.elim
    | flt _ _ _ _=>exact ok.2.elim
   obtain⟨w,r,e,n1,n2⟩:=hx
   exact⟨_,rfl,q,_,_,_,rfl,rfl,Ao.of e,A0,rfl,true,congrArg V.bl (by rw[decide_eq_false fun z=>n1 (V.str.inj z)];rfl),Ap ⟨_,rfl,q,_,_,_,rfl,rfl,Ao.of e,A0,rfl,Ew (congrArg V.bl (by rw[decide_eq_false fun z=>n2 (V.str.inj z)];rfl)) (k _ s1)⟩⟩
  | fm f=>
   obtain⟨a,v1,rfl,ha,hv⟩:=hc
   refine⟨_,rfl,.inr ⟨a,v1,rfl,ha,false,rfl,AX ?_⟩⟩
   refine⟨_,rfl,a,_,2,rfl,ha,rfl,true,rfl,AX ?_⟩
   refine⟨_,rfl,a,_,_,_,rfl,rfl,Ao.of ha,A0,_,_,_,_,true,rfl,.str _,rfl,(fun _=>.inr trivial),Ax _ _,true,rfl,AX ?_⟩
   refine⟨_,rfl,a,_,_,_,rfl,rfl,Ao.of ha,A0,rfl,true,(by nofun),Ap ?_⟩
   exact⟨_,rfl,a,_,_,_,rfl,rfl,Ao.of ha,Bo,v1,f,0,rfl,hv,ok.1,(by decide),ok.2,k⟩
theorem Hb:AZ ["thing","sheets"] ["thing","sheets"] (AM Cr):=BD
theorem GK (T:Txt w K mg t):Az P w K mg base Bd 36 t.cd t.ce ["thing","sheets"] Sb:=by
 have D:=T.ew
 refine D.fn.okX Hb ?_ (fun cdv A outer s H vs Q E hr h Z hZ=>?_)
 ·rintro _ _ _ _ ⟨u,sa,b,zs,p,rfl,_⟩
  rfl
 ·obtain⟨u,sa,b,zs,p,rfl,hs,hp,ck,ok,k⟩:=h
  refine hZ ⟨_,((AF (Af (PW.pt (Bg (A7 (Av (AO T.eq (CN T) (BU hr) (AA (AI 0) (AE AC AB))))) (Ba (A7 (Av (AO T.d3 (HV T) (BU hr) (AS (AW AY (AI 0) AC (fun _ _=>rfl)) AB))))))) (AG (AJ BV)) AR)
   (AG (AJ (Aj (Ae EY (AW AY (AW AY (AI 0) AC (fun _ _=>rfl)) AC (fun _ _=>rfl)) (AI 1) rfl) (Aw (AO T.ev (Hs T) (BU hr) (AS (AW AY (AI 0) AC (fun _ _=>rfl)) AB)))))))),?_⟩
  try dsimp only[BC,Ar]
  obtain⟨a,q,v1,rfl,ha,hq,hv⟩:=hp
  obtain⟨m,nm,r0,r1,c0,c1⟩:=ck
  refine⟨_,rfl,a,_,2,rfl,ha,rfl,true,rfl,AX ?_⟩
  refine⟨_,rfl,a,_,_,_,rfl,rfl,Ao.of ha,A0,q,p.1.1,p.1.2.1,p.1.2.2,rfl,⟨hq,nm,r0,r1,c0,c1⟩,fun H1 s1=>⟨true,rfl,AX ?_⟩⟩
  have ha1:=s1 _ _ ha
  have hq1:H1 q=some (.tup [.str p.1.1,.int p.1.2.1,.int p.1.2.2]):=s1 _ _ hq
  refine⟨_,rfl,a,_,_,_,rfl,rfl,Ao.of ha1,A0,q,_,_,_,rfl,rfl,Ao.of hq1,A0,_,rfl,sa,_,rfl,F1 (s1 _ _ hs),rfl,(by simp[BP]),true,congrArg V.bl (by rw[if_neg (by decide),Oy,decide_eq_true m]),Ap ?_⟩
  exact⟨_,rfl,a,_,_,_,rfl,rfl,Ao.of ha1,Bo,v1,p.2,rfl,hv.kp (Kp.same s1),ok,fun H2 s2=>k _ (s1.trans s2)⟩
theorem JJ:AZ ["thing"] ["thing"] (AM Di):=BD
theorem Ht (T:Txt w K mg t):Az P w K mg base Bd 2 t.cf t.cg ["thing"] SX:=by
 have D:=T.ex
 refine D.fn.okX JJ ?_ (fun cdv A outer s H vs Q E hr h Z hZ=>?_)
 ·rintro _ _ _ _ ⟨a,b,zs,rfl,_⟩
  rfl
 ·obtain⟨a,b,zs,rfl,ha,ok,k⟩:=h
  have hu5:=K2 hr
  refine hZ ⟨_,((AF (Af (PW.pt (Bg (A7 (Av (AO T.eo (Ec T) (BU hr) (AA (AI 0) (AA (BO T.gl) AB))))) (Bg (AV An (AK Ac (by rfl) T.fm PySem.boot_len (AA (AI 0) AB)) AC (AN _)) (Ba (A7 (Av (AK (B0 rfl) (by rfl) T.fu B1 (Bp (Bh (fv:=[]) (js:=[]) (cl:=[]) rfl (by with_unfolding_all rfl) ⟨rfl,by nofun,by nofun,rfl,by nofun,by nofun,(List.forall_mem_nil _),(List.forall_mem_nil _),.nil⟩ (Gx (AI 0)) (fun _ _ _ _ _=>Bk) (fun _ _ _ _ _=>(AO T.d1 (Bv T) (BU hr) (AA (AI 0) AB)))) AB)))))))) (AG (AJ BV)) AR)
   (AG (AJ (Ae An (TSt.pe_lensetG (K4 hu5) rfl (by rfl) T.fm PySem.boot_len (by rfl) T.fy (AI 0)) (AK Ac (by rfl) T.fm PySem.boot_len (AA (AI 0) AB)) (AN _)))))),?_⟩
  try dsimp only[BC,Ar]
  obtain⟨h1,h4,nd,nm⟩:=ok
  have hl:(zs.map V.str).length=zs.length:=List.length_map ..
  refine⟨_,rfl,a,b,_,_,rfl,ha,(by rw[hl];omega),fun H1 s1=>⟨true,rfl,AX ?_⟩⟩
  have ha1:=s1 _ _ ha
  refine⟨_,rfl,a,_,rfl,F1 ha1,rfl,false,congrArg V.bl (decide_eq_false fun e=>by injection e with e;rw[hl]at e;omega),AX ?_⟩
  refine⟨_,rfl,?_⟩
  refine⟨a,b,rfl,⟨_,Ev.of ha1⟩,fun D hD=>?_⟩
  refine⟨fun i m H4=>m=zs.length-i∧i≤zs.length∧H4 D=some (.lst ((List.replicate i true).map V.bl))∧∀ b o,H1 b=some o→H4 b=some o,⟨zs.length,rfl,Nat.zero_le _,AD,fun b o e=>AH.new hD _ _ e⟩,?_⟩
  rintro i m H4 ⟨rfl,hi,hD4,s4⟩
  by_cases hlt:i<zs.length
  ·have hx0:(zs.map V.str)[i]?=some (V.str zs[i]):=by rw[List.getElem?_map,List.getElem?_eq_getElem hlt];rfl
   refine .inr ⟨⟨_,_,Ev.of (s4 _ _ ha1),hx0⟩,fun x H' y=>?_⟩
   obtain⟨e,y⟩:=y
   subst e
   have hx:=y _ (Ev.of (s4 _ _ ha1))
   rw[hx0]at hx
   cases hx
   refine⟨_,rfl,zs[i],rfl,nm _ (List.getElem_mem hlt),fun H5 s5=>?_⟩
   refine⟨_,s5 _ _ hD4,CP (by rw[List.length_map,List.length_replicate];omega),zs.length-(i+1),by omega,rfl,hlt,?_,fun b o e=>?_⟩
   ·rw[AD,List.replicate_succ',List.map_append];rfl
   ·rw[AT (Aa e hD)];exact s5 _ _ (s4 _ _ e)
  have e:i=zs.length:=by omega
  subst e
  refine .inl ⟨⟨_,Ev.of (s4 _ _ ha1),by rw[hl];exact Nat.le_refl _⟩,?_⟩
  refine⟨D,_,rfl,A3.of hD4,true,congrArg V.bl (by simp),AX ?_⟩
  refine⟨_,rfl,a,_,rfl,F1 (s4 _ _ ha1),by rw[hl];omega,.inl ⟨zs,rfl,nd⟩,_,rfl,a,_,rfl,F1 (s4 _ _ ha1),rfl,?_⟩
  exact Ew (congrArg V.bl (decide_eq_true rfl)) (k _ fun b o e=>s4 _ _ (s1 _ _ e))
theorem GL:AZ ["pairs"] ["pairs"] (AM Cc):=BD
theorem CT (T:Txt w K mg t):Az P w K mg base Bd 1 t.ch t.ci ["pairs"] SZ:=by
 have D:=T.ey
 refine D.fn.okX GL ?_ (fun cdv A outer s H vs Q E hr h Z hZ=>?_)
 ·rintro _ _ _ _ ⟨a,b,us,fs,rfl,_⟩
  rfl
 ·obtain⟨a,b,us,fs,rfl,ha,hh,el,h60,k⟩:=h
  have hu5:=K2 hr
  refine hZ ⟨_,((AG (AJ (Ae An (TSt.pe_lensetG (K4 hu5) rfl (by rfl) T.fm PySem.boot_len (by rfl) T.fy (Bh (fv:=[]) (js:=[]) (cl:=[]) rfl (by with_unfolding_all rfl) ⟨rfl,by nofun,by nofun,rfl,by nofun,by nofun,(List.forall_mem_nil _),(List.forall_mem_nil _),.nil⟩ (Gx (AI 0)) (fun _ _ _ _ _=>Bk) (fun _ _ _ _ _=>(AW GO (AI 0) AC (fun _ _=>rfl))))) (AK Ac (by rfl) T.fm PySem.boot_len (AA (AI 0) AB)) (AN _))))),?_⟩
  try dsimp only[BC,Ar]
  have hl:us.length=fs.length:=Paired.length hh
  refine⟨_,rfl,?_⟩
  refine⟨a,b,rfl,⟨_,Ev.of ha⟩,fun D hD=>?_⟩
  refine⟨fun i m H4=>m=us.length-i∧i≤us.length∧H4=upd H D (.lst (fs.take i)),⟨us.length,rfl,Nat.zero_le _,rfl⟩,?_⟩
  rintro i m H4 ⟨rfl,hi,rfl⟩
  have sD:∀ ws,AH H (upd H D (.lst ws)):=fun ws=>AH.new hD
  by_cases hlt:i<us.length
  ·refine .inr ⟨⟨_,_,Ev.of (sD _ _ _ ha),List.getElem?_eq_getElem hlt⟩,fun x H' y=>?_⟩
   obtain⟨e,y⟩:=y
   subst e
   have hx:=y _ (Ev.of (sD _ _ _ ha))
   obtain⟨z,hz,q,r,rfl,hb⟩:=BW hh hx
   refine⟨_,rfl,q,_,_,_,rfl,rfl,Ao.of (sD _ _ _ hb),A0,_,AD,CP (by rw[List.length_take];omega),us.length-(i+1),(by omega),rfl,hlt,?_⟩
   rw[GN,List.take_add_one,hz];rfl
  have ei:i=us.length:=by omega
  subst ei
  refine .inl ⟨⟨_,Ev.of (sD _ _ _ ha),Nat.le_refl _⟩,?_⟩
  rw[hl,List.take_length]
  refine⟨D,fs,rfl,.inl (A3.of AD),(by omega),?_,_,rfl,a,_,rfl,F1 (sD _ _ _ ha),rfl,?_⟩
  ·rcases el with⟨zs,e,nd⟩ | ⟨cs,hp,nd⟩
   ·exact .inl ⟨zs,e,nd⟩
   ·refine .inr ⟨cs.map GS.ckK,Lx (Paired.imp' (fun v c ⟨b,e,z⟩=>⟨b,e,sD _ _ _ z⟩) hp),?_⟩
    exact List.Pairwise.map GS.ckK (fun a b hab e=>hab (HJ e)) nd
  ·exact Ew (congrArg V.bl (decide_eq_true (by rw[hl]))) (k _ (sD _))
theorem KM:AZ ["thing","sheets"] ["thing","sheets"] (AM EN):=BD
theorem JK (T:Txt w K mg t):Az P w K mg base Bd 37 t.cj t.ck ["thing","sheets"] Ql:=by
 have D:=T.ez
 refine D.fn.okX KM ?_ (fun cdv A outer s H vs Q E hr h Z hZ=>?_)
 ·rintro _ _ _ _ ⟨a,sa,b,b2,us,zs,cs,rfl,_⟩
  rfl
 ·obtain⟨a,sa,b,b2,us,zs,cs,rfl,ha,hs,he,ok,k⟩:=h
  refine hZ ⟨_,((AF (Af (PW.pt (Bg (A7 (Av (AO T.eo (Ec T) (BU hr) (AA (AI 0) (AA (BO T.gm) AB))))) (Ba (A7 (Av (AK (B0 rfl) (by rfl) T.fu B1 (Bp (Bh (fv:=["sheets"]) (js:=[1]) (cl:=[("sheets",s.heap.objs.size+1)]) rfl (by with_unfolding_all rfl) ⟨rfl,by nofun,by nofun,rfl,by nofun,by nofun,(List.forall_mem_cons.mpr ⟨⟨rfl,rfl,rfl⟩,(List.forall_mem_nil _)⟩),(List.forall_mem_cons.mpr ⟨rfl,(List.forall_mem_nil _)⟩),(.cons rfl .nil)⟩ (Gx (AI 0)) (fun _ _ _ _ _=>Bk) (fun _ _ _ _ _=>(AO T.ew (GK T) (BU hr) (AA (AI 0) (AA (AI 1) AB))))) AB))))))) (AG (AJ BV)) AR)
   (AG (AJ (AO T.ey (CT T) (BU hr) (AA (AI 0) AB)))))),?_⟩
  try dsimp only[BC,Ar]
  obtain⟨h60,nd,eo⟩:=ok
  have hl:us.length=cs.length:=Paired.length he
  refine⟨_,rfl,a,b,_,_,rfl,ha,(by omega),fun H1 s1=>⟨true,rfl,AX ?_⟩⟩
  have ha1:=s1 _ _ ha
  refine⟨_,rfl,?_⟩
  refine⟨a,b,rfl,⟨_,Ev.of ha1⟩,fun D hD=>?_⟩
  refine⟨fun i m H4=>m=us.length-i∧i≤us.length∧H4 D=some (.lst ((List.replicate i true).map V.bl))∧∀ b o,H1 b=some o→H4 b=some o,⟨us.length,rfl,Nat.zero_le _,AD,fun b o e=>AH.new hD _ _ e⟩,?_⟩
  rintro i m H4 ⟨rfl,hi,hD4,s4⟩
  by_cases hlt:i<us.length
  ·refine .inr ⟨⟨_,_,Ev.of (s4 _ _ ha1),List.getElem?_eq_getElem hlt⟩,fun x H' y=>?_⟩
   obtain⟨e,y⟩:=y
   subst e
   have hx:=y _ (Ev.of (s4 _ _ ha1))
   have s04:AH H H':=fun b o q=>s4 _ _ (s1 _ _ q)
   obtain⟨e,hz,hb⟩:=BW he hx
   obtain⟨eo1,eo2⟩:=eo e (List.mem_of_getElem? hz)
   refine⟨_,rfl,_,rfl,x,sa,b2,zs,e,rfl,s04 _ _ hs,hb.kp (Kp.same s04),eo1,eo2,fun H5 s5=>?_⟩
   refine⟨_,s5 _ _ hD4,CP (by rw[List.length_map,List.length_replicate];omega),us.length-(i+1),by omega,rfl,hlt,?_,fun b o e=>?_⟩
   ·rw[AD,List.replicate_succ',List.map_append];rfl
   ·rw[AT (Aa e hD)];exact s5 _ _ (s4 _ _ e)
  have e:i=us.length:=by omega
  subst e
  refine .inl ⟨⟨_,Ev.of (s4 _ _ ha1),Nat.le_refl _⟩,?_⟩
  refine⟨D,_,rfl,A3.of hD4,true,congrArg V.bl (by simp),AX ?_⟩
  have s14:AH H H4:=fun b o e=>s4 _ _ (s1 _ _ e)
  obtain⟨fs,f1,f2⟩:=Ly (Paired.imp' (fun _ _ x=>x.kp (Kp.same s14)) he)
  exact⟨_,rfl,a,b,us,fs,rfl,s14 _ _ ha,f1,.inr ⟨_,f2,nd⟩,(by omega),fun H3 s3=>k _ (s14.trans s3)⟩
theorem KN:AZ ["thing"] ["thing"] (AM EO):=BD
theorem JL (T:Txt w K mg t):Az P w K mg base Bd 36 t.cl t.cm ["thing"] (Pc false):=by
 have D:=T.e0
 refine D.fn.okX KN ?_ (fun cdv A outer s H vs Q E hr h Z hZ=>?_)
 ·rintro _ _ _ _ ⟨a,b,us,es,rfl,_⟩
  rfl
 ·obtain⟨a,b,us,es,rfl,ha,he,ok,k⟩:=h
  refine hZ ⟨_,((AG (AJ (Aj (AO T.eo (Ec T) (BU hr) (AA (AI 0) (AA (BO T.gn) AB))) (Aj (AK (B0 rfl) (by rfl) T.fu B1 (Bp (Bh (fv:=[]) (js:=[]) (cl:=[]) rfl (by with_unfolding_all rfl) ⟨rfl,by nofun,by nofun,rfl,by nofun,by nofun,(List.forall_mem_nil _),(List.forall_mem_nil _),.nil⟩ (Gx (AI 0)) (fun _ _ _ _ _=>Bk) (fun _ _ _ _ _=>(AO T.et (GJ T) (BU hr) (AA (AI 0) AB)))) AB)) (Aw (AO T.ey (CT T) (BU hr) (AA (AI 0) AB)))))))),?_⟩
  try dsimp only[BC,Ar]
  obtain⟨h6,nd,eo⟩:=ok
  have h6:es.length≤8:=h6
  have hl:us.length=es.length:=Paired.length he
  refine⟨_,rfl,a,b,_,_,rfl,ha,(by omega),fun H1 s1=>⟨true,rfl,Ap ?_⟩⟩
  have ha1:=s1 _ _ ha
  refine⟨_,rfl,?_⟩
  refine⟨a,b,rfl,⟨_,Ev.of ha1⟩,fun D hD=>?_⟩
  refine⟨fun i m H4=>m=us.length-i∧i≤us.length∧H4 D=some (.lst ((List.replicate i true).map V.bl))∧∀ b o,H1 b=some o→H4 b=some o,⟨us.length,rfl,Nat.zero_le _,AD,fun b o e=>AH.new hD _ _ e⟩,?_⟩
  rintro i m H4 ⟨rfl,hi,hD4,s4⟩
  by_cases hlt:i<us.length
  ·refine .inr ⟨⟨_,_,Ev.of (s4 _ _ ha1),List.getElem?_eq_getElem hlt⟩,fun x H' y=>?_⟩
   obtain⟨e,y⟩:=y
   subst e
   have hx:=y _ (Ev.of (s4 _ _ ha1))
   have s04:AH H H':=fun b o q=>s4 _ _ (s1 _ _ q)
   obtain⟨e,hz,hb⟩:=BW he hx
   refine⟨_,rfl,x,e,rfl,hb.kp (Kp.same s04),eo e (List.mem_of_getElem? hz),fun H5 s5=>?_⟩
   refine⟨_,s5 _ _ hD4,CP (by rw[List.length_map,List.length_replicate];omega),us.length-(i+1),by omega,rfl,hlt,?_,fun b o e=>?_⟩
   ·rw[AD,List.replicate_succ',List.map_append];rfl
   ·rw[AT (Aa e hD)];exact s5 _ _ (s4 _ _ e)
  have e:i=us.length:=by omega
  subst e
  refine .inl ⟨⟨_,Ev.of (s4 _ _ ha1),Nat.le_refl _⟩,?_⟩
  refine⟨D,_,rfl,A3.of hD4,true,congrArg V.bl (by simp),Ap ?_⟩
  have s14:AH H H4:=fun b o e=>s4 _ _ (s1 _ _ e)
  refine⟨_,rfl,a,b,us,(es.map (·.1)).map V.str,rfl,s14 _ _ ha,?_,.inl ⟨_,rfl,nd⟩,(by omega),fun H3 s3=>k _ (s14.trans s3)⟩
  rw[List.map_map]
  exact Lx (Paired.imp' (fun _ _ x=>(x.kp (Kp.same s14)).fst) he)
theorem LI:AZ ["thing"] ["thing"] (AM E6):=BD
theorem KO (T:Txt w K mg t):Az P w K mg base Bd 36 t.cn t.co ["thing"] (Pc true):=by
 have D:=T.e1
 refine D.fn.okX LI ?_ (fun cdv A outer s H vs Q E hr h Z hZ=>?_)
 ·rintro _ _ _ _ ⟨a,b,us,es,rfl,_⟩
  rfl
 ·obtain⟨a,b,us,es,rfl,ha,he,ok,k⟩:=h
  refine hZ ⟨_,((AG (AJ (Aj (AO T.eo (Ec T) (BU hr) (AA (AI 0) (AA (BO T.go) AB))) (Aj (AK (B0 rfl) (by rfl) T.fu B1 (Bp (Bh (fv:=[]) (js:=[]) (cl:=[]) rfl (by with_unfolding_all rfl) ⟨rfl,by nofun,by nofun,rfl,by nofun,by nofun,(List.forall_mem_nil _),(List.forall_mem_nil _),.nil⟩ (Gx (AI 0)) (fun _ _ _ _ _=>Bk) (fun _ _ _ _ _=>(AO T.eu (Me T) (BU hr) (AA (AI 0) AB)))) AB)) (Aw (AO T.ey (CT T) (BU hr) (AA (AI 0) AB)))))))),?_⟩
  try dsimp only[BC,Ar]
  obtain⟨h6,nd,eo⟩:=ok
  have h6:es.length≤6:=h6
  have hl:us.length=es.length:=Paired.length he
  refine⟨_,rfl,a,b,_,_,rfl,ha,(by omega),fun H1 s1=>⟨true,rfl,Ap ?_⟩⟩
  have ha1:=s1 _ _ ha
  refine⟨_,rfl,?_⟩
  refine⟨a,b,rfl,⟨_,Ev.of ha1⟩,fun D hD=>?_⟩
  refine⟨fun i m H4=>m=us.length-i∧i≤us.length∧H4 D=some (.lst ((List.replicate i true).map V.bl))∧∀ b o,H1 b=some o→H4 b=some o,⟨us.length,rfl,Nat.zero_le _,AD,fun b o e=>AH.new hD _ _ e⟩,?_⟩
  rintro i m H4 ⟨rfl,hi,hD4,s4⟩
  by_cases hlt:i<us.length
  ·refine .inr ⟨⟨_,_,Ev.of (s4 _ _ ha1),List.getElem?_eq_getElem hlt⟩,fun x H' y=>?_⟩
   obtain⟨e,y⟩:=y
   subst e
   have hx:=y _ (Ev.of (s4 _ _ ha1))
   have s04:AH H H':=fun b o q=>s4 _ _ (s1 _ _ q)
   obtain⟨e,hz,hb⟩:=BW he hx
   refine⟨_,rfl,x,e,rfl,hb.kp (Kp.same s04),eo e (List.mem_of_getElem? hz),fun H5 s5=>?_⟩
   refine⟨_,s5 _ _ hD4,CP (by rw[List.length_map,List.length_replicate];omega),us.length-(i+1),by omega,rfl,hlt,?_,fun b o e=>?_⟩
   ·rw[AD,List.replicate_succ',List.map_append];rfl
   ·rw[AT (Aa e hD)];exact s5 _ _ (s4 _ _ e)
  have e:i=us.length:=by omega
  subst e
  refine .inl ⟨⟨_,Ev.of (s4 _ _ ha1),Nat.le_refl _⟩,?_⟩
  refine⟨D,_,rfl,A3.of hD4,true,congrArg V.bl (by simp),Ap ?_⟩
  have s14:AH H H4:=fun b o e=>s4 _ _ (s1 _ _ e)
  refine⟨_,rfl,a,b,us,(es.map (·.1)).map V.str,rfl,s14 _ _ ha,?_,.inl ⟨_,rfl,nd⟩,(by omega),fun H3 s3=>k _ (s14.trans s3)⟩
  rw[List.map_map]
  exact Lx (Paired.imp' (fun _ _ x=>(x.kp (Kp.same s14)).fst) he)
theorem Fa:AZ ["pairs"] ["pairs"] (AM CL):=BD
theorem B8 (T:Txt w K mg t)(hC:PySem.W.CodeHd base t.e2 t.dv)(hB:BM mg base):Az P w K mg base Bd 4 t.cp t.cq ["pairs"] (Se t.dv):=by
 have D:=T.e2
 refine D.fn.okCX Fa ?_ (fun cdv A outer s H vs Q E hcd hr h Z hZ=>?_)
 ·rintro _ _ _ _ ⟨a,rfl,_⟩
  rfl
 ·obtain⟨a,rfl,ht,hs⟩:=h
  refine hZ ⟨_,((AG (AJ (BH BN (by rfl) T.fs Ay (Aq (GS.pe_sortG (k:=1) (BU hr) (by rfl) T.fx (AI 0) (QI (clos:=[]) rfl (by with_unfolding_all rfl) (hcd.symm.trans T.hm) hC hB)) AB))))),?_⟩
  try dsimp only[BC,Ar]
  refine⟨_,rfl,ht,fun lf H2 nf keep tab lam=>?_⟩
  obtain⟨tb,hP,_⟩:=id ht
  have neP:∀{b:Addr} {o:HO},H b=some o→(∀ ts,o≠.tbl ts)→b≠t.dv:=fun h n e=>by rw[e,hP]at h;cases h;exact n _ rfl
  obtain⟨c,ctv,hlf,hcd'⟩:=lam
  refine⟨a,lf,qS,(fun vs H Q E=>∃ v f:V,vs=[v]∧F2 H v f∧Q f H),rfl,rfl,fun base' W=>?_,?_⟩
  ·refine W.lam (k:=0) (ps:=["pair"]) (fv:=[]) (js:=[]) hlf hcd' ⟨rfl,rfl,rfl,by nofun,(List.forall_mem_cons.mpr ⟨rfl,(List.forall_mem_nil _)⟩),by nofun,by nofun,(List.forall_mem_nil _),(List.forall_mem_nil _),.nil⟩ (fun us hl=>by obtain⟨_,rfl⟩:=S9 hl;rfl) (fun vs H Q E h=>?_) (fun A outer s H vs Q E hr h=>?_)
   ·obtain⟨v,f,rfl,_⟩:=h
    rfl
   ·obtain⟨v,f,rfl,⟨b,r,e,hb⟩,q⟩:=h
    refine⟨_,(AW AY (AI 0) AC (fun _ _=>rfl)),?_⟩
    rw[e]
    exact⟨_,rfl,b,_,_,_,rfl,rfl,Ao.of hb,A0,q⟩
  have fd:∀{v f:V},F2 H v f→F2 (Ij qS H2) v f:=fun⟨b,r,e,hb⟩=>⟨b,r,e,Gs (keep _ _ (neP hb (fun _ z=>by cases z)) hb) rfl⟩
  rcases hs with hs | hs
  ·refine .inl ?_
   obtain⟨b,ps,ha,h64,nd,hh,k⟩:=hs
   have ha2:=keep _ _ (neP ha (fun _ z=>by cases b <;> cases z)) ha
   refine⟨ps,(Ev.of ha2).or,h64,nd,fun p hp=>?_,fun l qs hl m1 m2 m3=>?_⟩
   ·exact⟨p.1,.str p.2,rfl,fd (hh p hp),rfl,rfl⟩
   refine⟨l,_,rfl,.inl ⟨A3.of AD,fun q hq=>?_⟩⟩
   exact k q qs _ m1 m2 m3 AD (fun b o hb e=>AH.new hq _ _ (AH.new hl _ _ (keep b o hb e))) ((tab.sm (AH.new hl)).sm (AH.new hq))
  ·refine .inr ?_
   obtain⟨b,ps,ha,h64,nd,hh,k⟩:=hs
   have ha2:=keep _ _ (neP ha (fun _ z=>by cases b <;> cases z)) ha
   refine⟨ps,(Ev.of ha2).or,h64,nd,fun p hp=>?_,fun l qs hl m1 m2 m3=>?_⟩
   ·obtain⟨x,fx,hx⟩:=hh p hp
    exact⟨p.1,.ref x,rfl,fd fx,⟨x,rfl,keep _ _ (neP hx (fun _ z=>by cases z)) hx⟩,rfl⟩
   refine⟨l,_,rfl,.inl ⟨A3.of AD,fun q hq=>?_⟩⟩
   exact k q qs _ m1 m2 m3 AD (fun b o hb e=>AH.new hq _ _ (AH.new hl _ _ (keep b o hb e))) ((tab.sm (AH.new hl)).sm (AH.new hq))
theorem Mf:AZ ["sheets","cells","names","owns","rounds"] ["sheets","cells","names","owns","rounds"] (AM Fw):=BD
theorem Hc (T:Txt w K mg t)(hC:PySem.W.CodeHd base t.e2 t.dv)(hB:BM mg base):Az P w K mg base Bd 40 t.cr t.cs ["sheets","cells","names","owns","rounds"] (Sg t.dv):=by
 have D:=T.e3
 refine D.fn.okX Mf ?_ (fun cdv A outer s H vs Q E hr h Z hZ=>?_)
 ·rintro _ _ _ _ ⟨a,c,n,o,b1,b2,b3,b4,xs,us,ws,zs,cs,ns,os,r,rfl,_⟩
  rfl
 ·obtain⟨a,c,n,o,b1,b2,b3,b4,xs,us,ws,zs,cs,ns,os,r,rfl,ha,hc,hn,ho,ec,en,eo,ok,okc,okn,oko,r0,r4,ht,k⟩:=h
  refine hZ ⟨_,((AF (Af (A7 (Av (AO T.ex (Ht T) (BU hr) (AA (AI 0) AB)))) (AG Dw) AR)
   (AF (Af (A7 (Av (AO T.ez (JK T) (BU hr) (AA (AI 1) (AA (AI 0) AB))))) (AG Dw) AR)
   (AF (Af (A7 (Av (AO T.e0 (JL T) (BU hr) (AA (AI 2) AB)))) (AG Dw) AR)
   (AF (Af (A7 (Av (AO T.e1 (KO T) (BU hr) (AA (AI 3) AB)))) (AG Dw) AR)
   (AF (Af (A7 (Av (AO T.ep (F6 T) (BU hr) (AA (AI 4) (AA (BO T.gp) AB))))) (AG Dw) AR)
   (AG (AJ (Ai (Aq (BH J9 (by rfl) T.fs Ay (AA (AI 0) AB)) (Aq (AO T.e2 (B8 T hC hB) (hr.mono (by omega)) (AA (AI 1) AB)) (Aq (AO T.e2 (B8 T hC hB) (hr.mono (by omega)) (AA (AI 2) AB)) (Aq (AO T.e2 (B8 T hC hB) (hr.mono (by omega)) (AA (AI 3) AB)) (AA (AI 4) AB)))))))))))))),?_⟩
  try dsimp only[BC,Ar]
  refine⟨_,rfl,a,b1,zs,rfl,ha,ok,fun H1 s1=>⟨true,rfl,AX ?_⟩⟩
  refine⟨_,rfl,_,rfl,c,a,b2,b1,xs,zs,cs,rfl,s1 _ _ hc,s1 _ _ ha,Paired.imp' (fun _ _ x=>x.kp (Kp.same s1)) ec,okc,fun H2 s2=>⟨true,rfl,AX ?_⟩⟩
  have s02:=s1.trans s2
  refine⟨_,rfl,n,b3,us,ns,rfl,s02 _ _ hn,Paired.imp' (fun _ _ x=>x.kp (Kp.same s02)) en,okn,fun H3 s3=>⟨true,rfl,AX ?_⟩⟩
  have s03:=s02.trans s3
  refine⟨_,rfl,o,b4,ws,os,rfl,s03 _ _ ho,Paired.imp' (fun _ _ x=>x.kp (Kp.same s03)) eo,oko,fun H4 s4=>⟨true,rfl,AX ?_⟩⟩
  have s04:=s03.trans s4
  refine⟨_,rfl,r,4,rfl,r0,r4,fun H4' s4'=>⟨true,rfl,AX ?_⟩⟩
  have s04:=s04.trans s4'
  have ha4:=s04 _ _ ha
  obtain⟨tb0,hP,_⟩:=id ht
  have kpX:∀{G G':Hp},Bq G t.dv qS→KeepX t.dv G G'→Kp G G':=fun⟨x,hx,_⟩ kk b xs e=>kk b _ (DB e hx (by intro z;cases z)) e
  have nP:∀{b:Addr} {o:HO},H b=some o→(∀ ts,o≠.tbl ts)→b≠t.dv:=fun h n e=>by rw[e,hP]at h;cases h;exact n _ rfl
  refine⟨_,rfl,a,b1,_,rfl,ha4,fun t1 H5 s5' o1=>?_⟩
  have s5:=s04.trans s5'
  have tb5:=ht.sm s5
  refine⟨_,rfl,c,rfl,tb5,.inr (K6 (F:=Cg) (key:=fun(p:Pr)=>p.1) (s5 _ _ hc) (Paired.imp' (fun _ _ (x:Cg H _ _)=>x.kp (Kp.same s5)) ec) (fun x=>x.hd) (by have:=okc.1;omega) okc.2.1 fun t2 q2 cs' H6 pc sc o2 k6 tb6=>?_)⟩
  have q56:=kpX tb5 k6
  refine⟨_,rfl,n,rfl,tb6,.inl (K6 (F:=BS false) (key:=fun(e:DZ)=>e.1) (k6 _ _ (nP hn JC) (s5 _ _ hn)) (Paired.imp' (fun _ _ (x:BS false H _ _)=>x.kp ((Kp.same s5).trans q56)) en) (fun x=>x.hd) (by have:ns.length≤8:=okn.1;omega) okn.2.1 fun t3 q3 ns' H7 pn sn o3 k7 tb7=>?_)⟩
  have q67:=kpX tb6 k7
  refine⟨_,rfl,o,rfl,tb7,.inl (K6 (F:=BS true) (key:=fun(e:DZ)=>e.1) (k7 _ _ (nP ho JC) (k6 _ _ (nP ho JC) (s5 _ _ ho))) (Paired.imp' (fun _ _ (x:BS true H _ _)=>x.kp (((Kp.same s5).trans q56).trans q67)) eo) (fun x=>x.hd) (by have:os.length≤6:=oko.1;omega) oko.2.1 fun t4 q4 os' H8 po so o4 k8 tb8=>?_)⟩
  have q78:=kpX tb7 k8
  refine⟨_,rfl,(by show 5≤sizeLine;decide),fun b hb=>?_⟩
  have sb:=AH.new (o:=.tup [.ref t1,.ref t2,.ref t3,.ref t4,.int r]) hb
  have qb:=Kp.same sb
  have q8:=q78.trans qb
  have q7:=q67.trans q8
  exact k b cs' ns' os' _ ⟨t1,t2,t3,t4,q2,q3,q4,AD,q7 _ _ (q56 _ _ o1),q7 _ _ o2,q8 _ _ o3,qb _ _ o4,Paired.imp' (fun _ _ x=>x.kp (q56.trans q7)) pc,Paired.imp' (fun _ _ x=>x.kp q7) pn,Paired.imp' (fun _ _ x=>x.kp q8) po⟩ sc sn so (fun x u hx e=>sb _ _ (k8 _ _ hx (k7 _ _ hx (k6 _ _ hx (s5 _ _ e))))) (tb8.sm sb)
theorem Fb:AZ ["book","cell","pair"] ["book","cell"] (AM Dj):=BD
theorem Em (T:Txt w K mg t):Az P w K mg base Bd 1 t.ct t.cu ["book","cell"] Sh:=by
 have D:=T.e4
 refine D.fn.okX Fb ?_ (fun cdv A outer s H vs Q E hr h Z hZ=>?_)
 ·rintro _ _ _ _ ⟨bk,q,zs,cs,ns,os,r,c,rfl,_⟩
  rfl
 ·obtain⟨bk,q,zs,cs,ns,os,r,c,rfl,hb,hq,k1,k2⟩:=h
  have hu:=hr.units0
  refine hZ ⟨_,((AF (Dx PassesOwn.never rfl (Ml (AW AY (AI 0) AC (fun _ _=>rfl))) (Be (i:=2) Fb.nd rfl (Or.inl rfl))
   (AG (Af (AV (P5 hu) (AW AY (AI 2) AC (fun _ _=>rfl)) (AI 1) (AN _)) (AG (AJ (AW AY (AI 2) AC (fun _ _=>rfl)))) AR)))
   (AG (AJ Da)))),?_⟩
  try dsimp only[BC,Ar]
  obtain⟨t1,t2,t3,t4,xs,us,ws,e0,e1,e2,e3,e4,pc,pn,po⟩:=hb
  have hl:xs.length=cs.length:=Paired.length pc
  refine⟨_,rfl,bk,_,_,_,rfl,rfl,Ao.of e0,Bo,t2,rfl,⟨_,Ao.of e2⟩,?_⟩
  refine OG (xs:=xs) (fun i σ H5=>∃ x2:Option V,σ=[some (.ref bk),some (.ref q),x2]∧H5=H∧c∉(cs.take i).map (·.1)) ⟨_,rfl,rfl,by simp⟩ (fun i σ H5 _ ⟨_,_,e,_⟩=>by subst e;exact Ao.of e2) ?_ ?_
  ·rintro i x σ H5 hx ⟨x2,rfl,rfl,no⟩
   obtain⟨p,hp,a,b,v1,rfl,ha,hbb,hv⟩:=BW pc hx
   refine⟨_,rfl,a,_,_,_,rfl,rfl,Ao.of ha,A0,_,rfl,b,q,_,_,rfl,rfl,Ao.of hbb,Ao.of hq,rfl,rfl,_,rfl,?_⟩
   rw[if_neg (by decide),O3]
   by_cases e:p.1=c
   ·rw[decide_eq_true e]
    refine Ap ⟨_,rfl,a,_,_,_,rfl,rfl,Ao.of ha,Bo,k1 p.2 v1 ?_ hv⟩
    rw[← e]
    exact List.mem_of_getElem? hp
   ·rw[decide_eq_false e]
    refine AX ⟨_,rfl,rfl,?_⟩
    rw[List.take_add_one,hp,List.map_append,List.mem_append]
    rintro(z | z)
    ·exact no z
    ·simp at z
     exact e z.symm
  ·rintro σ H5 ⟨x2,rfl,rfl,no⟩
   rw[hl,List.take_length]at no
   exact k2 no
theorem Fc:AZ ["_law_pen_here","_law_way"] ["_law_pen_here"] (AM Dk):=BD
theorem En (T:Txt w K mg t):Az P w K mg base Bd 2 t.cv t.cw ["_law_pen_here"] (Sj K):=by
 have D:=T.e5
 refine D.fn.okX Fc ?_ (fun cdv A outer s H vs Q E hr h Z hZ=>?_)
 ·rintro _ _ _ _ ⟨p,n,S,rfl,_⟩
  rfl
 ·obtain⟨p,n,S,rfl,hpen,hn,k⟩:=h
  refine hZ ⟨_,((AF (Al (i:=1) Fc.nd rfl (Or.inl rfl) (AO T.dw (AQ T) (BU hr) (AA (AI 0) (AE AC AB))))
   (AF (Af (AV An (AI 1) AC (AN _)) (AG (AJ (Ai (AE AU (AS (AW A5 (A8 (AE AU (AE AU (AE AU (AE AU AB))))) (AO T.dw (AQ T) (BU hr) (AA (AI 0) (AE AC AB))) (fun _ _=>rfl)) AB))))) AR)
   (AF (Af (AV An (AI 1) AC (AN _)) (AG (AJ (Ai (AE AU (ED (Ae An (AO T.dw (AQ T) (BU hr) (AA (AI 0) (AE AC AB))) AC (AN _)) AB))))) AR)
   (AG (AJ (Ai (AE AU (AS (AW A5 (A8 (AE AC (AE AC (AE AC (AE AC (AE AC AB)))))) (AO T.dw (AQ T) (BU hr) (AA (AI 0) (AE AC AB))) (fun _ _=>rfl)) (AE AC AB)))))))))),?_⟩
  try dsimp only[BC,Ar]
  refine⟨_,rfl,p,_,_,_,rfl,(by show(0:Int)<_;decide),Ag (by decide) (by decide),hpen,(by omega),fun r1 H1 a1 b1 pen1 kp1=>?_⟩
  refine⟨_,rfl,rfl,_,rfl,CA (fun _=>?_) (fun _=>?_)⟩
  ·refine⟨(by show 4≤sizeLine;decide),fun q2 h2=>⟨_,rfl,p,_,_,_,rfl,(by show(0:Int)<_;decide),Ag (by decide) (by decide),(pen1.same (AH.new h2)),(by omega),fun r2 H2 a2 b2 pen2 kp2=>?_⟩⟩
   obtain⟨z,ez,pz⟩:=Ea (L:=[vS "",vS "ab",vS "a b",vS "b7"]) (P:=UI) (by nofun) a2 b2
   refine⟨q2,_,_,_,rfl,rfl,A3.of (kp2 _ _ (pen1.ne h2) AD),ez,BB,fun q hq=>?_⟩
   exact k q (.txt z) _ AD (Qo pz) trivial (pen2.same (AH.new hq)) (kp1.trans ((AH.keep (AH.new h2)).trans (kp2.trans (AH.keep (AH.new hq)))))
  refine⟨_,rfl,rfl,_,rfl,CA (fun _=>?_) (fun _=>?_)⟩
  ·refine⟨_,rfl,p,_,_,_,rfl,(by show(0:Int)<_;decide),Ag (by decide) (by decide),pen1,(by omega),fun r2 H2 a2 b2 pen2 kp2=>⟨rfl,BB,fun q hq=>?_⟩⟩
   exact k q (.tru _) _ AD trivial trivial (pen2.same (AH.new hq)) (kp1.trans (kp2.trans (AH.keep (AH.new hq))))
  ·refine⟨(by show 5≤sizeLine;decide),fun q2 h2=>⟨_,rfl,p,_,_,_,rfl,(by show(0:Int)<_;decide),Ag (by decide) (by decide),(pen1.same (AH.new h2)),(by omega),fun r2 H2 a2 b2 pen2 kp2=>?_⟩⟩
   obtain⟨i,ei,i0,i9⟩:=FR (L:=[.int 0,.int 1,.int 2,.int 7,.int 999999999]) (lo:=0) (hi:=999999999) (by nofun) a2 b2
   refine⟨q2,_,_,_,rfl,rfl,A3.of (kp2 _ _ (pen1.ne h2) AD),ei,A6,fun q hq=>?_⟩
   exact k q (.num i 1) _ AD ⟨Lu,by omega,by decide⟩ ⟨rfl,i0,i9⟩ (pen2.same (AH.new hq)) (kp1.trans ((AH.keep (AH.new h2)).trans (kp2.trans (AH.keep (AH.new hq)))))
theorem DT:AZ ["_law_pen_here","_law_row","_law_column"] ["_law_pen_here"] (AM DQ):=BD
theorem He (T:Txt w K mg t):Az P w K mg base Bd 2 t.cx t.cy ["_law_pen_here"] (Sk K):=by
 have D:=T.e6
 refine D.fn.okX DT ?_ (fun cdv A outer s H vs Q E hr h Z hZ=>?_)
 ·rintro _ _ _ _ ⟨p,n,S,rfl,_⟩
  rfl
 ·obtain⟨p,n,S,rfl,hpen,hn,k⟩:=h
  refine hZ ⟨_,((AF (Al (i:=1) DT.nd rfl (Or.inl rfl) (AW A5 (A8 (AE AC (AE AC (AE AC (AE AC (AE AC (AE AC (AE AC (AE AC AB))))))))) (AO T.dw (AQ T) (BU hr) (AA (AI 0) (AE AC AB))) (fun _ _=>rfl)))
   (AF (Al (i:=2) DT.nd rfl (Or.inl rfl) (AW A5 (A8 (AE AC (AE AC (AE AC (AE AC (AE AC (AE AC (AE AC (AE AC AB))))))))) (AO T.dw (AQ T) (BU hr) (AA (AI 0) (AE AC AB))) (fun _ _=>rfl)))
   (AG (AJ (Ai (AA (AI 1) (AA (AI 2) (ED (Ae An (AO T.dw (AQ T) (BU hr) (AA (AI 0) (AE AC AB))) AC (AN _)) (ED (Ae An (AO T.dw (AQ T) (BU hr) (AA (AI 0) (AE AC AB))) AC (AN _)) AB)))))))))),?_⟩
  try dsimp only[BC,Ar]
  refine⟨(by show 8≤sizeLine;decide),fun q1 h1=>⟨_,rfl,p,_,_,_,rfl,(by show(0:Int)<_;decide),Ag (by decide) (by decide),(hpen.same (AH.new h1)),(by omega),fun r1 H1 a1 b1 pen1 kp1=>?_⟩⟩
  obtain⟨i,ei,i0,i9⟩:=FR (L:=[.int 1,.int 2,.int 3,.int 4,.int 16,.int 15,.int 2,.int 1]) (lo:=1) (hi:=16) (by nofun) a1 b1
  refine⟨q1,_,_,_,rfl,rfl,A3.of (kp1 _ _ (hpen.ne h1) AD),ei,?_⟩
  refine⟨(by show 8≤sizeLine;decide),fun q2 h2=>⟨_,rfl,p,_,_,_,rfl,(by show(0:Int)<_;decide),Ag (by decide) (by decide),(pen1.same (AH.new h2)),(by omega),fun r2 H2 a2 b2 pen2 kp2=>?_⟩⟩
  obtain⟨j,ej,j0,j9⟩:=FR (L:=[.int 1,.int 2,.int 3,.int 4,.int 8,.int 7,.int 2,.int 1]) (lo:=1) (hi:=8) (by nofun) a2 b2
  refine⟨q2,_,_,_,rfl,rfl,A3.of (kp2 _ _ (pen1.ne h2) AD),ej,?_⟩
  refine⟨_,rfl,_,rfl,_,rfl,p,_,_,_,rfl,(by show(0:Int)<_;decide),Ag (by decide) (by decide),pen2,(by omega),fun r3 H3 a3 b3 pen3 kp3=>⟨rfl,_,rfl,p,_,_,_,rfl,(by show(0:Int)<_;decide),Ag (by decide) (by decide),pen3,(by omega),fun r4 H4 a4 b4 pen4 kp4=>⟨rfl,(by show 4≤sizeLine;decide),fun q hq=>?_⟩⟩⟩
  exact k q ⟨i,j,decide (V.int r3=V.int 1),decide (V.int r4=V.int 1)⟩ _ AD ⟨i0,i9,j0,j9⟩ (pen4.same (AH.new hq)) ((AH.keep (AH.new h1)).trans (kp1.trans ((AH.keep (AH.new h2)).trans (kp2.trans (kp3.trans (kp4.trans (AH.keep (AH.new hq))))))))
theorem Fd:AZ ["_law_pen_here","_law_sheets_here","_law_told_on"] ["_law_pen_here","_law_sheets_here","_law_told_on"] (AM CM):=BD
theorem FA (T:Txt w K mg t):Az P w K mg base Bd 2 t.cz t.c0 ["_law_pen_here","_law_sheets_here","_law_told_on"] (Sl K):=by
 have D:=T.e7
 refine D.fn.okX Fd ?_ (fun cdv A outer s H vs Q E hr h Z hZ=>?_)
 ·rintro _ _ _ _ ⟨p,sl,zs,n,S,tn,rfl,_⟩
  rfl
 ·obtain⟨p,sl,zs,n,S,tn,rfl,hpen,hn,hsl,ok,k⟩:=h
  refine hZ ⟨_,((AF (Af (KQ (A7 (Av (AI 2))) (Ib (AV An (AO T.dw (AQ T) (BU hr) (AA (AI 0) (AE AC AB))) AC (AN _)))).pt (AG (AJ Da)) AR)
   (AG (AJ (AW A5 (A4 Ke (BH Bt (by rfl) T.ft Bj (AA (AI 1) AB)) (A8 (AE AU AB))) (A4 FC (AO T.dw (AQ T) (BU hr) (AA (AI 0) (BX (A4 B3 (A4 FH AC (AK Ac (by rfl) T.fm PySem.boot_len (AA (AI 1) AB))) AC) AB))) AC) (fun _ _=>rfl)))))),?_⟩
  try dsimp only[BC,Ar]
  have nsl:=FQ hpen hsl ok
  obtain⟨l1,l4,_,nm⟩:=ok
  have hl:(zs.map V.str).length=zs.length:=List.length_map ..
  refine GW (fun σ' H'=>σ'=[some (.ref p),some (.ref sl),some (.bl tn)]∧BE K S H' p (n+1)∧KeepX p H H') (fun N hN=>?_) (fun σ' H1 hJ=>?_)
  ·cases tn with
   | true=>exact⟨_,rfl,true,rfl,AX (AX (hN _ _ ⟨rfl,hpen.mono (by omega),KeepX.refl _ _⟩))⟩
   | false=>
    refine⟨_,rfl,false,rfl,Ap ⟨_,rfl,p,_,_,_,rfl,(by show(0:Int)<_;decide),Ag (by decide) (by decide),hpen,(by omega),fun r1 H1 a1 b1 pen1 kp1=>⟨rfl,_,rfl,CA (fun _=>?_) (fun _=>?_)⟩⟩⟩
    ·exact k none H1 ⟨trivial,fun z=>by cases z⟩ (pen1.mono (by omega)) kp1
    ·exact hN _ _ ⟨rfl,pen1,kp1⟩
  obtain⟨rfl,pen1,kp1⟩:=hJ
  have hs1:=kp1 _ _ nsl hsl
  refine⟨_,rfl,sl,_,rfl,.inl (A3.of hs1),fun d hd=>?_⟩
  have s2:=AH.new (o:=.lst (zs.map V.str)) hd
  refine⟨EF,fun e he=>⟨d,e,_,_,rfl,rfl,AH.new he _ _ AD,AD,(by rw[hl];show _+1≤_;exact Ls (by omega)),fun q hq=>?_⟩⟩
  have s3:=(s2.trans (AH.new (o:=.lst [vS "lost"]) he)).trans (AH.new (o:=.lst (zs.map V.str++[vS "lost"])) hq)
  have pen2:=pen1.same s3
  have o2:upd (upd (upd H1 d (.lst (zs.map V.str))) e (.lst [vS "lost"])) q (.lst (zs.map V.str++[vS "lost"])) q=some (.lst (zs.map V.str++[vS "lost"])):=AD
  have nq:q≠p:=fun z=>by
   obtain⟨vs,ez⟩:=pen1.ob
   have:=AH.back0 (s2.trans (AH.new (o:=.lst [vS "lost"]) he)) hq
   rw[z,ez]at this;cases this
  generalize upd (upd (upd H1 d (.lst (zs.map V.str))) e (.lst [vS "lost"])) q (.lst (zs.map V.str++[vS "lost"]))=H2 at *
  have hs2:=s3 _ _ hs1
  refine⟨_,rfl,_,rfl,sl,_,rfl,.inl (A3.of hs2),_,_,rfl,rfl,⟨Ag (by decide) (by decide),Ag (by omega) (by omega)⟩,_,_,rfl,rfl,?_⟩
  rw[hl]
  refine⟨p,_,_,_,rfl,(by omega),Ag (by omega) (by omega),pen2,(by omega),fun r3 H3 a3 b3 pen3 kp3=>⟨_,_,rfl,rfl,⟨by decide,by decide⟩,?_⟩⟩
  obtain⟨z,ez,nz⟩:=Qp (r:=r3 / 3) nm (by omega) (by omega)
  exact⟨q,_,_,_,rfl,rfl,A3.of (kp3 _ _ nq o2),ez,k (some z) H3 ⟨nz,fun _ e=>by cases e⟩ (pen3.mono (by omega)) (kp1.trans ((AH.keep s3).trans kp3))⟩
theorem Bw:AZ ["_law_pen_here","_law_sheets_here","_law_told_on","_law_way","_law_sheet","_law_one","_law_high","_law_wide"] ["_law_pen_here","_law_sheets_here","_law_told_on"] (AM Dl):=BD
theorem Hu (T:Txt w K mg t):Az P w K mg base Bd 3 t.c1 t.c2 ["_law_pen_here","_law_sheets_here","_law_told_on"] (Sm K):=by
 have D:=T.e8
 refine D.fn.okX Bw ?_ (fun cdv A outer s H vs Q E hr h Z hZ=>?_)
 ·rintro _ _ _ _ ⟨p,sl,zs,n,S,tn,rfl,_⟩
  rfl
 ·obtain⟨p,sl,zs,n,S,tn,rfl,hpen,hn,hsl,ok,k⟩:=h
  refine hZ ⟨_,((AF (Al (i:=3) Bw.nd rfl (Or.inl rfl) (AO T.dw (AQ T) (BU hr) (AA (AI 0) (AE AC AB))))
   (AF (Al (i:=4) Bw.nd rfl (Or.inl rfl) (AO T.e7 (FA T) (BU hr) (AA (AI 0) (AA (AI 1) (AA (AI 2) AB)))))
   (AF (Al (i:=5) Bw.nd rfl (Or.inl rfl) (AO T.e6 (He T) (BU hr) (AA (AI 0) AB)))
   (AF (Af (AV Dv (AI 3) AC (AN _)) (AG (AJ (Ai (AE AU (AA (AI 4) (AA (AI 5) AB)))))) AR)
   (AF (Al (i:=6) Bw.nd rfl (Or.inl rfl) (AK (Fj rfl) (by rfl) T.fw G0 (AE AC (BX (A4 B3 (AW AY (AI 5) AC (fun _ _=>rfl)) (AO T.dw (AQ T) (BU hr) (AA (AI 0) (AE AC AB)))) AB))))
   (AF (Al (i:=7) Bw.nd rfl (Or.inl rfl) (AK (Fj rfl) (by rfl) T.fw G0 (AE AC (BX (A4 B3 (AW AY (AI 5) AC (fun _ _=>rfl)) (AO T.dw (AQ T) (BU hr) (AA (AI 0) (AE AC AB)))) AB))))
   (AF (Af (AV Dv (AI 3) AC (AN _)) (AG (AJ (Ai (AE AU (AA (AI 4) (AA (AI 5) (A9 (Ai (AA (AI 6) (AA (AI 7) (ED (Ae An (AO T.dw (AQ T) (BU hr) (AA (AI 0) (AE AC AB))) AC (AN _)) (ED (Ae An (AO T.dw (AQ T) (BU hr) (AA (AI 0) (AE AC AB))) AC (AN _)) AB))))) AB))))))) AR)
   (AG (AJ (Ai (AE AU (AA (AI 4) (A9 (Ai (AS (AW AY (AI 5) AC (fun _ _=>rfl)) (AS (AW AY (AI 5) AC (fun _ _=>rfl)) AB))) (A9 (Ai (AA (AI 7) (AS (AW AY (AI 5) AC (fun _ _=>rfl)) AB))) AB))))))))))))))),?_⟩
  try dsimp only[BC,Ar]
  have nsl:=FQ hpen hsl ok
  refine⟨_,rfl,p,_,_,_,rfl,(by show(0:Int)<_;decide),Ag (by decide) (by decide),hpen,(by omega),fun r1 H1 a1 b1 pen1 kp1=>?_⟩
  refine⟨_,rfl,_,rfl,_,rfl,p,sl,zs,_,S,tn,rfl,pen1,(by omega),kp1 _ _ nsl hsl,ok,fun s H2 sok2 pen2 kp2=>?_⟩
  obtain⟨sok,stn⟩:=sok2
  have tcell:tn=true→∀ c,CF (.lf (.cell s c))=true:=fun z c=>by cases s with | none=>exact absurd rfl (stn z) | some x=>simp[CF]
  have trng:tn=true→∀ c d,CF (.lf (.rng s c d))=true:=fun z c d=>by cases s with | none=>exact absurd rfl (stn z) | some x=>simp[CF]
  have tcol:tn=true→∀ i x j y,CF (.lf (.cols s i x j y))=true:=fun z i x j y=>by cases s with | none=>exact absurd rfl (stn z) | some x=>simp[CF]
  refine⟨_,rfl,p,_,S,rfl,pen2,(by omega),fun q c H3 hq cok pen3 kp3=>?_⟩
  obtain⟨c1,c2,c3,c4⟩:=cok
  have kp03:=kp1.trans (kp2.trans kp3)
  refine⟨_,rfl,_,_,rfl,rfl,_,rfl,CA (fun _=>?_) (fun _=>?_)⟩
  ·refine⟨_,rfl,_,rfl,A6,fun a ha=>?_⟩
   exact k a (.cell s c) _ ⟨q,AD,AH.new ha _ _ hq⟩ ⟨⟨sok,c1,c2,c3,c4⟩,fun z=>tcell z c⟩ ((pen3.same (AH.new ha)).mono (by omega)) (kp03.trans (AH.keep (AH.new ha)))
  obtain⟨vs3,ob3⟩:=pen3.ob
  have nq:q≠p:=DB hq ob3 (by intro z;cases z)
  refine⟨_,rfl,q,_,_,_,rfl,rfl,Ao.of hq,A0,_,rfl,p,_,_,_,rfl,(by show(0:Int)<_;decide),Ag (by decide) (by decide),pen3,(by omega),fun r4 H4 a4 b4 pen4 kp4=>⟨_,_,rfl,rfl,_,_,rfl,?_⟩⟩
  have hq4:=kp4 _ _ nq hq
  have hh:c.r≤(if c.r+r4<16 then c.r+r4 else(16:Int))∧(if c.r+r4<16 then c.r+r4 else(16:Int))≤16:=by split <;> omega
  generalize (if c.r+r4<16 then c.r+r4 else(16:Int))=hi at hh
  refine⟨_,rfl,q,_,_,_,rfl,rfl,Ao.of hq4,Bo,_,rfl,p,_,_,_,rfl,(by show(0:Int)<_;decide),Ag (by decide) (by decide),pen4,(by omega),fun r5 H5 a5 b5 pen5 kp5=>⟨_,_,rfl,rfl,_,_,rfl,?_⟩⟩
  have hq5:=kp5 _ _ nq hq4
  have hw:c.c≤(if c.c+r5<8 then c.c+r5 else(8:Int))∧(if c.c+r5<8 then c.c+r5 else(8:Int))≤8:=by split <;> omega
  generalize (if c.c+r5<8 then c.c+r5 else(8:Int))=wi at hw
  have kp05:=kp03.trans (kp4.trans kp5)
  refine⟨_,rfl,_,_,rfl,rfl,_,rfl,CA (fun _=>?_) (fun _=>?_)⟩
  ·refine⟨_,rfl,_,rfl,_,rfl,_,rfl,_,rfl,p,_,_,_,rfl,(by show(0:Int)<_;decide),Ag (by decide) (by decide),pen5,(by omega),fun r6 H6 a6 b6 pen6 kp6=>⟨rfl,_,rfl,p,_,_,_,rfl,(by show(0:Int)<_;decide),Ag (by decide) (by decide),pen6,(by omega),fun r7 H7 a7 b7 pen7 kp7=>⟨rfl,(by show 4≤sizeLine;decide),fun q2 h2=>⟨(by show 4≤sizeLine;decide),fun a ha=>?_⟩⟩⟩⟩
   have hq7:=kp7 _ _ nq (kp6 _ _ nq hq5)
   have s8:=AH.new (o:=.tup [.int hi,.int wi,.bl (decide (V.int r6=V.int 1)),.bl (decide (V.int r7=V.int 1))]) h2
   have s9:=AH.new (o:=.tup [vS "range",OB s,.ref q,.ref q2]) ha
   exact k a (.rng s c ⟨hi,wi,decide (V.int r6=V.int 1),decide (V.int r7=V.int 1)⟩) _ ⟨q,q2,AD,s9 _ _ (s8 _ _ hq7),s9 _ _ AD⟩ ⟨⟨sok,⟨c1,c2,c3,c4⟩,⟨by show 1≤hi;omega,hh.2,by show 1≤wi;omega,hw.2⟩,hh.1,hw.1⟩,fun z=>trng z c _⟩ (((pen7.same s8).same s9).mono (by omega)) (kp05.trans (kp6.trans (kp7.trans ((AH.keep s8).trans (AH.keep s9)))))
  ·refine⟨_,rfl,_,rfl,q,_,_,_,rfl,rfl,Ao.of hq5,Bo,_,rfl,q,_,_,_,rfl,rfl,Ao.of hq5,Cl,BB,fun q2 h2=>?_⟩
   have s8:=AH.new (o:=.tup [.int c.c,.bl c.x]) h2
   refine⟨_,rfl,_,rfl,q,_,_,_,rfl,rfl,Ao.of (s8 _ _ hq5),HG,BB,fun q3 h3=>⟨(by show 4≤sizeLine;decide),fun a ha=>?_⟩⟩
   have s9:=AH.new (o:=.tup [.int wi,.bl c.y]) h3
   have s10:=AH.new (o:=.tup [vS "columns",OB s,.ref q2,.ref q3]) ha
   exact k a (.cols s c.c c.x wi c.y) _ ⟨q2,q3,AD,s10 _ _ (s9 _ _ AD),s10 _ _ AD⟩ ⟨⟨sok,c3,hw.1,hw.2⟩,fun z=>tcol z _ _ _ _⟩ ((((pen5.same s8).same s9).same s10).mono (by omega)) (kp05.trans ((AH.keep s8).trans ((AH.keep s9).trans (AH.keep s10))))
theorem F7:AZ ["_law_pen_here","_law_sheets_here","_law_told_on","_law_params","_law_way"] ["_law_pen_here","_law_sheets_here","_law_told_on","_law_params"] (AM EQ):=BD
theorem Dr (T:Txt w K mg t):Az P w K mg base Bd 4 t.c3 t.c4 ["_law_pen_here","_law_sheets_here","_law_told_on","_law_params"] (Sn K):=by
 have D:=T.e9
 refine D.fn.okX F7 ?_ (fun cdv A outer s H vs Q E hr h Z hZ=>?_)
 ·rintro _ _ _ _ ⟨p,sl,zs,n,S,tn,pr,rfl,_⟩
  rfl
 ·obtain⟨p,sl,zs,n,S,tn,pr,rfl,hp3,hpen,hn,hsl,ok,k⟩:=h
  refine hZ ⟨_,((AF (Al (i:=4) F7.nd rfl (Or.inl rfl) (AO T.dw (AQ T) (BU hr) (AA (AI 0) (AE AC AB))))
   (AF (Af (AV Dv (AI 4) AC (AN _)) (AG (AJ (Ai (AE AU (Aq (AO T.e5 (En T) (BU hr) (AA (AI 0) AB)) AB))))) AR)
   (AF (Af (KQ (AV An (AI 4) AC (AN _)) (Ib (AV Gg (AI 3) AC (AN _)))).pt (AG (AJ (Ai (AE AU (Aq (AO T.dw (AQ T) (BU hr) (AA (AI 0) (AA (AI 3) AB))) AB))))) AR)
   (AF (Af (AV An (AI 4) AC (AN _)) (AG (AJ (AW A5 (A8 (A9 (Ai (AE AU AB)) (A9 (Ai (AE AU (AE AU AB))) (A9 (Ai (AE AU (AE AU AB))) (A9 (Ai (AE AU (AE AU AB))) AB))))) (AO T.dw (AQ T) (BU hr) (AA (AI 0) (AE AC AB))) (fun _ _=>rfl)))) AR)
   (AG (AJ (AO T.e8 (Hu T) (BU hr) (AA (AI 0) (AA (AI 1) (AA (AI 2) AB))))))))))),?_⟩
  try dsimp only[BC,Ar]
  have nsl:=FQ hpen hsl ok
  refine⟨_,rfl,p,_,_,_,rfl,(by show(0:Int)<_;decide),Ag (by decide) (by decide),hpen,(by omega),fun r1 H1 a1 b1 pen1 kp1=>?_⟩
  refine⟨_,rfl,_,_,rfl,rfl,_,rfl,CA (fun _=>?_) (fun _=>?_)⟩
  ·refine⟨_,rfl,p,_,S,rfl,pen1,(by omega),fun q v H2 hq vok vw pen2 kp2=>⟨BB,fun a ha=>?_⟩⟩
   exact k a (.val v) _ ⟨q,AD,FN.same hq (AH.new ha)⟩ ⟨⟨vok,vw⟩,fun _=>by simp[CF]⟩ ((pen2.same (AH.new ha)).mono (by omega)) (kp1.trans (kp2.trans (AH.keep (AH.new ha))))
  refine GW (fun σ' H'=>σ'=[some (.ref p),some (.ref sl),some (.bl tn),some (.int pr),some (.int r1)]∧H'=H1) (fun N hN=>hN [some (.ref p),some (.ref sl),some (.bl tn),some (.int pr),some (.int r1)] H1 ⟨rfl,rfl⟩) (fun σ' H'0 hJ=>?_)
  obtain⟨rfl,rfl⟩:=hJ
  refine GW (fun σ' H'=>σ'=[some (.ref p),some (.ref sl),some (.bl tn),some (.int pr),some (.int r1)]∧H'=H'0) (fun N hN=>?_) (fun σ' H' hJ=>?_)
  ·refine⟨_,rfl,rfl,_,rfl,CA (fun _=>?_) (fun _=>AX (hN _ _ ⟨rfl,rfl⟩))⟩
   refine⟨_,rfl,_,_,rfl,rfl,_,rfl,?_⟩
   by_cases h0:0<pr
   ·rw[decide_eq_true (by omega)]
    refine Ap ⟨_,rfl,_,rfl,p,_,_,_,rfl,(by omega),Ag (by omega) (by omega),pen1,(by omega),fun r2 H2 a2 b2 pen2 kp2=>⟨BB,fun a ha=>?_⟩⟩
    exact k a (.par r2) _ AD ⟨⟨a2,b2⟩,fun _=>by simp[CF]⟩ ((pen2.same (AH.new ha)).mono (by omega)) (kp1.trans (kp2.trans (AH.keep (AH.new ha))))
   ·rw[decide_eq_false (by omega)]
    exact AX (hN _ _ ⟨rfl,rfl⟩)
  obtain⟨rfl,rfl⟩:=hJ
  refine⟨_,rfl,rfl,_,rfl,CA (fun _=>?_) (fun _=>?_)⟩
  ·refine⟨EF,fun q1 h1=>⟨BB,fun q2 h2=>⟨BB,fun q3 h3=>⟨BB,fun q4 h4=>⟨(by show 4≤sizeLine;decide),fun q5 h5=>?_⟩⟩⟩⟩⟩
   have s1:=AH.new (o:=.tup [vS "gone"]) h1
   have o1:upd H' q1 (.tup [vS "gone"]) q1=some (.tup [vS "gone"]):=AD
   generalize upd H' q1 (.tup [vS "gone"])=G1 at *
   have s2:=AH.new (o:=.tup [vS "name",vS "n"]) h2
   have o2:upd G1 q2 (.tup [vS "name",vS "n"]) q2=some (.tup [vS "name",vS "n"]):=AD
   generalize upd G1 q2 (.tup [vS "name",vS "n"])=G2 at *
   have s3:=AH.new (o:=.tup [vS "name",vS "m"]) h3
   have o3:upd G2 q3 (.tup [vS "name",vS "m"]) q3=some (.tup [vS "name",vS "m"]):=AD
   generalize upd G2 q3 (.tup [vS "name",vS "m"])=G3 at *
   have s4:=AH.new (o:=.tup [vS "name",vS "k"]) h4
   have o4:upd G3 q4 (.tup [vS "name",vS "k"]) q4=some (.tup [vS "name",vS "k"]):=AD
   generalize upd G3 q4 (.tup [vS "name",vS "k"])=G4 at *
   have s5:=AH.new (o:=.lst [.ref q1,.ref q2,.ref q3,.ref q4]) h5
   have o5:upd G4 q5 (.lst [.ref q1,.ref q2,.ref q3,.ref q4]) q5=some (.lst [.ref q1,.ref q2,.ref q3,.ref q4]):=AD
   generalize upd G4 q5 (.lst [.ref q1,.ref q2,.ref q3,.ref q4])=G5 at *
   have s15:=((((s1.trans s2).trans s3).trans s4).trans s5)
   have pen5:=pen1.same s15
   have n5:q5≠p:=fun z=>by
    obtain⟨vs,ez⟩:=pen1.ob
    have:=AH.back0 (((s1.trans s2).trans s3).trans s4) h5
    rw[z,ez]at this;cases this
   refine⟨_,rfl,p,_,_,_,rfl,(by show(0:Int)<_;decide),Ag (by decide) (by decide),pen5,(by omega),fun r6 H6 a6 b6 pen6 kp6=>?_⟩
   have q6:Kp G5 H6:=pen5.kp kp6
   obtain⟨a,l,ea,hl,lok⟩:∃ a l,FF [V.ref q1,.ref q2,.ref q3,.ref q4] r6=some (.ref a)∧Ee H6 a l∧LD pr tn l:=by
    have:r6=0∨r6=1∨r6=2∨r6=3:=by omega
    rcases this with rfl | rfl | rfl | rfl
    ·exact⟨q1,.gone,rfl,q6 _ _ (s5 _ _ (s4 _ _ (s3 _ _ (s2 _ _ o1)))),trivial,fun _=>by simp[CF]⟩
    ·exact⟨q2,.nam (zS "n"),rfl,q6 _ _ (s5 _ _ (s4 _ _ (s3 _ _ o2))),⟨Bz (by nofun),by nofun⟩,fun _=>by simp[CF]⟩
    ·exact⟨q3,.nam (zS "m"),rfl,q6 _ _ (s5 _ _ (s4 _ _ o3)),⟨Bz (by nofun),by nofun⟩,fun _=>by simp[CF]⟩
    ·exact⟨q4,.nam (zS "k"),rfl,q6 _ _ (s5 _ _ o4),⟨Bz (by nofun),by nofun⟩,fun _=>by simp[CF]⟩
   exact⟨q5,_,_,_,rfl,rfl,A3.of (kp6 _ _ n5 o5),ea,k a l H6 hl lok (pen6.mono (by omega)) (kp1.trans ((AH.keep s15).trans kp6))⟩
  refine⟨_,rfl,_,rfl,_,rfl,p,sl,zs,_,S,tn,rfl,pen1,(by omega),kp1 _ _ nsl hsl,ok,fun a l H2 hl lok pen2 kp2=>k a l H2 hl (lok.up (Nat.zero_le _)) (pen2.mono (by omega)) (kp1.trans kp2)⟩
theorem KP:AZ ["_law_pen_here","_law_sheets_here","_law_told_on","_law_params","_law_deep"] ["_law_pen_here","_law_sheets_here","_law_told_on","_law_params","_law_deep"] (AM ER):=BD
theorem JM (T:Txt w K mg t){n k:Nat}(F:Az P w K mg base Bd k t.c7 t.c8 ["_law_pen_here","_law_sheets_here","_law_told_on","_law_params","_law_deep"] (Pd K n))(hk:4≤k):Az P w K mg base Bd (k+1) t.c5 t.c6 ["_law_pen_here","_law_sheets_here","_law_told_on","_law_params","_law_deep"] (So K n):=by
 have D:=T.fa
 refine D.fn.okX KP ?_ (fun cdv A outer s H vs Q E hr h Z hZ=>?_)
 ·rintro _ _ _ _ ⟨p,sl,zs,c,S,tn,pr,rfl,_⟩
  rfl
 ·obtain⟨p,sl,zs,c,S,tn,pr,rfl,hp3,hpen,hn,hsl,ok,kk⟩:=h
  refine hZ ⟨_,((AF (Af (AV An (AI 4) AC (AN _)) (AG (AJ (AO T.e9 (Dr T) (hr.mono (by omega)) (AA (AI 0) (AA (AI 1) (AA (AI 2) (AA (AI 3) AB))))))) AR)
   (AG (AJ (AO T.fb F (hr.mono (by omega)) (AA (AI 0) (AA (AI 1) (AA (AI 2) (AA (AI 3) (AA (AI 4) AB)))))))))),?_⟩
  try dsimp only[BC,Ar]
  cases n with
  | zero=>
   refine⟨_,rfl,rfl,true,rfl,Ap ?_⟩
   have:uB 0=14:=rfl
   exact⟨_,rfl,_,rfl,_,rfl,_,rfl,p,sl,zs,c,S,tn,pr,rfl,hp3,hpen,(by omega),hsl,ok,fun a l H' hl lok pen' kp'=>kk (.ref a) (.lf l) H' (.lf hl) (.lf lok) (by rw[Qq];exact Nat.le_refl _) pen' kp'⟩
  | succ n=>
   refine⟨_,rfl,rfl,false,congrArg V.bl (decide_eq_false fun e=>by injection e with e;omega),AX ?_⟩
   exact⟨_,rfl,_,rfl,_,rfl,_,rfl,_,rfl,p,sl,zs,c,S,tn,pr,rfl,hp3,Nat.succ_le_succ (Nat.zero_le _),hpen,hn,hsl,ok,kk⟩
theorem Bc:AZ ["_law_pen_here","_law_sheets_here","_law_told_on","_law_params","_law_deep","_law_way","_law_a","_law_b","_law_c"] ["_law_pen_here","_law_sheets_here","_law_told_on","_law_params","_law_deep"] (AM Cs):=BD
theorem Cd (T:Txt w K mg t):∀ n:Nat,Az P w K mg base Bd (2*n+5) t.c7 t.c8 ["_law_pen_here","_law_sheets_here","_law_told_on","_law_params","_law_deep"] (Pd K n):=by
 have D:=T.fb
 intro m
 induction m with
 | zero=>
  refine D.fn.okX Bc ?_ (fun cdv A outer s H vs Q E hr h Z hZ=>?_)
  ·rintro _ _ _ _ ⟨p,sl,zs,c,S,tn,pr,rfl,_⟩
   rfl
  ·obtain⟨p,sl,zs,c,S,tn,pr,rfl,hp3,h1,_⟩:=h
   exact absurd h1 (by decide)
 | succ m ih=>
  have M:=JM T ih (by omega)
  refine D.fn.okX Bc ?_ (fun cdv A outer s H vs Q E hr h Z hZ=>?_)
  ·rintro _ _ _ _ ⟨p,sl,zs,c,S,tn,pr,rfl,_⟩
   rfl
  ·obtain⟨p,sl,zs,c,S,tn,pr,rfl,hp3,h1,hpen,hn,hsl,ok,k⟩:=h
   refine hZ ⟨_,((AF (Al (i:=5) Bc.nd rfl (Or.inl rfl) (AO T.dw (AQ T) (hr.mono (by omega)) (AA (AI 0) (AE AC AB))))
   (AF (Af (AV Dv (AI 5) AC (AN _)) (AG (AJ (AO T.e9 (Dr T) (hr.mono (by omega)) (AA (AI 0) (AA (AI 1) (AA (AI 2) (AA (AI 3) AB))))))) AR)
   (AF (Al (i:=6) Bc.nd rfl (Or.inl rfl) (AO T.fa M (hr.mono (by omega)) (AA (AI 0) (AA (AI 1) (AA (AI 2) (AA (AI 3) (BX (A4 Gf (AI 4) AC) AB)))))))
   (AF (Af (AV An (AI 5) AC (AN _)) (AG (AJ (Ai (AE AU (AA (AI 6) AB))))) AR)
   (AF (Af (AV Dv (AI 5) AC (AN _)) (AG (AJ (Ai (AS (AW A5 (A8 (AE AU (AE AU (AE AU (AE AU AB))))) (AO T.dw (AQ T) (hr.mono (by omega)) (AA (AI 0) (AE AC AB))) (fun _ _=>rfl)) (AA (AI 6) AB))))) AR)
   (AF (Af (AV Dv (AI 5) AC (AN _)) (AG (AJ (Ai (AS (AW A5 (A8 (AE AU (AE AU AB))) (A4 CS (AI 5) AC) (fun _ _=>rfl)) (AA (AI 6) AB))))) AR)
   (AF (Af (AV An (AI 5) AC (AN _)) (AG (AJ (Ai (AE AU (AS (AW A5 (A8 (AE AU (AE AU (AE AU AB)))) (AO T.dw (AQ T) (hr.mono (by omega)) (AA (AI 0) (AE AC AB))) (fun _ _=>rfl)) (AS (AW A5 (A8 (A9 (Ai AB) (A9 (Ai (AA (AI 6) AB)) AB))) (AO T.dw (AQ T) (hr.mono (by omega)) (AA (AI 0) (AE AC AB))) (fun _ _=>rfl)) AB)))))) AR)
   (AF (Al (i:=7) Bc.nd rfl (Or.inl rfl) (AO T.fa M (hr.mono (by omega)) (AA (AI 0) (AA (AI 1) (AA (AI 2) (AA (AI 3) (BX (A4 Gf (AI 4) AC) AB)))))))
   (AF (Af (AV Dv (AI 5) AC (AN _)) (AG (AJ (Ai (AE AU (AS (AW Ig AU (AO T.dw (AQ T) (hr.mono (by omega)) (AA (AI 0) (AE AC AB))) (fun _ _=>rfl)) (AA (AI 6) (AA (AI 7) AB))))))) AR)
   (AF (Af (AV Dv (AI 5) AC (AN _)) (AG (AJ (Ai (AE AU (AA (AI 6) (AA (AI 7) AB)))))) AR)
   (AF (Af (AV Dv (AI 5) AC (AN _)) (AG (AJ (Ai (AE AU (BX (A4 B3 AC (AO T.dw (AQ T) (hr.mono (by omega)) (AA (AI 0) (AE AC AB)))) (BX (A4 B3 AC (AO T.dw (AQ T) (hr.mono (by omega)) (AA (AI 0) (AE AC AB)))) (AA (AI 6) (AA (AI 7) AB)))))))) AR)
   (AF (Af (AV An (AI 5) AC (AN _)) (AG (AJ (Ai (AE AU (AS (AW A5 (A8 (AE AU (AE AU (AE AU AB)))) (AO T.dw (AQ T) (hr.mono (by omega)) (AA (AI 0) (AE AC AB))) (fun _ _=>rfl)) (A9 (Ai (AA (AI 6) (AA (AI 7) AB))) AB)))))) AR)
   (AF (Al (i:=8) Bc.nd rfl (Or.inl rfl) (AO T.e9 (Dr T) (hr.mono (by omega)) (AA (AI 0) (AA (AI 1) (AA (AI 2) (AA (AI 3) AB))))))
   (AF (Af (AV An (AI 5) AC (AN _)) (AG (AJ (Ai (AE AU (AS (AW A5 (A8 (AE AU (AE AU (AE AU AB)))) (AO T.dw (AQ T) (hr.mono (by omega)) (AA (AI 0) (AE AC AB))) (fun _ _=>rfl)) (A9 (Ai (AA (AI 6) (AA (AI 7) (AA (AI 8) AB)))) AB)))))) AR)
   (AF (Af (AV An (AI 5) AC (AN _)) (AG (AJ (Ai (AE AU (AA (AI 6) (AA (AI 7) (AA (AI 8) AB))))))) AR)
   (AF (Af (AV An (AI 5) AC (AN _)) (AG (AJ (Ai (AE AU (AA (AI 6) (AS (AW Ig AU (AO T.dw (AQ T) (hr.mono (by omega)) (AA (AI 0) (AE AC AB))) (fun _ _=>rfl)) (AA (AI 7) (AA (AI 8) AB)))))))) AR)
   (AG (AJ (Ai (AE AU (AA (AI 6) (AA (AI 7) (AA (AI 8) AB)))))))))))))))))))))))),?_⟩
   try dsimp only[BC,Ar]
   have nsl:=FQ hpen hsl ok
   have eu:uB (m+1)=2*uB m+20:=rfl
   have es:sB (m+1)=2*sB m+2:=rfl
   have lo:=Su m
   refine⟨_,rfl,p,_,_,_,rfl,(by show(0:Int)<_;decide),Ag (by decide) (by decide),hpen,(by omega),fun r1 H1 a1 b1 pen1 kp1=>?_⟩
   refine⟨_,rfl,_,_,rfl,rfl,_,rfl,CA (fun _=>?_) (fun w3=>?_)⟩
   ·exact⟨_,rfl,_,rfl,_,rfl,_,rfl,p,sl,zs,_,S,tn,pr,rfl,hp3,pen1,(by omega),kp1 _ _ nsl hsl,ok,fun a l H2 hl lok pen2 kp2=>k (.ref a) (.lf l) H2 (.lf hl) (.lf lok) (by rw[Qq];omega) (pen2.mono (by omega)) (kp1.trans kp2)⟩
   have w3:¬ r1<3:=fun z=>w3 (decide_eq_true z)
   refine⟨_,rfl,_,rfl,_,rfl,_,rfl,_,rfl,_,_,rfl,rfl,p,sl,zs,_,S,tn,pr,(congrArg (fun i=>[V.ref p,.ref sl,.bl tn,.int pr,.int i]) (by omega)),hp3,pen1,(by omega),kp1 _ _ nsl hsl,ok,fun a fa H2 fa' oa za pena kpa=>?_⟩
   have hs2:=kpa _ _ nsl (kp1 _ _ nsl hsl)
   have k2:=kp1.trans kpa
   refine⟨_,rfl,rfl,_,rfl,CA (fun _=>?_) (fun w4=>?_)⟩
   ·refine⟨_,rfl,BB,fun q hq=>?_⟩
    obtain⟨x,y⟩:=DW (a:=q) (t:=q) (k:=.neg) (n:=m+1) (ps:=[fa]) (us:=[a]) (show upd H2 q _ q=_ from AD) (fun z=>by cases z) (.cons (fa'.kp (Kp.new0 hq)) .nil) rfl (TW oa)
    exact k _ _ _ x y (by rw[Nx];omega) ((pena.same (AH.new hq)).mono (by omega)) (k2.trans (AH.keep (AH.new hq)))
   refine⟨_,rfl,_,_,rfl,rfl,_,rfl,CA (fun _=>?_) (fun w5=>?_)⟩
   ·refine⟨(by show 4≤sizeLine;decide),fun q3 h3=>⟨_,rfl,p,_,_,_,rfl,(by show(0:Int)<_;decide),Ag (by decide) (by decide),(pena.same (AH.new h3)),(by omega),fun r3 H3 a3 b3 pen3 kp3=>?_⟩⟩
    obtain⟨w,ew,pw⟩:=Ea (L:=[vS "sum",vS "count",vS "least",vS "most"]) (P:=fun z=>decide ((z,1)∈J6)) (by nofun) a3 b3
    refine⟨q3,_,_,_,rfl,rfl,A3.of (kp3 _ _ (pena.ne h3) AD),ew,_,rfl,BB,fun q hq=>?_⟩
    have q34:=(Kp.same (AH.new (o:=.lst [vS "sum",vS "count",vS "least",vS "most"]) h3)).trans ((pena.same (AH.new h3)).kp kp3)
    obtain⟨x,y⟩:=DW (a:=q) (t:=q) (k:=.wd w) (n:=m+1) (ps:=[fa]) (us:=[a]) (show upd H3 q _ q=_ from AD) (fun z=>by cases z) (.cons ((fa'.kp q34).kp (Kp.new0 hq)) .nil) (show(w,1)∈J6 from of_decide_eq_true pw) (TW oa)
    exact k _ _ _ x y (by rw[Nx];omega) ((pen3.same (AH.new hq)).mono (by omega)) (k2.trans ((AH.keep (AH.new h3)).trans (kp3.trans (AH.keep (AH.new hq)))))
   refine⟨_,rfl,_,_,rfl,rfl,_,rfl,CA (fun _=>?_) (fun w6=>?_)⟩
   ·refine⟨BB,fun q3 h3=>⟨_,rfl,_,_,rfl,rfl,(by show(0:Int)<2;decide),?_⟩⟩
    obtain⟨w,ew,pw⟩:=Ea (L:=[vS "turn",vS "outer"]) (P:=fun z=>decide ((z,1)∈J6)) (r:=r1%2) (by nofun) (by omega) (by show r1%2<2;omega)
    refine⟨q3,_,_,_,rfl,rfl,A3.of AD,ew,_,rfl,BB,fun q hq=>?_⟩
    have q34:=(Kp.same (AH.new (o:=.lst [vS "turn",vS "outer"]) h3))
    obtain⟨x,y⟩:=DW (a:=q) (t:=q) (k:=.wd w) (n:=m+1) (ps:=[fa]) (us:=[a]) (show upd (upd H2 q3 _) q _ q=_ from AD) (fun z=>by cases z) (.cons ((fa'.kp q34).kp (Kp.new0 hq)) .nil) (show(w,1)∈J6 from of_decide_eq_true pw) (TW oa)
    exact k _ _ _ x y (by rw[Nx];omega) (((pena.same (AH.new h3)).same (AH.new hq)).mono (by omega)) (k2.trans ((AH.keep (AH.new h3)).trans (AH.keep (AH.new hq))))
   refine⟨_,rfl,rfl,_,rfl,CA (fun _=>?_) (fun w7=>?_)⟩
   ·refine⟨A6,fun q3 h3=>⟨_,rfl,p,_,_,_,rfl,(by show(0:Int)<_;decide),Ag (by decide) (by decide),(pena.same (AH.new h3)),(by omega),fun r3 H3 a3 b3 pen3 kp3=>?_⟩⟩
    obtain⟨w,ew,pw⟩:=Ea (L:=[vS "f",vS "g",vS "h"]) (P:=KB) (by nofun) a3 b3
    obtain⟨nw,rw_⟩:=HQ pw
    refine⟨q3,_,_,_,rfl,rfl,A3.of (kp3 _ _ (pena.ne h3) AD),ew,?_⟩
    have q34:=(Kp.same (AH.new (o:=.lst [vS "f",vS "g",vS "h"]) h3)).trans ((pena.same (AH.new h3)).kp kp3)
    have fa3:=fa'.kp q34
    have k3:=k2.trans ((AH.keep (AH.new (o:=.lst [vS "f",vS "g",vS "h"]) h3)).trans kp3)
    refine⟨Nat.zero_le _,fun e1 n1=>⟨_,rfl,EF,fun e2 n2=>⟨BB,fun q5 n5=>?_⟩⟩⟩
    have s1:=AH.new (o:=.tup []) n1
    have o1:upd H3 e1 (.tup []) e1=some (.tup []):=AD
    generalize upd H3 e1 (.tup [])=G1 at *
    have s2:=AH.new (o:=.tup [a]) n2
    have o2:upd G1 e2 (.tup [a]) e2=some (.tup [a]):=AD
    generalize upd G1 e2 (.tup [a])=G2 at *
    have s3:=AH.new (o:=.lst [.ref e1,.ref e2]) n5
    have o3:upd G2 q5 (.lst [.ref e1,.ref e2]) q5=some (.lst [.ref e1,.ref e2]):=AD
    generalize upd G2 q5 (.lst [.ref e1,.ref e2])=G3 at *
    have s13:=(s1.trans s2).trans s3
    have pen4:=pen3.same s13
    have nq5:q5≠p:=fun z=>by
     obtain⟨vs,ez⟩:=pen3.ob
     have:=AH.back0 (s1.trans s2) n5
     rw[z,ez]at this;cases this
    refine⟨_,rfl,p,_,_,_,rfl,(by show(0:Int)<_;decide),Ag (by decide) (by decide),pen4,(by omega),fun r6 H6 a6 b6 pen6 kp6=>?_⟩
    have q6:Kp G3 H6:=pen4.kp kp6
    have k6:=k3.trans ((AH.keep s13).trans kp6)
    have:r6=0∨r6=1:=by omega
    rcases this with rfl | rfl
    ·refine⟨q5,_,_,_,rfl,rfl,A3.of (kp6 _ _ nq5 o3),rfl,A6,fun q hq=>?_⟩
     have sq:=AH.new (o:=.tup [vS "own",.str w,.ref e1]) hq
     obtain⟨x,y⟩:=DW (a:=q) (t:=e1) (k:=.own w) (n:=m+1) (ps:=[]) (us:=[]) (show upd H6 q _ q=_ from AD) (fun _=>sq _ _ (q6 _ _ (s3 _ _ (s2 _ _ o1)))) .nil ⟨nw,rw_,by simp⟩ (fun g hg=>by cases hg)
     exact k _ _ _ x y (by rw[Us];omega) ((pen6.same (AH.new hq)).mono (by omega)) (k6.trans (AH.keep (AH.new hq)))
    ·refine⟨q5,_,_,_,rfl,rfl,A3.of (kp6 _ _ nq5 o3),rfl,A6,fun q hq=>?_⟩
     have sq:=AH.new (o:=.tup [vS "own",.str w,.ref e2]) hq
     obtain⟨x,y⟩:=DW (a:=q) (t:=e2) (k:=.own w) (n:=m+1) (ps:=[fa]) (us:=[a]) (show upd H6 q _ q=_ from AD) (fun _=>sq _ _ (q6 _ _ (s3 _ _ o2))) (.cons (((fa3.kp (Kp.same s13)).kp q6).kp (Kp.same sq)) .nil) ⟨nw,rw_,by simp⟩ (TW oa)
     exact k _ _ _ x y (by rw[Nx];omega) ((pen6.same (AH.new hq)).mono (by omega)) (k6.trans (AH.keep (AH.new hq)))
   refine⟨_,rfl,_,rfl,_,rfl,_,rfl,_,rfl,_,_,rfl,rfl,p,sl,zs,_,S,tn,pr,(congrArg (fun i=>[V.ref p,.ref sl,.bl tn,.int pr,.int i]) (by omega)),hp3,pena,(by omega),hs2,ok,fun b fb H3 fb' ob zb penb kpb=>?_⟩
   have fa3:=fa'.kp (pena.kp kpb)
   have hs3:=kpb _ _ nsl hs2
   have k3:=k2.trans kpb
   refine⟨_,rfl,_,_,rfl,rfl,_,rfl,CA (fun _=>?_) (fun w8=>?_)⟩
   ·refine⟨_,rfl,p,_,_,_,rfl,(by show(0:Int)<_;decide),Ag (by decide) (by decide),penb,(by omega),fun r4 H4 a4 b4 pen4 kp4=>?_⟩
    obtain⟨ch,hc,hin⟩:=Uo a4 b4
    refine⟨_,_,ch,rfl,rfl,(by nofun),hc,_,rfl,_,rfl,(by show 4≤sizeLine;decide),fun q hq=>?_⟩
    have q4:=(penb.kp kp4).trans (Kp.new0 (o:=.tup [vS "op",.str ⟨#[ch]⟩,a,b]) hq)
    obtain⟨x,y⟩:=DW (a:=q) (t:=q) (k:=.op ⟨#[ch]⟩) (n:=m+1) (ps:=[fa,fb]) (us:=[a,b]) (show upd H4 q _ q=_ from AD) (fun z=>by cases z) (.cons (fa3.kp q4) (.cons (fb'.kp q4) .nil)) ⟨hin,rfl⟩ (Ss oa ob)
    exact k _ _ _ x y (by rw[TU];omega) ((pen4.same (AH.new hq)).mono (by omega)) (k3.trans (kp4.trans (AH.keep (AH.new hq))))
   refine⟨_,rfl,_,_,rfl,rfl,_,rfl,CA (fun _=>?_) (fun w9=>?_)⟩
   ·refine⟨_,rfl,_,rfl,A6,fun q hq=>?_⟩
    have q4:=(Kp.new0 (o:=.tup [vS "stack",a,b]) hq)
    obtain⟨x,y⟩:=DW (a:=q) (t:=q) (k:=.wd (zS "stack")) (n:=m+1) (ps:=[fa,fb]) (us:=[a,b]) (show upd H3 q _ q=_ from AD) (fun z=>by cases z) (.cons (fa3.kp q4) (.cons (fb'.kp q4) .nil)) (show(zS "stack",2)∈J6 by nofun) (Ss oa ob)
    exact k _ _ _ x y (by rw[TU];omega) ((penb.same (AH.new hq)).mono (by omega)) (k3.trans (AH.keep (AH.new hq)))
   refine⟨_,rfl,_,_,rfl,rfl,_,rfl,CA (fun _=>?_) (fun w10=>?_)⟩
   ·refine⟨_,rfl,p,_,_,_,rfl,(by show(0:Int)<_;decide),Ag (by decide) (by decide),penb,(by omega),fun r4 H4 a4 b4 pen4 kp4=>⟨_,_,rfl,rfl,_,rfl,p,_,_,_,rfl,(by show(0:Int)<_;decide),Ag (by decide) (by decide),pen4,(by omega),fun r5 H5 a5 b5 pen5 kp5=>⟨_,_,rfl,rfl,_,rfl,_,rfl,(by show 5≤sizeLine;decide),fun q hq=>?_⟩⟩⟩
    have q4:=((penb.kp kp4).trans (pen4.kp kp5)).trans (Kp.new0 (o:=.tup [vS "grid",.int (1+r4),.int (1+r5),a,b]) hq)
    obtain⟨x,y⟩:=DW (a:=q) (t:=q) (k:=.grid (1+r4) (1+r5)) (n:=m+1) (ps:=[fa,fb]) (us:=[a,b]) (show upd H5 q _ q=_ from AD) (fun z=>by cases z) (.cons (fa3.kp q4) (.cons (fb'.kp q4) .nil)) ⟨by omega,by omega,by omega,by omega,rfl⟩ (Ss oa ob)
    exact k _ _ _ x y (by rw[TU];omega) ((pen5.same (AH.new hq)).mono (by omega)) (k3.trans (kp4.trans (kp5.trans (AH.keep (AH.new hq)))))
   refine⟨_,rfl,rfl,_,rfl,CA (fun _=>?_) (fun w11=>?_)⟩
   ·refine⟨A6,fun q3 h3=>⟨_,rfl,p,_,_,_,rfl,(by show(0:Int)<_;decide),Ag (by decide) (by decide),(penb.same (AH.new h3)),(by omega),fun r4 H4 a4 b4 pen4 kp4=>?_⟩⟩
    obtain⟨w,ew,pw⟩:=Ea (L:=[vS "f",vS "g",vS "h"]) (P:=KB) (by nofun) a4 b4
    obtain⟨nw,rw_⟩:=HQ pw
    refine⟨q3,_,_,_,rfl,rfl,A3.of (kp4 _ _ (penb.ne h3) AD),ew,_,rfl,_,rfl,BB,fun e1 n1=>⟨A6,fun q hq=>?_⟩⟩
    have s1:=AH.new (o:=.tup [a,b]) n1
    have sq:=AH.new (o:=.tup [vS "own",.str w,.ref e1]) hq
    have q4:=(Kp.new0 (o:=.lst [vS "f",vS "g",vS "h"]) h3).trans (((penb.same (AH.new h3)).kp kp4).trans ((Kp.same s1).trans (Kp.same sq)))
    obtain⟨x,y⟩:=DW (a:=q) (t:=e1) (k:=.own w) (n:=m+1) (ps:=[fa,fb]) (us:=[a,b]) (show upd (upd H4 e1 _) q _ q=_ from AD) (fun _=>sq _ _ AD) (.cons (fa3.kp q4) (.cons (fb'.kp q4) .nil)) ⟨nw,rw_,by simp⟩ (Ss oa ob)
    exact k _ _ _ x y (by rw[TU];omega) (((pen4.same s1).same sq).mono (by omega)) (k3.trans ((AH.keep (AH.new h3)).trans (kp4.trans ((AH.keep s1).trans (AH.keep sq)))))
   refine⟨_,rfl,_,rfl,_,rfl,_,rfl,p,sl,zs,_,S,tn,pr,rfl,hp3,penb,(by omega),hs3,ok,fun c l H4 hc lok penc kpc=>?_⟩
   have q34:=penb.kp kpc
   have fa4:=fa3.kp q34
   have fb4:=fb'.kp q34
   have fc4:Bi H4 (.ref c) (.lf l):=.lf hc
   have oc:DO pr tn (m+1) (.lf l):=.lf lok
   have k4:=k3.trans kpc
   refine⟨_,rfl,rfl,_,rfl,CA (fun _=>?_) (fun w12=>?_)⟩
   ·refine⟨A6,fun q3 h3=>⟨_,rfl,p,_,_,_,rfl,(by show(0:Int)<_;decide),Ag (by decide) (by decide),(penc.same (AH.new h3)),(by omega),fun r5 H5 a5 b5 pen5 kp5=>?_⟩⟩
    obtain⟨w,ew,pw⟩:=Ea (L:=[vS "f",vS "g",vS "h"]) (P:=KB) (by nofun) a5 b5
    obtain⟨nw,rw_⟩:=HQ pw
    refine⟨q3,_,_,_,rfl,rfl,A3.of (kp5 _ _ (penc.ne h3) AD),ew,_,rfl,_,rfl,_,rfl,A6,fun e1 n1=>⟨A6,fun q hq=>?_⟩⟩
    have s1:=AH.new (o:=.tup [a,b,.ref c]) n1
    have sq:=AH.new (o:=.tup [vS "own",.str w,.ref e1]) hq
    have q4:=(Kp.new0 (o:=.lst [vS "f",vS "g",vS "h"]) h3).trans (((penc.same (AH.new h3)).kp kp5).trans ((Kp.same s1).trans (Kp.same sq)))
    obtain⟨x,y⟩:=DW (a:=q) (t:=e1) (k:=.own w) (n:=m+1) (ps:=[fa,fb,.lf l]) (us:=[a,b,.ref c]) (show upd (upd H5 e1 _) q _ q=_ from AD) (fun _=>sq _ _ AD) (.cons (fa4.kp q4) (.cons (fb4.kp q4) (.cons (fc4.kp q4) .nil))) ⟨nw,rw_,by simp⟩ (TX oa ob oc)
    exact k _ _ _ x y (by rw[TV,Qq];omega) (((pen5.same s1).same sq).mono (by omega)) (k4.trans ((AH.keep (AH.new h3)).trans (kp5.trans ((AH.keep s1).trans (AH.keep sq)))))
   refine⟨_,rfl,rfl,_,rfl,CA (fun _=>?_) (fun w13=>?_)⟩
   ·refine⟨_,rfl,_,rfl,_,rfl,(by show 4≤sizeLine;decide),fun q hq=>?_⟩
    have q4:=(Kp.new0 (o:=.tup [vS "if",a,b,.ref c]) hq)
    obtain⟨x,y⟩:=DW (a:=q) (t:=q) (k:=.wd (zS "if")) (n:=m+1) (ps:=[fa,fb,.lf l]) (us:=[a,b,.ref c]) (show upd H4 q _ q=_ from AD) (fun z=>by cases z) (.cons (fa4.kp q4) (.cons (fb4.kp q4) (.cons (fc4.kp q4) .nil))) (show(zS "if",3)∈J6 by nofun) (TX oa ob oc)
    exact k _ _ _ x y (by rw[TV,Qq];omega) ((penc.same (AH.new hq)).mono (by omega)) (k4.trans (AH.keep (AH.new hq)))
   refine⟨_,rfl,rfl,_,rfl,CA (fun _=>?_) (fun w14=>?_)⟩
   ·refine⟨_,rfl,_,rfl,p,_,_,_,rfl,(by show(0:Int)<_;decide),Ag (by decide) (by decide),penc,(by omega),fun r5 H5 a5 b5 pen5 kp5=>?_⟩
    obtain⟨ch,hc2,hin⟩:=Ut a5 b5
    refine⟨_,_,ch,rfl,rfl,(by nofun),hc2,_,rfl,_,rfl,(by show 5≤sizeLine;decide),fun q hq=>?_⟩
    have q4:=(penc.kp kp5).trans (Kp.new0 (o:=.tup [vS "sumif",a,.str ⟨#[ch]⟩,b,.ref c]) hq)
    obtain⟨x,y⟩:=DW (a:=q) (t:=q) (k:=.sumif ⟨#[ch]⟩) (n:=m+1) (ps:=[fa,fb,.lf l]) (us:=[a,b,.ref c]) (show upd H5 q _ q=_ from AD) (fun z=>by cases z) (.cons (fa4.kp q4) (.cons (fb4.kp q4) (.cons (fc4.kp q4) .nil))) ⟨hin,rfl⟩ (TX oa ob oc)
    exact k _ _ _ x y (by rw[TV,Qq];omega) ((pen5.same (AH.new hq)).mono (by omega)) (k4.trans (kp5.trans (AH.keep (AH.new hq))))
   ·refine⟨_,rfl,_,rfl,_,rfl,(by show 4≤sizeLine;decide),fun q hq=>?_⟩
    have q4:=(Kp.new0 (o:=.tup [vS "find",a,b,.ref c]) hq)
    obtain⟨x,y⟩:=DW (a:=q) (t:=q) (k:=.wd (zS "find")) (n:=m+1) (ps:=[fa,fb,.lf l]) (us:=[a,b,.ref c]) (show upd H4 q _ q=_ from AD) (fun z=>by cases z) (.cons (fa4.kp q4) (.cons (fb4.kp q4) (.cons (fc4.kp q4) .nil))) (show(zS "find",3)∈J6 by nofun) (TX oa ob oc)
    exact k _ _ _ x y (by rw[TV,Qq];omega) ((penc.same (AH.new hq)).mono (by omega)) (k4.trans (AH.keep (AH.new hq)))
theorem Fe:AZ ["_law_found","_law_due"] ["_law_found","_law_due"] (AM Dm):=BD
theorem CV (T:Txt w K mg t):∀ n:Nat,Az P w K mg base Bd (n+1) t.c9 t.da ["_law_found","_law_due"] (Sv n):=by
 have D:=T.fc
 intro m
 induction m with
 | zero=>
  have ih:Az P w K mg base Bd 0 t.c9 t.da ["_law_found","_law_due"] (fun _ _ _ _=>False):=⟨fun _ _ _ _ z=>z.elim,fun _ _ _ _ _ _ _ _ _ _ _ _ _ z=>z.elim⟩
  refine D.fn.okX Fe ?_ (fun cdv A outer s H vs Q E hr h Z hZ=>?_)
  ·rintro _ _ _ _ ⟨x,y,rfl,_⟩
   rfl
  ·obtain⟨x,y,rfl,ak,k⟩:=h
   refine hZ ⟨_,((AF (Af (Av (AK Ab (by rfl) T.fo AL (AA (AI 1) (AA (A1 T.fs Ay) AB)))) (AF (Af (Bg (A7 (Av (AK Ab (by rfl) T.fo AL (AA (AI 0) (AA (A1 T.fs Ay) AB))))) (Ba (AV FD (AK Ac (by rfl) T.fm PySem.boot_len (AA (AI 0) AB)) (AK Ac (by rfl) T.fm PySem.boot_len (AA (AI 1) AB)) (AN _)))).pt (AG (AJ BV)) AR)
   (AG (AJ (AK (B0 rfl) (by rfl) T.fu B1 (Bp (IT (x:="_law_one") (y:="_law_other") (fv:=[]) (js:=[]) (cl:=[]) rfl (by with_unfolding_all rfl) ⟨⟨rfl,by nofun,by nofun,rfl,by nofun,by nofun,(List.forall_mem_nil _),(List.forall_mem_nil _),.nil⟩,rfl,by nofun⟩ (Ld rfl T.fv Nn (AA (AI 0) (AA (AI 1) AB))) (fun _ _ _ _ _=>Bk) (fun _ _ _ _ _=>(AO T.fc ih (hr.mono (by omega)) (AA (AI 0) (AA (AI 1) AB))))) AB))))) AR)
   (AF (Af (AV Gh (AI 1) Da (AN _)) (AG (AJ (Ae Gh (AI 0) Da (AN _)))) AR)
   (AF (Af (Av (AK Ab (by rfl) T.fo AL (AA (AI 1) (AA (A1 T.fq Bb) AB)))) (AG (AJ (Aj (AK Ab (by rfl) T.fo AL (AA (AI 0) (AA (A1 T.fq Bb) AB))) (Aw (Ae An (AI 0) (AI 1) (AN _)))))) AR)
   (AF (Af (Av (AK Ab (by rfl) T.fo AL (AA (AI 1) (AA (A1 T.fr Br) AB)))) (AG (AJ (Aj (AK Ab (by rfl) T.fo AL (AA (AI 0) (AA (A1 T.fr Br) AB))) (Aw (Ae An (AI 0) (AI 1) (AN _)))))) AR)
   (AG (AJ (Aj (AK Ab (by rfl) T.fo AL (AA (AI 0) (AA (A1 T.fp G6) AB))) (Aj (KR (AK Ab (by rfl) T.fo AL (AA (AI 0) (AA (A1 T.fq Bb) AB)))) (Aw (Ae An (AI 0) (AI 1) (AN _)))))))))))),?_⟩
   try dsimp only[BC,Ar]
   cases ak with
   | fl fx=>
    cases x with
    | non=>exact⟨_,rfl,_,_,_,_,false,rfl,.non,rfl,(fun _=>.inr trivial),T.gt,false,rfl,AX ⟨_,rfl,rfl,true,rfl,Ap ⟨_,rfl,rfl,k H (AH.refl _)⟩⟩⟩
    | bl b0=>exact⟨_,rfl,_,_,_,_,false,rfl,.bl _,rfl,(fun _=>.inr trivial),T.gx,false,rfl,AX ⟨_,rfl,rfl,false,rfl,AX ⟨_,rfl,_,_,_,_,true,rfl,.bl _,rfl,(fun _=>.inr trivial),Ax _ _,true,rfl,Ap ⟨_,rfl,_,_,_,_,true,rfl,.bl _,rfl,(fun _=>.inr trivial),Ax _ _,true,rfl,Ap ⟨_,rfl,_,rfl,rfl,Ew (congrArg V.bl (decide_eq_true rfl)) (k H (AH.refl _))⟩⟩⟩⟩⟩
    | str z=>exact⟨_,rfl,_,_,_,_,false,rfl,.str _,rfl,(fun _=>.inr trivial),T.hi,false,rfl,AX ⟨_,rfl,rfl,false,rfl,AX ⟨_,rfl,_,_,_,_,false,rfl,.str _,rfl,(fun _=>.inr trivial),T.g3,false,rfl,AX ⟨_,rfl,_,_,_,_,true,rfl,.str _,rfl,(fun _=>.inr trivial),Ax _ _,true,rfl,Ap ⟨_,rfl,_,_,_,_,true,rfl,.str _,rfl,(fun _=>.inr trivial),Ax _ _,true,rfl,Ap ⟨_,rfl,_,rfl,rfl,Ew (congrArg V.bl (decide_eq_true rfl)) (k H (AH.refl _))⟩⟩⟩⟩⟩⟩
    | int i=>exact⟨_,rfl,_,_,_,_,false,rfl,.int _,rfl,(fun _=>.inr trivial),T.hj,false,rfl,AX ⟨_,rfl,rfl,false,rfl,AX ⟨_,rfl,_,_,_,_,false,rfl,.int _,rfl,(fun _=>.inr trivial),T.hk,false,rfl,AX ⟨_,rfl,_,_,_,_,false,rfl,.int _,rfl,(fun _=>.inr trivial),T.g0,false,rfl,AX ⟨_,rfl,_,_,_,_,true,rfl,.int _,rfl,(fun _=>.inr trivial),Ax _ _,true,rfl,Ap ⟨_,rfl,_,_,_,_,false,rfl,.int _,rfl,(fun _=>.inr trivial),T.hk,false,rfl,true,rfl,Ap ⟨_,rfl,_,rfl,rfl,Ew (congrArg V.bl (decide_eq_true rfl)) (k H (AH.refl _))⟩⟩⟩⟩⟩⟩⟩
    | byt b=>cases fx
    | flt b=>cases fx
    | ref b=>cases fx
    | ty b=>cases fx
 | succ m ih=>
  refine D.fn.okX Fe ?_ (fun cdv A outer s H vs Q E hr h Z hZ=>?_)
  ·rintro _ _ _ _ ⟨x,y,rfl,_⟩
   rfl
  ·obtain⟨x,y,rfl,ak,k⟩:=h
   refine hZ ⟨_,((AF (Af (Av (AK Ab (by rfl) T.fo AL (AA (AI 1) (AA (A1 T.fs Ay) AB)))) (AF (Af (Bg (A7 (Av (AK Ab (by rfl) T.fo AL (AA (AI 0) (AA (A1 T.fs Ay) AB))))) (Ba (AV FD (AK Ac (by rfl) T.fm PySem.boot_len (AA (AI 0) AB)) (AK Ac (by rfl) T.fm PySem.boot_len (AA (AI 1) AB)) (AN _)))).pt (AG (AJ BV)) AR)
   (AG (AJ (AK (B0 rfl) (by rfl) T.fu B1 (Bp (IT (x:="_law_one") (y:="_law_other") (fv:=[]) (js:=[]) (cl:=[]) rfl (by with_unfolding_all rfl) ⟨⟨rfl,by nofun,by nofun,rfl,by nofun,by nofun,(List.forall_mem_nil _),(List.forall_mem_nil _),.nil⟩,rfl,by nofun⟩ (Ld rfl T.fv Nn (AA (AI 0) (AA (AI 1) AB))) (fun _ _ _ _ _=>Bk) (fun _ _ _ _ _=>(AO T.fc ih (hr.mono (by omega)) (AA (AI 0) (AA (AI 1) AB))))) AB))))) AR)
   (AF (Af (AV Gh (AI 1) Da (AN _)) (AG (AJ (Ae Gh (AI 0) Da (AN _)))) AR)
   (AF (Af (Av (AK Ab (by rfl) T.fo AL (AA (AI 1) (AA (A1 T.fq Bb) AB)))) (AG (AJ (Aj (AK Ab (by rfl) T.fo AL (AA (AI 0) (AA (A1 T.fq Bb) AB))) (Aw (Ae An (AI 0) (AI 1) (AN _)))))) AR)
   (AF (Af (Av (AK Ab (by rfl) T.fo AL (AA (AI 1) (AA (A1 T.fr Br) AB)))) (AG (AJ (Aj (AK Ab (by rfl) T.fo AL (AA (AI 0) (AA (A1 T.fr Br) AB))) (Aw (Ae An (AI 0) (AI 1) (AN _)))))) AR)
   (AG (AJ (Aj (AK Ab (by rfl) T.fo AL (AA (AI 0) (AA (A1 T.fp G6) AB))) (Aj (KR (AK Ab (by rfl) T.fo AL (AA (AI 0) (AA (A1 T.fq Bb) AB)))) (Aw (Ae An (AI 0) (AI 1) (AN _)))))))))))),?_⟩
   try dsimp only[BC,Ar]
   cases ak with
   | fl fx=>
    cases x with
    | non=>exact⟨_,rfl,_,_,_,_,false,rfl,.non,rfl,(fun _=>.inr trivial),T.gt,false,rfl,AX ⟨_,rfl,rfl,true,rfl,Ap ⟨_,rfl,rfl,k H (AH.refl _)⟩⟩⟩
    | bl b0=>exact⟨_,rfl,_,_,_,_,false,rfl,.bl _,rfl,(fun _=>.inr trivial),T.gx,false,rfl,AX ⟨_,rfl,rfl,false,rfl,AX ⟨_,rfl,_,_,_,_,true,rfl,.bl _,rfl,(fun _=>.inr trivial),Ax _ _,true,rfl,Ap ⟨_,rfl,_,_,_,_,true,rfl,.bl _,rfl,(fun _=>.inr trivial),Ax _ _,true,rfl,Ap ⟨_,rfl,_,rfl,rfl,Ew (congrArg V.bl (decide_eq_true rfl)) (k H (AH.refl _))⟩⟩⟩⟩⟩
    | str z=>exact⟨_,rfl,_,_,_,_,false,rfl,.str _,rfl,(fun _=>.inr trivial),T.hi,false,rfl,AX ⟨_,rfl,rfl,false,rfl,AX ⟨_,rfl,_,_,_,_,false,rfl,.str _,rfl,(fun _=>.inr trivial),T.g3,false,rfl,AX ⟨_,rfl,_,_,_,_,true,rfl,.str _,rfl,(fun _=>.inr trivial),Ax _ _,true,rfl,Ap ⟨_,rfl,_,_,_,_,true,rfl,.str _,rfl,(fun _=>.inr trivial),Ax _ _,true,rfl,Ap ⟨_,rfl,_,rfl,rfl,Ew (congrArg V.bl (decide_eq_true rfl)) (k H (AH.refl _))⟩⟩⟩⟩⟩⟩
    | int i=>exact⟨_,rfl,_,_,_,_,false,rfl,.int _,rfl,(fun _=>.inr trivial),T.hj,false,rfl,AX ⟨_,rfl,rfl,false,rfl,AX ⟨_,rfl,_,_,_,_,false,rfl,.int _,rfl,(fun _=>.inr trivial),T.hk,false,rfl,AX ⟨_,rfl,_,_,_,_,false,rfl,.int _,rfl,(fun _=>.inr trivial),T.g0,false,rfl,AX ⟨_,rfl,_,_,_,_,true,rfl,.int _,rfl,(fun _=>.inr trivial),Ax _ _,true,rfl,Ap ⟨_,rfl,_,_,_,_,false,rfl,.int _,rfl,(fun _=>.inr trivial),T.hk,false,rfl,true,rfl,Ap ⟨_,rfl,_,rfl,rfl,Ew (congrArg V.bl (decide_eq_true rfl)) (k H (AH.refl _))⟩⟩⟩⟩⟩⟩⟩
    | byt b=>cases fx
    | flt b=>cases fx
    | ref b=>cases fx
    | ty b=>cases fx
   | @tp _ a b xs ys h1 h2 h5 hl hh=>
    refine⟨_,rfl,_,_,_,_,true,rfl,.tup h2,rfl,(fun _=>.inr trivial),Ax _ _,true,rfl,Ap ?_⟩
    refine⟨_,rfl,_,_,_,_,true,rfl,.tup h1,rfl,(fun _=>.inr trivial),Ax _ _,true,rfl,AX ?_⟩
    refine⟨_,rfl,a,_,rfl,.inr (Ao.of h1),_,rfl,b,_,rfl,.inr (Ao.of h2),rfl,false,congrArg (fun b=>V.bl (!b)) (decide_eq_true (by rw[hl])),AX ?_⟩
    refine⟨_,rfl,_,rfl,a,b,rfl,⟨_,Ao.of h1⟩,⟨_,Ao.of h2⟩,fun D0 hD=>?_⟩
    refine⟨fun i m' H4=>m'=xs.length-i∧i≤xs.length∧H4 D0=some (.lst ((List.replicate i true).map V.bl))∧∀ c o,H c=some o→H4 c=some o,⟨xs.length,rfl,Nat.zero_le _,AD,fun c o e=>AH.new hD _ _ e⟩,?_⟩
    rintro i m' H4 ⟨rfl,hi,hD4,s4⟩
    by_cases hlt:i<xs.length
    ·have hy:i<ys.length:=by omega
     have gx:xs[i]?=some xs[i]:=List.getElem?_eq_getElem hlt
     have gy:ys[i]?=some ys[i]:=List.getElem?_eq_getElem hy
     refine .inr ⟨⟨xs,ys,_,_,Ao.of (s4 _ _ h1),Ao.of (s4 _ _ h2),gx,gy⟩,fun v H' o1 o2 yl=>?_⟩
     obtain⟨x0,y0,b0,ex,ey,hb0,rfl,rfl⟩:=yl
     have ex':=ex _ (Ao.of (s4 _ _ h1))
     have ey':=ey _ (Ao.of (s4 _ _ h2))
     have sb:=AH.new (o:=.tup [x0,y0]) hb0
     have ak:=(hh i x0 y0 ex' ey').same (fun c o e=>sb _ _ (s4 c o e))
     refine⟨b0,_,rfl,Ao.of AD,rfl,_,_,rfl,_,_,rfl,rfl,⟨_,_,rfl⟩,?_⟩
     refine⟨_,rfl,_,rfl,x0,y0,rfl,ak,fun H5 s5=>?_⟩
     refine⟨_,s5 _ _ (sb _ _ hD4),CP (by rw[List.length_map,List.length_replicate];omega),xs.length-(i+1),by omega,rfl,hlt,?_,fun c o e=>?_⟩
     ·rw[AD,List.replicate_succ',List.map_append];rfl
     ·rw[AT (Aa e hD)];exact s5 _ _ (sb _ _ (s4 _ _ e))
    have e:i=xs.length:=by omega
    subst e
    refine .inl ⟨⟨xs,ys,Ao.of (s4 _ _ h1),Ao.of (s4 _ _ h2),.inl (Nat.le_refl _)⟩,?_⟩
    exact⟨D0,_,rfl,A3.of hD4,Ew (congrArg V.bl (by simp)) (k _ fun c o e=>s4 c o e)⟩
theorem Hx:AZ ["_law_pen_here"] ["_law_pen_here"] (AM DR):=BD
theorem Hf (T:Txt w K mg t):Az P w K mg base Bd 2 t.db t.dc ["_law_pen_here"] (Sw K):=by
 have D:=T.fd
 refine D.fn.okX Hx ?_ (fun cdv A outer s H vs Q E hr h Z hZ=>?_)
 ·rintro _ _ _ _ ⟨p,n,S,rfl,_⟩
  rfl
 ·obtain⟨p,n,S,rfl,hpen,hn,k⟩:=h
  refine hZ ⟨_,((AG (AJ (AW A5 (A8 (Gp (A8 (AE AU AB)) (Gp (A8 (AE AU (AE AU AB))) (Gp (A8 (AE AU (AE AU (AE AU AB)))) AB)))) (AO T.dw (AQ T) (BU hr) (AA (AI 0) (AE AC AB))) (fun _ _=>rfl))))),?_⟩
  try dsimp only[BC,Ar]
  refine⟨EF,fun l1 h1=>⟨BB,fun l2 h2=>⟨A6,fun l3 h3=>⟨A6,fun q hq=>?_⟩⟩⟩⟩
  have s1:=AH.new (o:=.lst [vS "main"]) h1
  have o1:upd H l1 (.lst [vS "main"]) l1=some (.lst [vS "main"]):=AD
  have p1:=hpen.same s1
  generalize upd H l1 (.lst [vS "main"])=G1 at *
  have s2:=AH.new (o:=.lst [vS "main",vS "two"]) h2
  have o2:upd G1 l2 (.lst [vS "main",vS "two"]) l2=some (.lst [vS "main",vS "two"]):=AD
  have p2:=p1.same s2
  generalize upd G1 l2 (.lst [vS "main",vS "two"])=G2 at *
  have s3:=AH.new (o:=.lst [vS "two",vS "main",vS "a"]) h3
  have o3:upd G2 l3 (.lst [vS "two",vS "main",vS "a"]) l3=some (.lst [vS "two",vS "main",vS "a"]):=AD
  have p3:=p2.same s3
  generalize upd G2 l3 (.lst [vS "two",vS "main",vS "a"])=G3 at *
  have s4:=AH.new (o:=.lst [.ref l1,.ref l2,.ref l3]) hq
  have o4:upd G3 q (.lst [.ref l1,.ref l2,.ref l3]) q=some (.lst [.ref l1,.ref l2,.ref l3]):=AD
  have p4:=p3.same s4
  have n1:=hpen.ne h1
  have n2:=p1.ne h2
  have n3:=p2.ne h3
  have n4:=p3.ne hq
  generalize upd G3 q (.lst [.ref l1,.ref l2,.ref l3])=G4 at *
  refine⟨_,rfl,p,_,_,_,rfl,(by show(0:Int)<_;decide),Ag (by decide) (by decide),p4,(by omega),fun r1 H1 a1 b1 pen1 kp1=>?_⟩
  have kk:=AH.keep (p:=p) (((s1.trans s2).trans s3).trans s4)
  have:r1=0∨r1=1∨r1=2:=by omega
  rcases this with rfl | rfl | rfl
  ·exact⟨q,_,_,_,rfl,rfl,A3.of (kp1 _ _ n4 o4),rfl,k l1 [zS "main"] _ (kp1 _ _ n1 (s4 _ _ (s3 _ _ (s2 _ _ o1)))) O6 pen1 (kk.trans kp1)⟩
  ·exact⟨q,_,_,_,rfl,rfl,A3.of (kp1 _ _ n4 o4),rfl,k l2 [zS "main",zS "two"] _ (kp1 _ _ n2 (s4 _ _ (s3 _ _ o2))) O7 pen1 (kk.trans kp1)⟩
  ·exact⟨q,_,_,_,rfl,rfl,A3.of (kp1 _ _ n4 o4),rfl,k l3 [zS "two",zS "main",zS "a"] _ (kp1 _ _ n3 (s4 _ _ o3)) O8 pen1 (kk.trans kp1)⟩
theorem Ds:AZ ["_law_pen_here","_law_sheets_here","_law_names_here","_law_name"] ["_law_pen_here","_law_sheets_here"] (AM Do):=BD
theorem Hy (T:Txt w K mg t):Az P w K mg base Bd 30 t.dd t.de ["_law_pen_here","_law_sheets_here"] (Pe K false):=by
 have D:=T.fe
 refine D.fn.okX Ds ?_ (fun cdv A outer s H vs Q E hr h Z hZ=>?_)
 ·rintro _ _ _ _ ⟨p,sl,zs,c,S,rfl,_⟩
  rfl
 ·obtain⟨p,sl,zs,c,S,rfl,hpen,hc,hsl,ok,k⟩:=h
  refine hZ ⟨_,((AF (Al (i:=2) Ds.nd rfl (Or.inl rfl) (A8 AB))
   (AF (Dx PassesOwn.never rfl (CB (A8 (AE AU (AE AU AB)))) (Be (i:=3) Ds.nd rfl (Or.inl rfl))
   (AG (Af (AV Gg (AO T.dw (AQ T) (hr.mono (by omega)) (AA (AI 0) (AE AC AB))) AC (AN _)) (AG (EV (IK PySem.F.plainAttrs_list PySem.F.slot_list_append PySem.F.type_list_append Ch (AI 2) (A9 (Ai (AA (AI 3) (Aq (AO T.fb (Cd T 1) (hr.mono (by omega)) (AA (AI 0) (AA (AI 1) (AE BV (AE AC (AE AC AB)))))) AB))) AB)))) AR)))
   (AG (AJ (AI 2)))))),?_⟩
  try dsimp only[BC,Ar]
  have np:=FQ hpen hsl ok
  refine⟨Nat.zero_le _,fun l hl=>?_⟩
  have s1:=AH.new (o:=.lst []) hl
  have ol:upd H l (.lst []) l=some (.lst []):=AD
  have pe1:=hpen.same s1
  have nl:=hpen.ne hl
  generalize upd H l (.lst [])=G1 at *
  refine⟨BB,fun ls hls=>?_⟩
  have s2:=AH.new (o:=.lst ((Fq false).map V.str)) hls
  have nls:=pe1.ne hls
  have lls:ls≠l:=fun e=>by rw[e,ol]at hls;cases hls
  refine⟨ls,rfl,⟨_,A3.of AD⟩,?_⟩
  have u1:uB 1=48:=rfl
  have b1:sB 1=4:=rfl
  refine Dy (xs:=(Fq false).map V.str) (fun i σ H5=>∃(us:List V) (es:List DZ) (x3:Option V),σ=[some (.ref p),some (.ref sl),some (.ref l),x3]∧Pf K false S H p l ls c i H5 us es) ⟨[],[],none,rfl,s2 _ _ ol,.nil,(fun _ h=>nomatch h),List.nil_sublist _,(pe1.same s2).mono (by omega),AD,fun b o _ e=>s2 _ _ (s1 _ _ e)⟩ ?_ ?_ ?_
  ·rintro i σ H5 _ ⟨us,es,x3,rfl,st⟩
   exact A3.of st.ls
  ·rintro i x σ H5 hx ⟨us,es,x3,rfl,st⟩
   rw[List.getElem?_map]at hx
   obtain⟨z,hz,rfl⟩:∃ z,(Fq false)[i]?=some z∧V.str z=x:=by
    cases q:(Fq false)[i]? with
    | none=>rw[q]at hx;cases hx
    | some z=>rw[q]at hx;exact⟨z,rfl,Option.some.inj hx⟩
   have hi2:i<2:=(List.getElem?_eq_some_iff.mp hz).1
   have pe5:=st.pen
   refine⟨_,rfl,p,_,_,_,rfl,(by show(0:Int)<_;decide),Ag (by decide) (by decide),pe5,(by omega),fun r1 H1 a1 b1 pen1 kp1=>⟨_,_,rfl,rfl,_,rfl,CA (fun _=>?_) (fun _=>?_)⟩⟩
   ·
    have k02:KeepX p H5 H1:=kp1
    have q02:=st.pen.kp k02
    have pen0:=pen1
    have ol2:=k02 _ _ nl st.ol
    have hs2:=k02 _ _ np (st.kp _ _ np hsl)
    refine⟨_,rfl,.inl ⟨rfl,_,A3.of ol2⟩,_,rfl,_,rfl,_,rfl,p,sl,zs,_,S,true,0,rfl,(by decide),(by decide),pen0,(by omega),hs2,ok,fun v f H6 hv fo sz pen6 kp6=>?_⟩
    refine⟨BB,fun a ha=>?_⟩
    have s7:=AH.new (o:=.tup [.str z,v]) ha
    obtain⟨ln,nx⟩:=st.add (e:=(z,0,f)) (H7:=upd H6 a (.tup [.str z,v])) hpen nl nls lls hl (k02.trans (kp6.trans (AH.keep s7))) ((q02.trans (pen0.kp kp6)).trans (Kp.same s7)) ((pen6.same s7).mono (by omega)) AD (hv.kp (Kp.same s7)) ⟨⟨(GZ z (List.mem_of_getElem? hz)).1,(GZ z (List.mem_of_getElem? hz)).2,(fun _=>rfl),(Nat.zero_le _),fo.1.mono (by decide),(by show Cm f≤24;omega),fo.2 rfl⟩,fo.1,(by show Cm f≤4;omega)⟩ hz
    exact⟨l,us,_,rfl,rfl,s7 _ _ (kp6 _ _ nl ol2),ln,_,_,_,rfl,nx⟩
   ·exact⟨us,es,_,rfl,st.skip nl nls kp1 (pe5.kp kp1) (pen1.mono (by omega))⟩
  ·rintro σ H5 ⟨us,es,x3,rfl,st⟩
   exact⟨_,rfl,k l us es H5 hl st.ol st.en st.ok st.sb (st.pen.mono (by show c+60*2≤c+200;omega)) st.kp⟩
theorem DI:AZ ["_law_pen_here","_law_sheets_here","_law_owns_here","_law_name","_law_count"] ["_law_pen_here","_law_sheets_here"] (AM ES):=BD
theorem JN (T:Txt w K mg t):Az P w K mg base Bd 30 t.df t.dg ["_law_pen_here","_law_sheets_here"] (Pe K true):=by
 have D:=T.ff
 refine D.fn.okX DI ?_ (fun cdv A outer s H vs Q E hr h Z hZ=>?_)
 ·rintro _ _ _ _ ⟨p,sl,zs,c,S,rfl,_⟩
  rfl
 ·obtain⟨p,sl,zs,c,S,rfl,hpen,hc,hsl,ok,k⟩:=h
  refine hZ ⟨_,((AF (Al (i:=2) DI.nd rfl (Or.inl rfl) (A8 AB))
   (AF (Dx PassesOwn.never rfl (CB (A8 (AE AU (AE AU AB)))) (Be (i:=3) DI.nd rfl (Or.inl rfl))
   (AG (Af (AV Gg (AO T.dw (AQ T) (hr.mono (by omega)) (AA (AI 0) (AE AC AB))) AC (AN _)) (AF (Al (i:=4) DI.nd rfl (Or.inl rfl) (AW A5 (A8 (AE AC (AE AC (AE AC (AE AC AB))))) (AO T.dw (AQ T) (hr.mono (by omega)) (AA (AI 0) (AE AC AB))) (fun _ _=>rfl)))
   (AG (EV (IK PySem.F.plainAttrs_list PySem.F.slot_list_append PySem.F.type_list_append Ch (AI 2) (A9 (Ai (AA (AI 3) (AA (AI 4) (Aq (AO T.fb (Cd T 1) (hr.mono (by omega)) (AA (AI 0) (AA (AI 1) (AE BV (AA (AI 4) (AE AC AB)))))) AB)))) AB))))) AR)))
   (AG (AJ (AI 2)))))),?_⟩
  try dsimp only[BC,Ar]
  have np:=FQ hpen hsl ok
  refine⟨Nat.zero_le _,fun l hl=>?_⟩
  have s1:=AH.new (o:=.lst []) hl
  have ol:upd H l (.lst []) l=some (.lst []):=AD
  have pe1:=hpen.same s1
  have nl:=hpen.ne hl
  generalize upd H l (.lst [])=G1 at *
  refine⟨BB,fun ls hls=>?_⟩
  have s2:=AH.new (o:=.lst ((Fq true).map V.str)) hls
  have nls:=pe1.ne hls
  have lls:ls≠l:=fun e=>by rw[e,ol]at hls;cases hls
  refine⟨ls,rfl,⟨_,A3.of AD⟩,?_⟩
  have u1:uB 1=48:=rfl
  have b1:sB 1=4:=rfl
  refine Dy (xs:=(Fq true).map V.str) (fun i σ H5=>∃(us:List V) (es:List DZ) (x3 x4:Option V),σ=[some (.ref p),some (.ref sl),some (.ref l),x3,x4]∧Pf K true S H p l ls c i H5 us es) ⟨[],[],none,none,rfl,s2 _ _ ol,.nil,(fun _ h=>nomatch h),List.nil_sublist _,(pe1.same s2).mono (by omega),AD,fun b o _ e=>s2 _ _ (s1 _ _ e)⟩ ?_ ?_ ?_
  ·rintro i σ H5 _ ⟨us,es,x3,x4,rfl,st⟩
   exact A3.of st.ls
  ·rintro i x σ H5 hx ⟨us,es,x3,x4,rfl,st⟩
   rw[List.getElem?_map]at hx
   obtain⟨z,hz,rfl⟩:∃ z,(Fq true)[i]?=some z∧V.str z=x:=by
    cases q:(Fq true)[i]? with
    | none=>rw[q]at hx;cases hx
    | some z=>rw[q]at hx;exact⟨z,rfl,Option.some.inj hx⟩
   have hi2:i<2:=(List.getElem?_eq_some_iff.mp hz).1
   have pe5:=st.pen
   refine⟨_,rfl,p,_,_,_,rfl,(by show(0:Int)<_;decide),Ag (by decide) (by decide),pe5,(by omega),fun r1 H1 a1 b1 pen1 kp1=>⟨_,_,rfl,rfl,_,rfl,CA (fun _=>?_) (fun _=>?_)⟩⟩
   ·
    refine⟨(by show 4≤sizeLine;decide),fun lc hlc=>?_⟩
    have sc:=AH.new (o:=.lst [.int 1,.int 2,.int 0,.int 3]) hlc
    have penc:=pen1.same sc
    have nlc:=pen1.ne hlc
    refine⟨_,rfl,p,_,_,_,rfl,(by show(0:Int)<_;decide),Ag (by decide) (by decide),penc,(by omega),fun r2 H2 a2 b2 pen2 kp2=>?_⟩
    obtain⟨m,hm,m3⟩:=Ny a2 b2
    refine⟨lc,_,_,_,rfl,rfl,A3.of (kp2 _ _ nlc AD),hm,?_⟩
    have k02:KeepX p H5 H2:=(kp1.trans (AH.keep sc)).trans kp2
    have q02:=st.pen.kp k02
    have pen0:=pen2
    have ol2:=k02 _ _ nl st.ol
    have hs2:=k02 _ _ np (st.kp _ _ np hsl)
    refine⟨_,rfl,.inl ⟨rfl,_,A3.of ol2⟩,_,rfl,_,rfl,_,rfl,_,rfl,_,rfl,p,sl,zs,_,S,true,m,rfl,m3,(by decide),pen0,(by omega),hs2,ok,fun v f H6 hv fo sz pen6 kp6=>?_⟩
    refine⟨A6,fun a ha=>?_⟩
    have s7:=AH.new (o:=.tup [.str z,.int (m:Nat),v]) ha
    obtain⟨ln,nx⟩:=st.add (e:=(z,m,f)) (H7:=upd H6 a (.tup [.str z,.int (m:Nat),v])) hpen nl nls lls hl (k02.trans (kp6.trans (AH.keep s7))) ((q02.trans (pen0.kp kp6)).trans (Kp.same s7)) ((pen6.same s7).mono (by omega)) AD (hv.kp (Kp.same s7)) ⟨⟨(GZ z (List.mem_of_getElem? hz)).1,(GZ z (List.mem_of_getElem? hz)).2,(fun z=>by cases z),m3,fo.1.mono (by decide),(by show Cm f≤24;omega),fo.2 rfl⟩,fo.1,(by show Cm f≤4;omega)⟩ hz
    exact⟨l,us,_,rfl,rfl,s7 _ _ (kp6 _ _ nl ol2),ln,_,_,_,_,rfl,nx⟩
   ·exact⟨us,es,_,_,rfl,st.skip nl nls kp1 (pe5.kp kp1) (pen1.mono (by omega))⟩
  ·rintro σ H5 ⟨us,es,x3,x4,rfl,st⟩
   exact⟨_,rfl,k l us es H5 hl st.ol st.en st.ok st.sb (st.pen.mono (by show c+60*2≤c+200;omega)) st.kp⟩
theorem EU:AZ ["_law_pen_here","_law_sheets_here","_law_deep","_law_way"] ["_law_pen_here","_law_sheets_here","_law_deep"] (AM Cu):=BD
theorem GM (T:Txt w K mg t):Az P w K mg base Bd 9 t.dh t.di ["_law_pen_here","_law_sheets_here","_law_deep"] (Sy K):=by
 have D:=T.fg
 refine D.fn.okX EU ?_ (fun cdv A outer s H vs Q E hr h Z hZ=>?_)
 ·rintro _ _ _ _ ⟨p,sl,zs,n,S,rfl,_⟩
  rfl
 ·obtain⟨p,sl,zs,n,S,rfl,hpen,hn,hsl,ok,k⟩:=h
  refine hZ ⟨_,((AF (Al (i:=3) EU.nd rfl (Or.inl rfl) (AO T.dw (AQ T) (hr.mono (by omega)) (AA (AI 0) (AE AC AB))))
   (AF (Af (AV An (AI 3) AC (AN _)) (AG (AJ (Ai (AE AU (AS (AW A5 (A8 (M4 (RI Ps AC) (AE AC (BX (A4 Gf AC (A4 Mo AC AC)) (AE AC AB))))) (AO T.dw (AQ T) (hr.mono (by omega)) (AA (AI 0) (AE AC AB))) (fun _ _=>rfl)) (AS (AW A5 (A8 (AE AC (AE AC (BX (A4 Gf (A4 Mo AC AC) AC) AB)))) (AO T.dw (AQ T) (hr.mono (by omega)) (AA (AI 0) (AE AC AB))) (fun _ _=>rfl)) AB)))))) AR)
   (AF (Af (AV An (AI 3) AC (AN _)) (AG (AJ (AO T.e5 (En T) (hr.mono (by omega)) (AA (AI 0) AB)))) AR)
   (AG (AJ (Ai (AE AU (Aq (AO T.fb (Cd T 1) (hr.mono (by omega)) (AA (AI 0) (AA (AI 1) (AE BV (AE AC (AA (AI 2) AB)))))) AB))))))))),?_⟩
  try dsimp only[BC,Ar]
  have nsl:=FQ hpen hsl ok
  have u1:uB 1=48:=rfl
  have b1':sB 1=4:=rfl
  refine⟨_,rfl,p,_,_,_,rfl,(by show(0:Int)<_;decide),Ag (by decide) (by decide),hpen,(by omega),fun r1 H1 a1 b1 pen1 kp1=>?_⟩
  refine⟨_,rfl,rfl,_,rfl,CA (fun _=>?_) (fun _=>?_)⟩
  ·refine⟨_,rfl,_,_,rfl,rfl,⟨by decide,by decide,by decide⟩,_,_,rfl,rfl,(by show 4≤sizeLine;decide),fun q2 h2=>⟨_,rfl,p,_,_,_,rfl,(by show(0:Int)<_;decide),Ag (by decide) (by decide),(pen1.same (AH.new h2)),(by omega),fun r2 H2 a2 b2 pen2 kp2=>?_⟩⟩
   obtain⟨i,mi,ei⟩:=L0 (L:=[(-1:Int),3,1-10 ^ 30,5]) a2 b2
   refine⟨q2,_,_,_,rfl,rfl,A3.of (kp2 _ _ (pen1.ne h2) AD),ei,?_⟩
   refine⟨_,_,rfl,rfl,⟨by decide,by decide,by decide⟩,_,_,rfl,rfl,A6,fun q3 h3=>⟨_,rfl,p,_,_,_,rfl,(by show(0:Int)<_;decide),Ag (by decide) (by decide),(pen2.same (AH.new h3)),(by omega),fun r3 H3 a3 b3 pen3 kp3=>?_⟩⟩
   obtain⟨j,mj,ej⟩:=L0 (L:=[(2:Int),4,10 ^ 30-2]) a3 b3
   obtain⟨o1,o2,o3,o4⟩:=Qr i mi j mj
   refine⟨q3,_,_,_,rfl,rfl,A3.of (kp3 _ _ (pen2.ne h3) AD),ej,A6,fun q hq=>?_⟩
   exact k (.ref q) (.val (.num i j)) _ ⟨q,rfl,AD⟩ ⟨⟨⟨o1,o2⟩,o3,o4⟩,trivial⟩ ((pen3.same (AH.new hq)).mono (by omega)) (kp1.trans ((AH.keep (AH.new h2)).trans (kp2.trans ((AH.keep (AH.new h3)).trans (kp3.trans (AH.keep (AH.new hq)))))))
  refine⟨_,rfl,rfl,_,rfl,CA (fun _=>?_) (fun _=>?_)⟩
  ·exact⟨_,rfl,p,_,S,rfl,pen1,(by omega),fun q v H' hq vo vw pen2 kp2=>k (.ref q) (.val v) H' ⟨q,rfl,hq⟩ ⟨vo,vw.c⟩ (pen2.mono (by omega)) (kp1.trans kp2)⟩
  refine⟨_,rfl,_,rfl,_,rfl,p,sl,zs,_,S,false,0,rfl,(by decide),(by decide),pen1,(by omega),kp1 _ _ nsl hsl,ok,fun v f H2 hv fo sz pen2 kp2=>⟨BB,fun a ha=>?_⟩⟩
  exact k (.ref a) (.fm f) _ ⟨a,v,rfl,AD,hv.kp (Kp.new0 ha)⟩ ⟨fo.1.mono (by decide),by omega⟩ ((pen2.same (AH.new ha)).mono (by omega)) (kp1.trans (kp2.trans (AH.keep (AH.new ha))))
theorem CO:AZ ["_law_pen_here","_law_sheets_here","_law_many_here","_law_deep","_law_found","_law_k","_law_row","_law_column"] ["_law_pen_here","_law_sheets_here","_law_many_here","_law_deep"] (AM Dp):=BD
theorem Hz (T:Txt w K mg t):Az P w K mg base Bd 10 t.dj t.dk ["_law_pen_here","_law_sheets_here","_law_many_here","_law_deep"] (S0 K):=by
 have D:=T.fh
 refine D.fn.okX CO ?_ (fun cdv A outer s H vs Q E hr h Z hZ=>?_)
 ·rintro _ _ _ _ ⟨p,sl,zs,n,m,S,rfl,_⟩
  rfl
 ·obtain⟨p,sl,zs,n,m,S,rfl,h12,hpen,hn,hsl,ok,k⟩:=h
  have hu1:=Mw hr
  refine hZ ⟨_,((AF (Al (i:=4) CO.nd rfl (Or.inl rfl) NB)
   (AF (Dx PassesOwn.never rfl (EW rfl T.fn (AA (AI 2) AB)) (Be (i:=5) CO.nd rfl (Or.inl rfl))
   (AF (Al (i:=6) CO.nd rfl (Or.inl rfl) (AW A5 (A8 (AE AC (AE AC (AE AC (AE AC (AE AC (AE AC AB))))))) (AO T.dw (AQ T) (BU hr) (AA (AI 0) (AE AC AB))) (fun _ _=>rfl)))
   (AF (Al (i:=7) CO.nd rfl (Or.inl rfl) (AW A5 (A8 (AE AC (AE AC (AE AC (AE AC (AE AC AB)))))) (AO T.dw (AQ T) (BU hr) (AA (AI 0) (AE AC AB))) (fun _ _=>rfl)))
   (AG (OP hu1 (AI 4) (Ai (AS (AW A5 (AI 1) (AO T.dw (AQ T) (BU hr) (AA (AI 0) (Aq (AK Ac (by rfl) T.fm PySem.boot_len (AA (AI 1) AB)) AB))) (fun _ _=>rfl)) (AA (AI 6) (AA (AI 7) AB)))) (AO T.fg (GM T) (BU hr) (AA (AI 0) (AA (AI 1) (AA (AI 3) AB)))) rfl)))))
   (AG (AJ (AI 4)))))),?_⟩
  try dsimp only[BC,Ar]
  have nsl:=FQ hpen hsl ok
  obtain⟨l1,l4,_,nm⟩:=id ok
  have hl:(zs.map V.str).length=zs.length:=List.length_map ..
  intro d hd
  have nd:=hpen.ne hd
  refine⟨_,rfl,(m:Int),rfl,(by omega),(by omega),?_⟩
  refine L6 (n:=m) (fun i σ H3=>∃(kvs:List (List BF×V)) (cs:List Pr) (x5 x6 x7:Option V),σ=[some (.ref p),some (.ref sl),some (.int (m:Int)),some (.int 1),some (.ref d),x5,x6,x7]∧H3 d=some (.dT kvs)∧Ef H3 kvs cs∧Qt zs cs∧cs.length≤i∧BE K S H3 p (n+80*i)∧KeepX p H H3) ⟨[],[],none,none,none,rfl,AD,.nil,⟨List.nodup_nil,fun _ h=>nomatch h⟩,Nat.le_refl _,(hpen.same (AH.new hd)).mono (by omega),AH.keep (AH.new hd)⟩ ?_ ?_
  ·rintro i σ H3 hi ⟨kvs,cs,x5,x6,x7,rfl,od,dc,dk,lc,pen0,kp0⟩
   refine⟨(by show 6≤sizeLine;decide),fun q1 h1=>⟨_,rfl,p,_,_,_,rfl,(by show(0:Int)<_;decide),Ag (by decide) (by decide),(pen0.same (AH.new h1)),(by omega),fun r1 H1 a1 b1 pen1 kp1=>?_⟩⟩
   obtain⟨r,er,ra,rb⟩:=FR (L:=[.int 1,.int 2,.int 3,.int 4,.int 15,.int 16]) (lo:=1) (hi:=16) (by nofun) a1 b1
   refine⟨q1,_,_,_,rfl,rfl,A3.of (kp1 _ _ (pen0.ne h1) AD),er,?_⟩
   refine⟨(by show 5≤sizeLine;decide),fun q2 h2=>⟨_,rfl,p,_,_,_,rfl,(by show(0:Int)<_;decide),Ag (by decide) (by decide),(pen1.same (AH.new h2)),(by omega),fun r2 H2 a2 b2 pen2 kp2=>?_⟩⟩
   obtain⟨c,ec,ca,cb⟩:=FR (L:=[.int 1,.int 2,.int 3,.int 7,.int 8]) (lo:=1) (hi:=8) (by nofun) a2 b2
   refine⟨q2,_,_,_,rfl,rfl,A3.of (kp2 _ _ (pen1.ne h2) AD),ec,?_⟩
   have k02:KeepX p H3 H2:=(AH.keep (AH.new h1)).trans (kp1.trans ((AH.keep (AH.new h2)).trans kp2))
   have hs2:=k02 _ _ nsl (kp0 _ _ nsl hsl)
   refine⟨_,rfl,_,rfl,_,rfl,p,sl,zs,_,S,rfl,pen2,(by omega),hs2,ok,fun u ct H4 hu4 ctk pen4 kp4=>?_⟩
   have hs4:=kp4 _ _ nsl hs2
   refine⟨_,rfl,_,rfl,_,rfl,_,rfl,sl,_,rfl,.inl (A3.of hs4),p,_,_,_,rfl,(by rw[hl];omega),Ag (by omega) (by omega),pen4,(by omega),fun r5 H5 a5 b5 pen5 kp5=>?_⟩
   rw[hl]at b5
   obtain⟨z,mz,ez⟩:=Pg a5 b5
   refine⟨sl,_,_,_,rfl,rfl,A3.of (kp5 _ _ nsl hs4),ez,_,rfl,_,rfl,A6,fun q hq=>?_⟩
   have k05:KeepX p H3 (upd H5 q (.tup [.str z,.int r,.int c])):=k02.trans (kp4.trans (kp5.trans (AH.keep (AH.new hq))))
   have q05:=pen0.kp k05
   have od5:=k05 _ _ nd od
   have q25:Kp H4 (upd H5 q (.tup [.str z,.int r,.int c])):=(pen4.kp kp5).trans (Kp.new0 hq)
   have ld:kvs.length=cs.length:=Paired.length dc
   obtain⟨cs',d1,d2,d3,d4⟩:=Qs (c:=(z,r,c)) (dc.kp q05) (hu4.kp q25) dk.nd
   refine⟨d,_,rfl,M9.t (k:=GS.ckK (z,r,c)) od5 AD (CP (by omega)),?_⟩
   have q9:Kp _ (upd (upd H5 q (.tup [.str z,.int r,.int c])) d (.dT (FJ kvs (GS.ckK (z,r,c)) u))):=Kp.dT od5
   refine⟨_,cs',_,_,_,rfl,AD,d1.kp q9,⟨d3,fun p hp=>?_⟩,by omega,?_,fun b o hb e=>?_⟩
   ·rcases d2 p hp with hp | rfl
    ·exact dk.ok p hp
    ·exact⟨⟨mz,nm z mz,ra,rb,ca,cb⟩,ctk⟩
   ·exact BE.put hpen hd ((pen5.same (AH.new hq)).mono (by omega))
   ·rw[AT (Aa e hd)];exact k05 _ _ hb (kp0 _ _ hb e)
  ·rintro σ H3 ⟨kvs,cs,x5,x6,x7,rfl,od,dc,dk,lc,pen0,kp0⟩
   exact⟨_,rfl,k d kvs cs H3 hd od dc dk (by omega) (pen0.mono (by omega)) kp0⟩
theorem Dt:AZ ["_law_pen_here","_law_some","_law_left","_law_found"] ["_law_pen_here","_law_some"] (AM Dq):=BD
theorem IA (T:Txt w K mg t):Az P w K mg base Bd 3 t.dl t.dm ["_law_pen_here","_law_some"] (S1 K):=by
 have D:=T.fi
 refine D.fn.okX Dt ?_ (fun cdv A outer s H vs Q E hr h Z hZ=>?_)
 ·rintro _ _ _ _ ⟨p,a,us,n,S,rfl,_⟩
  rfl
 ·obtain⟨p,a,us,n,S,rfl,hpen,hn,nap,ha,h60,k⟩:=h
  have hu:=hr.units0
  refine hZ ⟨_,((AF (Al (i:=2) Dt.nd rfl (Or.inl rfl) (BH Bt (by rfl) T.ft Bj (AA (AI 1) AB)))
   (AF (Al (i:=3) Dt.nd rfl (Or.inl rfl) (A8 AB))
   (AF (Gd PassesOwn.never (AV (QC hu) (AI 2) (A8 AB) (AN _)) (AG (EV (IK PySem.F.plainAttrs_list PySem.F.slot_list_append PySem.F.type_list_append Ch (AI 3) (Aq (IK PySem.F.plainAttrs_list PySem.F.slot_list_pop PySem.F.type_list_pop Mu (AI 2) (Aq (AO T.dw (AQ T) (BU hr) (AA (AI 0) (Aq (AK Ac (by rfl) T.fm PySem.boot_len (AA (AI 2) AB)) AB))) AB)) AB)))))
   (AG (AJ (AI 3))))))),?_⟩
  try dsimp only[BC,Ar]
  refine⟨_,rfl,a,us,rfl,.inl (A3.of ha),fun l hl=>?_⟩
  have s0:=AH.new (o:=.lst us) hl
  have nl:=hpen.ne hl
  have ol0:upd H l (.lst us) l=some (.lst us):=AD
  have pe0:=hpen.same s0
  generalize upd H l (.lst us)=G at *
  refine⟨Nat.zero_le _,fun r hr'=>?_⟩
  have s1:=AH.new (o:=.lst []) hr'
  have nr:=pe0.ne hr'
  have nlr:l≠r:=fun z=>by rw[← z,ol0]at hr';cases hr'
  have hr0:H r=none:=AH.back0 s0 hr'
  refine⟨fun m σ H5=>∃(xs ys:List V),σ=[some (.ref p),some (.ref a),some (.ref l),some (.ref r)]∧m=xs.length∧H5 l=some (.lst xs)∧H5 r=some (.lst ys)∧(ys++xs).Perm us∧BE K S H5 p (n+ys.length)∧KeepX p H H5,⟨us.length,us,[],rfl,rfl,s1 _ _ ol0,AD,List.Perm.refl _,pe0.same s1,AH.keep (s0.trans s1)⟩,?_⟩
  rintro m σ H5 ⟨xs,ys,rfl,rfl,ol,or,pm,pen0,kp0⟩
  have lp:=pm.length_eq
  rw[List.length_append]at lp
  refine⟨_,rfl,Nat.zero_le _,fun e he=>⟨l,e,xs,rfl,rfl,A3.of (AH.new he _ _ ol),A3.of AD,_,rfl,?_⟩⟩
  have se:=AH.new (o:=.lst []) he
  have ol6:=se _ _ ol
  have or6:=se _ _ or
  have pen6:=pen0.same se
  have kp6:=kp0.trans (AH.keep se)
  generalize upd H5 e (.lst [])=H6 at *
  cases xs with
  | nil=>
   refine AX ⟨_,rfl,k r ys H6 hr0 or6 (by rw[List.append_nil]at pm;exact pm) (pen6.mono (by omega)) kp6⟩
  | cons x xs=>
   refine Ap ⟨fun σ' H'=>∃ m',m'<(x::xs).length∧∃(xs ys:List V),σ'=[some (.ref p),some (.ref a),some (.ref l),some (.ref r)]∧m'=xs.length∧H' l=some (.lst xs)∧H' r=some (.lst ys)∧(ys++xs).Perm us∧BE K S H' p (n+ys.length)∧KeepX p H H',fun _ _ z=>z,?_⟩
   refine⟨_,rfl,.inl ⟨rfl,_,A3.of or6⟩,_,rfl,.inl ⟨rfl,_,A3.of ol6⟩,_,rfl,_,rfl,l,_,rfl,.inl (A3.of ol6),p,_,_,_,rfl,(by rw[List.length_cons];omega),Ag (by omega) (by omega),pen6,(by omega),fun r1 H1 a1 b1 pen1 kp1=>?_⟩
   have ol1:=kp1 _ _ nl ol6
   have or1:=kp1 _ _ nr or6
   generalize x::xs=xs at *
   obtain⟨j,rfl⟩:∃ j:Nat,r1=(j:Int):=⟨r1.toNat,by omega⟩
   have hj:j<xs.length:=by omega
   refine⟨l,xs,(j:Int),j,xs[j],rfl,rfl,ol1,(by omega),(by omega),Qu hj,List.getElem?_eq_getElem hj,?_⟩
   have or2:upd H1 l (.lst (xs.eraseIdx j)) r=some (.lst ys):=by rw[AT nlr.symm];exact or1
   refine⟨r,ys,xs[j],rfl,rfl,or2,CP (by omega),(xs.eraseIdx j).length,?_,_,ys++[xs[j]],rfl,rfl,?_,AD,?_,?_,fun b o hb e=>?_⟩
   ·rw[List.length_eraseIdx_of_lt hj];omega
   ·rw[AT nlr];exact AD
   ·rw[List.append_assoc]
    exact(List.Perm.append_left ys (HR hj)).trans pm
   ·rw[List.length_append]
    exact BE.put hpen hr0 (BE.put hpen hl (pen1.mono (by show _≤n+(ys.length+1);omega)))
   ·rw[AT (Aa e hr0),AT (Aa e hl)];exact kp1 _ _ hb (kp6 _ _ hb e)
theorem Eo:AZ ["_law_pen_here","_law_some","_law_dealt_here"] ["_law_pen_here","_law_some"] (AM DS):=BD
theorem Cy (T:Txt w K mg t):Az P w K mg base Bd 4 t.dn t.dp ["_law_pen_here","_law_some"] (S3 K):=by
 have D:=T.fj
 refine D.fn.okX Eo ?_ (fun cdv A outer s H vs Q E hr h Z hZ=>?_)
 ·rintro _ _ _ _ ⟨p,a,us,n,S,rfl,_⟩
  rfl
 ·obtain⟨p,a,us,n,S,rfl,hpen,hn,nap,ha,h60,k⟩:=h
  refine hZ ⟨_,((AF (Al (i:=2) Eo.nd rfl (Or.inl rfl) (AO T.fi (IA T) (BU hr) (AA (AI 0) (AA (AI 1) AB))))
   (AG (AJ (AW A5 (A8 (AA (AI 2) (Aq (BH BN (by rfl) T.fs Ay (AA (AI 2) AB)) AB))) (AO T.dw (AQ T) (BU hr) (AA (AI 0) (AE AC AB))) (fun _ _=>rfl)))))),?_⟩
  try dsimp only[BC,Ar]
  refine⟨_,rfl,_,rfl,p,a,us,n,S,rfl,hpen,hn,nap,ha,h60,fun l ws H1 hl ol pm pen1 kp1=>?_⟩
  have nl:=hpen.ne hl
  refine⟨_,rfl,_,rfl,l,ws,rfl,.inl ⟨A3.of ol,fun t ht=>?_⟩⟩
  have st:=AH.new (o:=.tup ws) ht
  have nt:=pen1.ne ht
  have ot:upd H1 t (.tup ws) t=some (.tup ws):=AD
  have pent:=pen1.same st
  have ht0:=Eb kp1 nt ht
  have kpt:=kp1.trans (AH.keep (p:=p) st)
  have ol2:=st _ _ ol
  generalize upd H1 t (.tup ws)=H2 at *
  refine⟨BB,fun q hq=>⟨_,rfl,p,_,_,_,rfl,(by show(0:Int)<_;decide),Ag (by decide) (by decide),(pent.same (AH.new hq)),(by omega),fun r3 H3 a3 b3 pen3 kp3=>?_⟩⟩
  have sq:=AH.new (o:=.lst [.ref l,.ref t]) hq
  have kp03:KeepX p H H3:=kpt.trans ((AH.keep sq).trans kp3)
  have:r3=0∨r3=1:=by omega
  rcases this with rfl | rfl
  ·exact⟨q,_,_,_,rfl,rfl,A3.of (kp3 _ _ (pent.ne hq) AD),rfl,k l true ws H3 hl (kp3 _ _ nl (sq _ _ ol2)) pm (pen3.mono (by omega)) kp03⟩
  ·exact⟨q,_,_,_,rfl,rfl,A3.of (kp3 _ _ (pent.ne hq) AD),rfl,k t false ws H3 ht0 (kp3 _ _ nt (sq _ _ ot)) pm (pen3.mono (by omega)) kp03⟩
theorem BJ:AZ ["_law_book","_law_sheets_here","_law_cells_here","_law_cell","_law_sheet","_law_row","_law_column"] ["_law_book","_law_sheets_here","_law_cells_here"] (AM Bm):=BD
theorem Du (T:Txt w K mg t):Az P w K mg base Bd 30 t.dq t.dr ["_law_book","_law_sheets_here","_law_cells_here"] S4:=by
 have D:=T.fk
 refine D.fn.okX BJ ?_ (fun cdv A outer s H vs Q E hr h Z hZ=>?_)
 ·rintro _ _ _ _ ⟨bk,sl,d,zs,cs,cs',ns,os,r,kvs,rfl,_⟩
  rfl
 ·obtain⟨bk,sl,d,zs,cs,cs',ns,os,r,kvs,rfl,hbk,hsl,h4,hd,dc,nd,iff,cok,k⟩:=h
  have hu1:=Mw hr
  refine hZ ⟨_,((AF (Dx PassesOwn.never rfl (Ra (AI 2)) (Be (i:=3) BJ.nd rfl (Or.inl rfl))
   (AG (Af (A7 (Av (AO T.fc (CV T 17) (hr.mono (by omega)) (Aq (AO T.e4 (Em T) (hr.mono (by omega)) (AA (AI 0) (AA (AI 3) AB))) (AS (LW hu1 (AI 2) (AI 3) (fun _ _=>rfl)) AB))))) (AG (AJ BV)) AR)))
   (AF (Dx PassesOwn.never rfl (CB (A4 Ke (BH Bt (by rfl) T.ft Bj (AA (AI 1) AB)) (A8 (AE AU AB)))) (Be (i:=4) BJ.nd rfl (Or.inl rfl))
   (AG (Dx PassesOwn.never rfl (CB (A8 (A9 (Ai (AE AC (AE AC AB))) (A9 (Ai (AE AC (AE AC AB))) (A9 (Ai (AE AC (AE AC AB))) (A9 (Ai (AE AC (AE AC AB))) AB)))))) (Mi rfl (Ci (Be (i:=5) BJ.nd rfl (Or.inl rfl)) (Ci (Be (i:=6) BJ.nd rfl (Or.inl rfl)) Id)))
   (AG (Af (KQ (AV (OY hu1) (Ai (AA (AI 4) (AA (AI 5) (AA (AI 6) AB)))) (AI 2) rfl) (Ib (AV LQ (AO T.e4 (Em T) (hr.mono (by omega)) (AA (AI 0) (A9 (Ai (AA (AI 4) (AA (AI 5) (AA (AI 6) AB)))) AB))) Da (AN _)))).pt (AG (AJ BV)) AR)))))
   (AG (AJ BV))))),?_⟩
  try dsimp only[BC,Ar]
  refine⟨_,rfl,d,kvs,rfl,hd,fun o=>?_⟩
  have q0:Kp H (upd H d (.frz o (.dT kvs))):=fun b xs e=>by rw[AT (DB e hd (by intro z;cases z))];exact e
  have nk:(kvs.map (·.1)).Nodup:=by rw[dc.keys];exact List.Pairwise.map GS.ckK (fun a b hab e=>hab (HJ e)) nd
  have hd1:upd H d (.frz o (.dT kvs)) d=some (.frz o (.dT kvs)):=AD
  have nsd:sl≠d:=DB hsl hd (by intro z;cases z)
  have hsl1:upd H d (.frz o (.dT kvs)) sl=some (.lst (zs.map V.str)):=by rw[AT nsd];exact hsl
  have kx:KeepX d H (upd H d (.frz o (.dT kvs))):=KeepX.upd
  have hbk1:=hbk.kp q0
  have dc1:=dc.kp q0
  generalize upd H d (.frz o (.dT kvs))=H1 at *
  refine Qv (kvs:=kvs) (fun i σ H5=>∃(x3 x4 x5 x6:Option V),σ=[some (.ref bk),some (.ref sl),some (.ref d),x3,x4,x5,x6]∧AH H1 H5) ⟨none,none,none,none,rfl,AH.refl _⟩ (fun i σ H5 _ ⟨_,_,_,_,_,s5⟩=>s5 _ _ hd1) ?_ ?_
  ·rintro i ks v b σ H5 hi hb ⟨x3,x4,x5,x6,rfl,s5⟩
   obtain⟨p,hp,ek,hv⟩:=BW dc1 hi
   have ek:ks=GS.ckK p.1:=ek
   subst ek
   have pm:p∈cs:=List.mem_of_getElem? hp
   have pm':=(iff p).mp pm
   refine⟨_,rfl,_,rfl,bk,b,zs,cs',ns,os,r,p.1,rfl,hbk1.kp (Kp.same s5),hb,fun ct u hm hu0=>?_,fun no=>absurd (List.mem_map.mpr ⟨p,pm',rfl⟩) no⟩
   have ect:ct=p.2:=congrArg Prod.snd (GY nd ((iff _).mpr hm) pm rfl)
   subst ect
   refine⟨_,rfl,_,rfl,d,v,rfl,.inr ⟨kvs,GS.ckK p.1,b,.inr ⟨o,s5 _ _ hd1⟩,rfl,hb,(N1 nk hi).symm⟩,u,v,rfl,Ph (cok p pm) hu0 (hv.kp (Kp.same s5)),fun H6 s6=>⟨true,rfl,AX ⟨_,_,_,_,rfl,s5.trans s6⟩⟩⟩
  ·rintro σ H5 ⟨x3,x4,x5,x6,rfl,s5⟩
   have hl:(zs.map V.str).length=zs.length:=List.length_map ..
   refine⟨_,rfl,sl,_,rfl,.inl (A3.of (s5 _ _ hsl1)),fun l1 g1=>⟨EF,fun l2 g2=>⟨l1,l2,_,_,rfl,rfl,AH.new g2 _ _ AD,AD,(by rw[hl];show _+1≤_;exact Ls (by omega)),fun l3 g3=>⟨l3,rfl,⟨_,A3.of AD⟩,?_⟩⟩⟩⟩
   have s6:=s5.trans (((AH.new (o:=.lst (zs.map V.str)) g1).trans (AH.new (o:=.lst [vS "lost"]) g2)).trans (AH.new (o:=.lst (zs.map V.str++[vS "lost"])) g3))
   have o3:upd (upd (upd H5 l1 (.lst (zs.map V.str))) l2 (.lst [vS "lost"])) l3 (.lst (zs.map V.str++[vS "lost"])) l3=some (.lst (zs.map V.str++[vS "lost"])):=AD
   generalize upd (upd (upd H5 l1 (.lst (zs.map V.str))) l2 (.lst [vS "lost"])) l3 (.lst (zs.map V.str++[vS "lost"]))=H6 at *
   refine Dy (xs:=zs.map V.str++[vS "lost"]) (fun i σ H7=>∃(x4 x5 x6:Option V),σ=[some (.ref bk),some (.ref sl),some (.ref d),x3,x4,x5,x6]∧AH H6 H7) ⟨x4,x5,x6,rfl,AH.refl _⟩ (fun i σ H7 _ ⟨_,_,_,_,s7⟩=>A3.of (s7 _ _ o3)) ?_ ?_
   ·rintro i x σ H7 hx ⟨x4,x5,x6,rfl,s7⟩
    obtain⟨z,rfl⟩:∃ z,x=.str z:=by
     rcases List.mem_append.mp (List.mem_of_getElem? hx)with h | h
     ·obtain⟨z,_,e⟩:=List.mem_map.mp h;exact⟨z,e.symm⟩
     ·exact⟨_,List.mem_singleton.mp h⟩
    refine⟨BB,fun t1 h1=>⟨BB,fun t2 h2=>⟨BB,fun t3 h3=>⟨BB,fun t4 h4=>⟨(by show 4≤sizeLine;decide),fun l hl'=>⟨l,rfl,⟨_,A3.of AD⟩,?_⟩⟩⟩⟩⟩⟩
    have w1:=AH.new (o:=.tup [.int 1,.int 1]) h1
    have w2:=AH.new (o:=.tup [.int 5,.int 5]) h2
    have w3:=AH.new (o:=.tup [.int 16,.int 8]) h3
    have w4:=AH.new (o:=.tup [.int 2,.int 3]) h4
    have w5:=AH.new (o:=.lst [.ref t1,.ref t2,.ref t3,.ref t4]) hl'
    have ww:=(((w1.trans w2).trans w3).trans w4).trans w5
    have mem:∀ x∈[V.ref t1,.ref t2,.ref t3,.ref t4],∃(q:Addr) (i j:Int),x=.ref q∧upd (upd (upd (upd (upd H7 t1 (.tup [.int 1,.int 1])) t2 (.tup [.int 5,.int 5])) t3 (.tup [.int 16,.int 8])) t4 (.tup [.int 2,.int 3])) l (.lst [.ref t1,.ref t2,.ref t3,.ref t4]) q=some (.tup [.int i,.int j]):=by
     intro x hx
     simp only[List.mem_cons,List.not_mem_nil,or_false]at hx
     rcases hx with rfl | rfl | rfl | rfl
     ·exact⟨t1,1,1,rfl,w5 _ _ (w4 _ _ (w3 _ _ (w2 _ _ AD)))⟩
     ·exact⟨t2,5,5,rfl,w5 _ _ (w4 _ _ (w3 _ _ AD))⟩
     ·exact⟨t3,16,8,rfl,w5 _ _ (w4 _ _ AD)⟩
     ·exact⟨t4,2,3,rfl,w5 _ _ AD⟩
    have ol:upd (upd (upd (upd (upd H7 t1 (.tup [.int 1,.int 1])) t2 (.tup [.int 5,.int 5])) t3 (.tup [.int 16,.int 8])) t4 (.tup [.int 2,.int 3])) l (.lst [.ref t1,.ref t2,.ref t3,.ref t4]) l=some (.lst [.ref t1,.ref t2,.ref t3,.ref t4]):=AD
    have s8:=(s6.trans s7).trans ww
    have s78:AH H6 _:=s7.trans ww
    generalize upd (upd (upd (upd (upd H7 t1 (.tup [.int 1,.int 1])) t2 (.tup [.int 5,.int 5])) t3 (.tup [.int 16,.int 8])) t4 (.tup [.int 2,.int 3])) l (.lst [.ref t1,.ref t2,.ref t3,.ref t4])=H8 at *
    refine Dy (xs:=[.ref t1,.ref t2,.ref t3,.ref t4]) (fun i σ H9=>∃(x5 x6:Option V),σ=[some (.ref bk),some (.ref sl),some (.ref d),x3,some (.str z),x5,x6]∧AH H8 H9) ⟨x5,x6,rfl,AH.refl _⟩ (fun i σ H9 _ ⟨_,_,_,s9⟩=>A3.of (s9 _ _ ol)) ?_ ?_
    ·rintro i x σ H9 hx ⟨x5,x6,rfl,s9⟩
     obtain⟨q,ri,ci,rfl,hq⟩:=mem x (List.mem_of_getElem? hx)
     refine⟨q,_,rfl,Ao.of (s9 _ _ hq),rfl,_,_,rfl,_,_,rfl,rfl,?_⟩
     have sA:=s8.trans s9
     refine⟨_,rfl,_,rfl,_,rfl,A6,fun e1 g1=>?_⟩
     have v1:=AH.new (o:=.tup [.str z,.int ri,.int ci]) g1
     refine⟨_,rfl,d,_,rfl,.inr ⟨kvs,GS.ckK (z,ri,ci),e1,.inr ⟨o,v1 _ _ (sA _ _ hd1)⟩,rfl,AD,rfl⟩,_,rfl,?_⟩
     cases hval:DK kvs (GS.ckK (z,ri,ci))with
     | some v=>exact AX (AX ⟨_,_,rfl,s9.trans v1⟩)
     | none=>
      have no:(z,ri,ci)∉cs'.map (·.1):=fun hm=>by
       obtain⟨p,hp,ep⟩:=List.mem_map.mp hm
       refine N2 hval ?_
       rw[dc.keys]
       exact List.mem_map.mpr ⟨(z,ri,ci),List.mem_map.mpr ⟨p,(iff p).mpr hp,ep⟩,rfl⟩
      refine Ap ?_
      refine⟨_,rfl,_,rfl,_,rfl,_,rfl,A6,fun e2 g2=>?_⟩
      have v2:=AH.new (o:=.tup [.str z,.int ri,.int ci]) g2
      refine⟨bk,e2,zs,cs',ns,os,r,(z,ri,ci),rfl,hbk1.kp (Kp.same ((sA.trans v1).trans v2)),AD,fun ct u hm _=>absurd (List.mem_map.mpr ⟨_,hm,rfl⟩) no,fun _=>?_⟩
      exact⟨rfl,false,rfl,AX ⟨_,_,rfl,(s9.trans v1).trans v2⟩⟩
    ·rintro σ H9 ⟨x5,x6,rfl,s9⟩
     exact⟨_,_,_,rfl,s78.trans s9⟩
   ·rintro σ H7 ⟨x4,x5,x6,rfl,s7⟩
    exact k H7 (kx.trans (AH.keep (s6.trans s7)))
theorem CY:AZ ["_law_script","_law_pen_here","_law_sheets_here","_law_cells_here","_law_names_here","_law_owns_here","_law_rounds","_law_pairs","_law_due","_law_handed_here","_law_kept","_law_book","_law_some"] ["_law_script"] (AM N7):=BD
theorem Qx (T:Txt w K mg t)(hC:∀ q∈[(t.e2,t.dv)],PySem.W.CodeHd base q.1 q.2)(hB:BM mg base):Az P w K mg base Bd 60 t.ds t.dt ["_law_script"] (Nt K t.dv):=by
 have D:=T.fl
 refine D.fn.okX CY ?_ (fun cdv A outer s H vs Q E hr h Z hZ=>?_)
 ·rintro _ _ _ _ ⟨a,ns,rfl,_⟩
  rfl
 ·obtain⟨a,ns,rfl,hS,hlen,hP,k⟩:=h
  have hC1:PySem.W.CodeHd base t.e2 t.dv:=hC (t.e2,t.dv) (by simp)
  have hu1:=Mw hr
  have hu5:=K2 hr
  refine hZ ⟨_,((AF (Al (i:=1) CY.nd rfl (Or.inl rfl) (AO T.dx (KE T) (hr.mono (by omega)) (AA (AI 0) AB)))
   (AF (Al (i:=2) CY.nd rfl (Or.inr rfl) (AO T.fd (Hf T) (hr.mono (by omega)) (AA (AI 1) AB)))
   (AF (Al (i:=3) CY.nd rfl (Or.inr rfl) (AO T.fh (Hz T) (hr.mono (by omega)) (AA (AI 1) (AA (AI 2) (Aq (AO T.dw (AQ T) (hr.mono (by omega)) (AA (AI 1) (AE AC AB))) (AE AC AB))))))
   (AF (Al (i:=4) CY.nd rfl (Or.inl rfl) (AO T.fe (Hy T) (hr.mono (by omega)) (AA (AI 1) (AA (AI 2) AB))))
   (AF (Al (i:=5) CY.nd rfl (Or.inl rfl) (AO T.ff (JN T) (hr.mono (by omega)) (AA (AI 1) (AA (AI 2) AB))))
   (AF (Al (i:=6) CY.nd rfl (Or.inl rfl) (AO T.dw (AQ T) (hr.mono (by omega)) (AA (AI 1) (AE AC AB))))
   (AF (Af (AV An (AO T.dw (AQ T) (hr.mono (by omega)) (AA (AI 1) (AE AC AB))) AC (AN _)) (AF (Al (i:=3) CY.nd rfl (Or.inr rfl) (BH (DP.call_dictP rfl (Qk hu5)) (by rfl) T.f2 O9 (Bp (Bh (fv:=["_law_sheets_here"]) (js:=[2]) (cl:=[("_law_sheets_here",s.heap.objs.size+1)]) rfl (by with_unfolding_all rfl) ⟨rfl,by nofun,by nofun,rfl,by nofun,by nofun,(List.forall_mem_cons.mpr ⟨⟨rfl,rfl,rfl⟩,(List.forall_mem_nil _)⟩),(List.forall_mem_cons.mpr ⟨rfl,(List.forall_mem_nil _)⟩),(.cons rfl .nil)⟩ (EW rfl T.fn (AE AC AB)) (fun _ _ _ _ _=>Bk) (fun _ _ _ _ _=>(by exact(Ai (A9 (Ai (AS (AW M6 (AI 1) AC (fun _ _=>rfl)) (BX (A4 B3 AC (A4 FC (AI 0) AC)) (BX (A4 B3 AC (A4 CS (AI 0) AC)) AB)))) (A9 (Ai (AE AU (AA (AI 0) (AE AC AB)))) AB)))))) AB)))
   (AF (FI (i:=4) CY.nd rfl rfl (fv:=[]) (js:=[]) (cl:=[]) rfl (by with_unfolding_all rfl) ⟨rfl,by nofun,by nofun,rfl,by nofun,by nofun,(List.forall_mem_nil _),(List.forall_mem_nil _),.nil⟩ (EW rfl T.fn (AE AC AB)) (fun _ _ _ _ _=>Bk) (fun _ _ _ _ _=>(by exact(Ai (BX (A4 Gi AU (AW Ig AU (AI 0) (fun _ _=>rfl))) (A9 (Ai (AE AU AB)) AB))))))
   (AG (FI (i:=5) CY.nd rfl rfl (fv:=[]) (js:=[]) (cl:=[]) rfl (by with_unfolding_all rfl) ⟨rfl,by nofun,by nofun,rfl,by nofun,by nofun,(List.forall_mem_nil _),(List.forall_mem_nil _),.nil⟩ (EW rfl T.fn (AE AC AB)) (fun _ _ _ _ _=>Bk) (fun _ _ _ _ _=>(by exact(Ai (BX (A4 Gi AU (AW Ig AU (AI 0) (fun _ _=>rfl))) (BX (A4 CS (AI 0) AC) (A9 (Ai (AE AU AB)) AB)))))))))) AR)
   (AF (FI (i:=7) CY.nd rfl rfl (fv:=["_law_cells_here"]) (js:=[3]) (cl:=[("_law_cells_here",s.heap.objs.size+2)]) rfl (by with_unfolding_all rfl) ⟨rfl,by nofun,by nofun,rfl,by nofun,by nofun,(List.forall_mem_cons.mpr ⟨⟨rfl,rfl,rfl⟩,(List.forall_mem_nil _)⟩),(List.forall_mem_cons.mpr ⟨rfl,(List.forall_mem_nil _)⟩),(.cons rfl .nil)⟩ (CB (AK (GS.call_sortD rfl) (by rfl) T.fx EZ (AA (AI 3) AB))) (fun _ _ _ _ _=>Bk) (fun _ _ _ _ _=>(by exact(Ai (AA (AI 0) (AS (LW hu1 (AI 1) (AI 0) (fun _ _=>rfl)) AB))))))
   (AF (Al (i:=8) CY.nd rfl (Or.inl rfl) (Ai (Aq (BH BN (by rfl) T.fs Ay (AA (AI 2) AB)) (Aq (BH BN (by rfl) T.fs Ay (AA (AI 7) AB)) (Aq (BH BN (by rfl) T.fs Ay (Aq (AK GS.call_sortE (by rfl) T.fx EZ (AA (AI 4) AB)) AB)) (Aq (BH BN (by rfl) T.fs Ay (Aq (AK GS.call_sortE (by rfl) T.fx EZ (AA (AI 5) AB)) AB)) (AA (AI 6) AB)))))))
   (AF (Al (i:=9) CY.nd rfl (Or.inl rfl) (A8 (AS (AW A5 (A8 (Aq (BH Bt (by rfl) T.ft Bj (AA (AI 2) AB)) (Aq (BH BN (by rfl) T.fs Ay (AA (AI 2) AB)) AB))) (AO T.dw (AQ T) (hr.mono (by omega)) (AA (AI 1) (AE AC AB))) (fun _ _=>rfl)) (Aq (AO T.fj (Cy T) (hr.mono (by omega)) (AA (AI 1) (AA (AI 7) AB))) AB))))
   (AF (Al (i:=9) CY.nd rfl (Or.inl rfl) (A4 Ke (AI 9) (A8 (Aq (AO T.fj (Cy T) (hr.mono (by omega)) (AA (AI 1) (AA (AI 4) AB))) (Aq (AO T.fj (Cy T) (hr.mono (by omega)) (AA (AI 1) (AA (AI 5) AB))) AB)))))
   (AF (FI (i:=10) CY.nd rfl rfl (fv:=[]) (js:=[]) (cl:=[]) rfl (by with_unfolding_all rfl) ⟨rfl,by nofun,by nofun,rfl,by nofun,by nofun,(List.forall_mem_nil _),(List.forall_mem_nil _),.nil⟩ (CB (AI 9)) (fun _ _ _ _ _=>Bk) (fun _ _ _ _ _=>(by exact(BH Ek (by rfl) T.ft Bj (AA (AI 0) AB)))))
   (AF (Al (i:=11) CY.nd rfl (Or.inl rfl) (AO T.e3 (Hc T hC1 hB) (hr.mono (by omega)) (AS (AW A5 (AI 9) AC (fun _ _=>rfl)) (AS (AW A5 (AI 9) AC (fun _ _=>rfl)) (AS (AW A5 (AI 9) AC (fun _ _=>rfl)) (AS (AW A5 (AI 9) AC (fun _ _=>rfl)) (AA (AI 6) AB)))))))
   (AF (Af (Bg (A7 (Av (AO T.fc (CV T 20) (hr.mono (by omega)) (AA (AI 11) (AA (AI 8) AB))))) (Ba (AV (Om (K4 hu5)) (Bh (fv:=[]) (js:=[]) (cl:=[]) rfl (by with_unfolding_all rfl) ⟨rfl,by nofun,by nofun,rfl,by nofun,by nofun,(List.forall_mem_nil _),(List.forall_mem_nil _),.nil⟩ (CB (AI 9)) (fun _ _ _ _ _=>Bk) (fun _ _ _ _ _=>(by exact(BH Ek (by rfl) T.ft Bj (AA (AI 0) AB))))) (AI 10) (AN _)))).pt (AG (AJ BV)) AR)
   (AF (Dx PassesOwn.never rfl (CB (AI 9)) (Be (i:=12) CY.nd rfl (Or.inl rfl))
   (AG (Af (Av (AK Ab (by rfl) T.fo AL (AA (AI 12) (AA (A1 T.ft Bj) AB)))) (AG (EV (Ms PySem.F.plainAttrs_list PySem.F.slot_list_clear PySem.F.type_list_clear Mv (AI 12)))) AR)))
   (AF (Af (Bg (A7 (Av (AO T.fc (CV T 20) (hr.mono (by omega)) (AA (AI 11) (AA (AI 8) AB))))) (Ba (A7 (Av (AO T.fk (Du T) (hr.mono (by omega)) (AA (AI 11) (AA (AI 2) (AA (AI 3) AB)))))))).pt (AG (AJ BV)) AR)
   (AG (AJ (AO T.fc (CV T 20) (hr.mono (by omega)) (Aq (AO T.e3 (Hc T hC1 hB) (hr.mono (by omega)) (AS (AW AY (AI 11) AC (fun _ _=>rfl)) (AS (AW AY (AI 11) AC (fun _ _=>rfl)) (AS (AW AY (AI 11) AC (fun _ _=>rfl)) (AS (AW AY (AI 11) AC (fun _ _=>rfl)) (AS (AW AY (AI 11) AC (fun _ _=>rfl)) AB)))))) (AA (AI 8) AB)))))))))))))))))))))),?_⟩
  try dsimp only[BC,Ar]
  refine⟨_,rfl,a,ns,rfl,hS,hlen,fun p H0 hp pen0 s0=>?_⟩
  have nP:t.dv≠p:=Aa hP hp
  refine⟨_,rfl,p,_,_,rfl,pen0,(by omega),fun sl zs H1 hsl ok pen1 kp1=>?_⟩
  have hP1:=kp1 _ _ nP (s0 _ _ hP)
  have nsp:=FQ pen1 hsl ok
  refine⟨_,rfl,_,rfl,_,rfl,p,_,_,_,rfl,(by show(0:Int)<_;decide),Ag (by decide) (by decide),pen1,(by omega),fun r2 H2 a2 b2 pen2 kp2=>?_⟩
  obtain⟨m,rfl⟩:∃ m:Nat,r2=(m:Int):=⟨r2.toNat,by omega⟩
  refine⟨p,sl,zs,_,m,_,rfl,(by omega),pen2,(by omega),kp2 _ _ nsp hsl,ok,fun d kvs cs H3 hd0 od dc dk l12 pen3 kp3=>?_⟩
  have hsl3:=kp3 _ _ nsp (kp2 _ _ nsp hsl)
  refine⟨_,rfl,_,rfl,p,sl,zs,_,_,rfl,pen3,(by omega),hsl3,ok,fun ln us nes H4 hln0 oln en okn sbn pen4 kp4=>?_⟩
  have nln:=pen3.ne hln0
  have hsl4:=kp4 _ _ nsp hsl3
  refine⟨_,rfl,_,rfl,p,sl,zs,_,_,rfl,pen4,(by omega),hsl4,ok,fun lo ws oes H5 hlo0 olo eo oko sbo pen5 kp5=>?_⟩
  have nlo:=pen4.ne hlo0
  have ndp:=pen2.ne hd0
  have j5:LJ K (a,ns) H5 p sl d ln lo t.dv zs kvs cs us ws nes oes _:=⟨pen5,kp5 _ _ nP (kp4 _ _ nP (kp3 _ _ nP (kp2 _ _ nP hP1))),kp5 _ _ nsp hsl4,kp5 _ _ ndp (kp4 _ _ ndp od),dc.kp ((pen3.kp kp4).trans (pen4.kp kp5)),dk,by omega,kp5 _ _ nln oln,Paired.imp' (fun _ _ x=>x.kp (pen4.kp kp5)) en,KC okn sbn,olo,eo,KC oko sbo,nsp,nln,nlo⟩
  refine⟨_,rfl,p,_,_,_,rfl,(by show(0:Int)<_;decide),Ag (by decide) (by decide),pen5,(by omega),fun r6 H6 a6 b6 pen6 kp6=>?_⟩
  have j6:=j5.kx kp6 pen6
  clear j5 dc dk od oln en okn sbn olo eo oko sbo hsl3 hsl4 hsl kp1 kp2 kp3 kp4 kp5 kp6 pen1 pen2 pen3 pen4 pen5 hP1
  obtain⟨hz1,hz4,hznd,hznm⟩:=id ok
  dsimp only[DU]
  refine GW (fun σ' H'=>∃(d ln lo:Addr) (kvs:List (List BF×V)) (cs:List Pr) (us ws:List V) (nes oes:List DZ),σ'=[some (.ref a),some (.ref p),some (.ref sl),some (.ref d),some (.ref ln),some (.ref lo),some (.int r6),none,none,none,none,none,none]∧LJ K (a,ns) H' p sl d ln lo t.dv zs kvs cs us ws nes oes 10000) (fun N hN=>?_) (fun σ' H7 hJ=>?_)
  ·refine⟨_,rfl,p,_,_,_,rfl,(by show(0:Int)<_;decide),Ag (by decide) (by decide),pen6,(by omega),fun r7 H7 a7 b7 pen7 kp7=>⟨rfl,_,rfl,CA (fun _=>?_) (fun _=>?_)⟩⟩
   ·skip
    obtain⟨z,mz,ez⟩:=Pg (zs:=zs) (r:=0) (by decide) (by omega)
    have j7:=j6.kx kp7 pen7
    refine⟨60,rfl,(by decide),(by decide),fun D hD=>?_⟩
    refine⟨fun i m H4=>m=60-i∧i≤60∧∃(us:List V) (kvs:List (List BF×V)),H4 D=some (.lst us)∧us.length=i∧Paired (DP.PvAt H4) us kvs∧Ef H4 kvs ((List.range i).map (UJ z))∧AH H7 H4,⟨60,rfl,Nat.zero_le _,[],[],AD,rfl,.nil,.nil,AH.new hD⟩,?_⟩
    rintro i m H4 ⟨rfl,hi,us0,kvs0,oD,lu,pv,dc0,s4⟩
    by_cases hlt:i<60
    ·refine .inr ⟨hlt,fun x H' y=>?_⟩
     obtain⟨e,ex⟩:=y
     subst e ex
     refine⟨_,rfl,sl,_,_,_,rfl,rfl,A3.of (s4 _ _ j7.hsl),ez,_,rfl,_,_,rfl,rfl,⟨by decide,by decide⟩,_,_,rfl,rfl,_,rfl,_,_,rfl,rfl,(by show(0:Int)<8;decide),_,_,rfl,rfl,A6,fun t1 h1=>⟨_,rfl,A6,fun t2 h2=>⟨BB,fun t3 h3=>?_⟩⟩⟩
     have w1:=AH.new (o:=.tup [.str z,.int (1+(0+(i:Int)) / 8),.int (1+(0+(i:Int))%8)]) h1
     have w2:=AH.new (o:=.tup [vS "number",.int (0+(i:Int)),.int 1]) h2
     have w3:=AH.new (o:=.tup [.ref t1,.ref t2]) h3
     have ww:=(w1.trans w2).trans w3
     have o1:=w3 _ _ (w2 _ _ (AD (H:=H') (a:=t1) (o:=.tup [.str z,.int (1+(0+(i:Int)) / 8),.int (1+(0+(i:Int))%8)])))
     have o2:=w3 _ _ (AD (H:=upd H' t1 (.tup [.str z,.int (1+(0+(i:Int)) / 8),.int (1+(0+(i:Int))%8)])) (a:=t2) (o:=.tup [vS "number",.int (0+(i:Int)),.int 1]))
     have o3:upd (upd (upd H' t1 (.tup [.str z,.int (1+(0+(i:Int)) / 8),.int (1+(0+(i:Int))%8)])) t2 (.tup [vS "number",.int (0+(i:Int)),.int 1])) t3 (.tup [.ref t1,.ref t2]) t3=some (.tup [.ref t1,.ref t2]):=AD
     have oD3:=ww _ _ oD
     generalize upd (upd (upd H' t1 (.tup [.str z,.int (1+(0+(i:Int)) / 8),.int (1+(0+(i:Int))%8)])) t2 (.tup [vS "number",.int (0+(i:Int)),.int 1])) t3 (.tup [.ref t1,.ref t2])=H5 at *
     rw[Int.zero_add]at o1 o2
     have q6:Kp H5 (upd H5 D (.lst (us0++[.ref t3]))):=Kp.lst oD3 KeepX.upd
     refine⟨us0,oD3,CP (by omega),60-(i+1),(by omega),rfl,hlt,us0++[.ref t3],kvs0++[(GS.ckK (S5 z i),.ref t2)],AD,by rw[List.length_append,lu];rfl,Hm (Paired.imp' (fun _ _ (x:DP.PvAt H' _ _)=>S6 x ((Kp.same ww).trans q6)) pv) (.cons ⟨t3,t1,rfl,q6 _ _ o3,q6 _ _ o1⟩ .nil),?_,fun b o e=>?_⟩
     ·rw[List.range_succ,List.map_append]
      exact Hm (dc0.kp ((Kp.same ww).trans q6)) (.cons ⟨rfl,t2,rfl,q6 _ _ o2⟩ .nil)
     ·rw[AT (Aa e hD)];exact ww _ _ (s4 _ _ e)
    obtain rfl:i=60:=by omega
    refine .inl ⟨Nat.le_refl _,?_⟩
    have lk:us0.length=kvs0.length:=Paired.length pv
    have nk:(kvs0.map (·.1)).Nodup:=by rw[dc0.keys];exact List.Pairwise.map GS.ckK (fun a b hab e=>hab (HJ e)) S7
    refine⟨D,us0,kvs0,rfl,oD,pv,nk,(by omega),fun d2 hd2=>?_⟩
    have s8:=s4.trans (AH.new (o:=.dT kvs0) hd2)
    have od2:upd H4 d2 (.dT kvs0) d2=some (.dT kvs0):=AD
    have dc8:=dc0.kp (Kp.same (AH.new (o:=.dT kvs0) hd2))
    generalize upd H4 d2 (.dT kvs0)=H8 at *
    clear oD pv dc0 s4 hd2 lu
    refine⟨8,rfl,(by decide),(by decide),fun D2 hD2=>?_⟩
    refine⟨fun i m H4=>m=8-i∧i≤8∧∃ us:List V,H4 D2=some (.lst us)∧us.length=i∧Paired (BS false H4) us ((List.range i).map (N3 false))∧AH H8 H4,⟨8,rfl,Nat.zero_le _,[],AD,rfl,.nil,AH.new hD2⟩,?_⟩
    rintro i m H9 ⟨rfl,hi,us1,oD,lu,pv,s4⟩
    by_cases hlt:i<8
    ·refine .inr ⟨hlt,fun x H' y=>?_⟩
     obtain⟨e,ex⟩:=y
     subst e ex
     refine⟨_,rfl,_,_,_,rfl,rfl,(by nofun),Uu i hlt,_,_,rfl,rfl,(by show 1+1≤sizeLine;decide),EF,fun t1 h1=>⟨BB,fun t2 h2=>?_⟩⟩
     have w1:=AH.new (o:=.tup [vS "gone"]) h1
     have w2:=AH.new (o:=.tup [.str (Str.ofString "n"++⟨#[97+i]⟩),.ref t1]) h2
     have ww:=w1.trans w2
     have o1:=w2 _ _ (AD (H:=H') (a:=t1) (o:=.tup [vS "gone"]))
     have o2:upd (upd H' t1 (.tup [vS "gone"])) t2 (.tup [.str (Str.ofString "n"++⟨#[97+i]⟩),.ref t1]) t2=some (.tup [.str (Str.ofString "n"++⟨#[97+i]⟩),.ref t1]):=AD
     have oD3:=ww _ _ oD
     generalize upd (upd H' t1 (.tup [vS "gone"])) t2 (.tup [.str (Str.ofString "n"++⟨#[97+i]⟩),.ref t1])=H5 at *
     have q6:Kp H5 (upd H5 D2 (.lst (us1++[.ref t2]))):=Kp.lst oD3 KeepX.upd
     refine⟨us1,oD3,CP (by omega),8-(i+1),(by omega),rfl,hlt,us1++[.ref t2],AD,by rw[List.length_append,lu];rfl,?_,fun b o e=>?_⟩
     ·rw[List.range_succ,List.map_append]
      exact Hm (Paired.imp' (fun _ _ x=>x.kp ((Kp.same ww).trans q6)) pv) (.cons ⟨t2,.ref t1,rfl,q6 _ _ o2,.lf (q6 _ _ o1)⟩ .nil)
     ·rw[AT (Aa e hD2)];exact ww _ _ (s4 _ _ e)
    obtain rfl:i=8:=by omega
    refine .inl ⟨Nat.le_refl _,?_⟩
    have s9:=s8.trans s4
    have od9:=s4 _ _ od2
    have dc9:=dc8.kp (Kp.same s4)
    have ln9:=oD
    have en9:=pv
    have n9:D2≠p:=(j7.pen.same s8).ne hD2
    clear oD pv s4 lu od2 dc8
    refine⟨6,rfl,(by decide),(by decide),fun D3 hD3=>?_⟩
    refine⟨fun i m H4=>m=6-i∧i≤6∧∃ us:List V,H4 D3=some (.lst us)∧us.length=i∧Paired (BS true H4) us ((List.range i).map (N3 true))∧AH H9 H4,⟨6,rfl,Nat.zero_le _,[],AD,rfl,.nil,AH.new hD3⟩,?_⟩
    rintro i m HA ⟨rfl,hi,us2,oD,lu,pv,s4⟩
    by_cases hlt:i<6
    ·refine .inr ⟨hlt,fun x H' y=>?_⟩
     obtain⟨e,ex⟩:=y
     subst e ex
     refine⟨_,rfl,_,_,_,rfl,rfl,(by nofun),Uv i hlt,_,_,rfl,rfl,(by show 1+1≤sizeLine;decide),_,rfl,_,_,rfl,rfl,(by show(0:Int)<4;decide),EF,fun t1 h1=>⟨A6,fun t2 h2=>?_⟩⟩
     have ei:(0+(i:Int))%4=((i%4:Nat):Int):=by omega
     have w1:=AH.new (o:=.tup [vS "gone"]) h1
     have w2:=AH.new (o:=.tup [.str (Str.ofString "f"++⟨#[97+i]⟩),.int ((0+(i:Int))%4),.ref t1]) h2
     have ww:=w1.trans w2
     have o1:=w2 _ _ (AD (H:=H') (a:=t1) (o:=.tup [vS "gone"]))
     have o2:upd (upd H' t1 (.tup [vS "gone"])) t2 (.tup [.str (Str.ofString "f"++⟨#[97+i]⟩),.int ((0+(i:Int))%4),.ref t1]) t2=some (.tup [.str (Str.ofString "f"++⟨#[97+i]⟩),.int ((0+(i:Int))%4),.ref t1]):=AD
     have oD3:=ww _ _ oD
     generalize upd (upd H' t1 (.tup [vS "gone"])) t2 (.tup [.str (Str.ofString "f"++⟨#[97+i]⟩),.int ((0+(i:Int))%4),.ref t1])=H5 at *
     rw[ei]at o2
     have q6:Kp H5 (upd H5 D3 (.lst (us2++[.ref t2]))):=Kp.lst oD3 KeepX.upd
     refine⟨us2,oD3,CP (by omega),6-(i+1),(by omega),rfl,hlt,us2++[.ref t2],AD,by rw[List.length_append,lu];rfl,?_,fun b o e=>?_⟩
     ·rw[List.range_succ,List.map_append]
      exact Hm (Paired.imp' (fun _ _ x=>x.kp ((Kp.same ww).trans q6)) pv) (.cons ⟨t2,.ref t1,rfl,q6 _ _ o2,.lf (q6 _ _ o1)⟩ .nil)
     ·rw[AT (Aa e hD3)];exact ww _ _ (s4 _ _ e)
    obtain rfl:i=6:=by omega
    refine .inl ⟨Nat.le_refl _,?_⟩
    have nA:D3≠p:=(j7.pen.same s9).ne hD3
    exact hN _ _ ⟨d2,D2,D3,kvs0,_,us1,us2,_,_,rfl,⟨((j7.pen.same s9).same s4).mono (by omega),s4 _ _ (s9 _ _ j7.hP),s4 _ _ (s9 _ _ j7.hsl),s4 _ _ od9,dc9.kp (Kp.same s4),⟨S7,UK mz (hznm z mz)⟩,by simp,s4 _ _ ln9,Paired.imp' (fun _ _ x=>x.kp (Kp.same s4)) en9,KD false,oD,pv,KD true,j7.n1,n9,nA⟩⟩
   ·exact hN _ _ ⟨d,ln,lo,kvs,cs,us,ws,nes,oes,rfl,j6.kx kp7 (pen7.mono (by omega))⟩
  obtain⟨d,ln,lo,kvs,cs,us,ws,nes,oes,rfl,j⟩:=hJ
  clear j6
  have ldc:kvs.length=cs.length:=Paired.length j.dc
  have l60:=j.l60
  refine⟨_,rfl,d,kvs,cs.map (·.1),rfl,.inl j.hd,j.dc.keys,(by omega),fun l1 xs1 ks hl1 pk rk pce=>⟨l1,rfl,⟨_,A3.of AD⟩,fun D hD=>?_⟩⟩
  have s1:=AH.new (o:=.lst xs1) hl1
  have ol1:upd H7 l1 (.lst xs1) l1=some (.lst xs1):=AD
  have j8:=j.same s1
  have pce8:Paired (GS.CeV (upd H7 l1 (.lst xs1))) xs1 ks:=Paired.imp' (fun _ _ ⟨b,x,y⟩=>⟨b,x,s1 _ _ y⟩) pce
  generalize upd H7 l1 (.lst xs1)=H8 at *
  have lx:xs1.length=ks.length:=Paired.length pce8
  have lk:=pk.length_eq
  rw[List.length_map]at lk
  have kmem:∀{c},c∈ks→c∈cs.map (·.1):=fun h=>pk.subset h
  refine⟨fun i m H4=>m=xs1.length-i∧i≤xs1.length∧∃(ui:List V) (ci:List Pr),H4 D=some (.lst ui)∧ui.length=i∧Paired (Cg H4) ui ci∧ci.map (·.1)=ks.take i∧(∀ p∈ci,p∈cs)∧AH H8 H4,⟨_,rfl,Nat.zero_le _,[],[],AD,rfl,.nil,rfl,(fun _ h=>nomatch h),AH.new hD⟩,?_⟩
  rintro i m H4 ⟨rfl,hi,ui,csd,oD,lu,pp,km,sub,s4⟩
  by_cases hlt:i<xs1.length
  ·refine .inr ⟨⟨_,_,A3.of (s4 _ _ ol1),List.getElem?_eq_getElem hlt⟩,fun x H' y=>?_⟩
   obtain⟨e,y⟩:=y
   subst e
   have hx:=y _ (A3.of (s4 _ _ ol1))
   obtain⟨c,hc,b,rfl,hb⟩:=BW pce8 hx
   obtain⟨v,ct,ev,mc,hv⟩:=N5 j8.dc (kmem (List.mem_of_getElem? hc))
   refine⟨_,rfl,_,rfl,_,rfl,d,v,rfl,.inr ⟨kvs,GS.ckK c,b,.inl (s4 _ _ j8.hd),rfl,s4 _ _ hb,ev.symm⟩,BB,fun q hq=>?_⟩
   have w:=AH.new (o:=.tup [.ref b,v]) hq
   have oq:upd H' q (.tup [.ref b,v]) q=some (.tup [.ref b,v]):=AD
   have oD3:=w _ _ oD
   have ob3:=w _ _ (s4 _ _ hb)
   have hv3:=(hv.kp (Kp.same s4)).kp (Kp.same w)
   have pp3:=Paired.imp' (fun _ _ (x:Cg H' _ _)=>x.kp (Kp.same w)) pp
   have s43:=s4.trans w
   generalize upd H' q (.tup [.ref b,v])=H5 at *
   have q6:Kp H5 (upd H5 D (.lst (ui++[.ref q]))):=Kp.lst oD3 KeepX.upd
   refine⟨ui,oD3,CP (by omega),xs1.length-(i+1),(by omega),rfl,hlt,ui++[.ref q],csd++[(c,ct)],AD,by rw[List.length_append,lu];rfl,Hm (Paired.imp' (fun _ _ x=>x.kp q6) pp3) (.cons ⟨q,b,v,rfl,q6 _ _ oq,q6 _ _ ob3,hv3.kp q6⟩ .nil),?_,fun p hp=>?_,fun b o e=>?_⟩
   ·rw[List.map_append,km,List.take_add_one,hc];rfl
   ·rcases List.mem_append.mp hp with z | z
    ·exact sub p z
    ·rw[List.mem_singleton.mp z];exact mc
   ·rw[AT (Aa e hD)];exact s43 _ _ e
  obtain rfl:i=xs1.length:=by omega
  rw[lx,List.take_length]at km
  refine .inl ⟨⟨_,A3.of (s4 _ _ ol1),Nat.le_refl _⟩,?_⟩
  have j9:=j8.same s4
  have nDp:D≠p:=j8.pen.ne hD
  have lcs:csd.length=ks.length:=by rw[← km,List.length_map]
  have ndd:(csd.map (·.1)).Nodup:=by rw[km];exact pk.symm.nodup j.dk.nd
  have cok:HH zs csd:=⟨by omega,ndd,fun p hp=>j.dk.ok p (sub p hp)⟩
  have srd:Sf csd csd:=⟨fun _ h=>h,List.Perm.refl _,by rw[km];exact rk⟩
  have iff:∀ p,p∈cs↔p∈csd:=fun p=>⟨fun hp=>by
   have:p.1∈csd.map (·.1):=by rw[km];exact pk.symm.subset (List.mem_map.mpr ⟨p,hp,rfl⟩)
   obtain⟨q,hq,eq⟩:=List.mem_map.mp this
   rw[← GY j.dk.nd (sub q hq) hp eq]
   exact hq,sub p⟩
  clear j8 j s4 pce8 pce hl1 ol1
  refine⟨_,rfl,sl,_,rfl,.inl ⟨A3.of j9.hsl,fun t1 h1=>?_⟩⟩
  have v1:=AH.new (o:=.tup (zs.map V.str)) h1
  have o1:upd H4 t1 (.tup (zs.map V.str)) t1=some (.tup (zs.map V.str)):=AD
  have jA:=j9.same v1
  have oDA:=v1 _ _ oD
  have ppA:=Paired.imp' (fun _ _ (x:Cg H4 _ _)=>x.kp (Kp.same v1)) pp
  generalize upd H4 t1 (.tup (zs.map V.str))=HA at *
  refine⟨_,rfl,D,_,rfl,.inl ⟨A3.of oDA,fun t2 h2=>?_⟩⟩
  have v2:=AH.new (o:=.tup ui) h2
  have o2:upd HA t2 (.tup ui) t2=some (.tup ui):=AD
  have o1:=v2 _ _ o1
  have jB:=jA.same v2
  have oDB:=v2 _ _ oDA
  have ppB:=Paired.imp' (fun _ _ (x:Cg HA _ _)=>x.kp (Kp.same v2)) ppA
  generalize upd HA t2 (.tup ui)=HB at *
  clear j9 jA oD oDA pp ppA h1 h2 v1 v2
  refine⟨_,rfl,?_⟩
  dsimp only[Pu]
  refine N6 jB.hln jB.en jB.okn fun l3 x3 nsd hl3 pn3 sn3=>⟨l3,_,rfl,.inl ⟨A3.of AD,fun t3 h3=>?_⟩⟩
  have v3:=(AH.new (o:=.lst x3) hl3).trans (AH.new (o:=.tup x3) h3)
  have o3:upd (upd HB l3 (.lst x3)) t3 (.tup x3) t3=some (.tup x3):=AD
  have o1:=v3 _ _ o1
  have o2:=v3 _ _ o2
  have jC:=jB.same v3
  have oDC:=v3 _ _ oDB
  have ppC:=Paired.imp' (fun _ _ (x:Cg HB _ _)=>x.kp (Kp.same v3)) ppB
  have pnC:=Paired.imp' (fun _ _ (x:BS false HB _ _)=>x.kp (Kp.same v3)) pn3
  generalize upd (upd HB l3 (.lst x3)) t3 (.tup x3)=HC at *
  clear jB oDB ppB pn3 hl3 h3 v3
  refine⟨_,rfl,?_⟩
  dsimp only[Pu]
  refine N6 jC.hlo jC.eo jC.oko fun l4 x4 osd hl4 po4 so4=>⟨l4,_,rfl,.inl ⟨A3.of AD,fun t4 h4=>?_⟩⟩
  have v4:=(AH.new (o:=.lst x4) hl4).trans (AH.new (o:=.tup x4) h4)
  have o4:upd (upd HC l4 (.lst x4)) t4 (.tup x4) t4=some (.tup x4):=AD
  have o1:=v4 _ _ o1
  have o2:=v4 _ _ o2
  have o3:=v4 _ _ o3
  have jD:=jC.same v4
  have oDD:=v4 _ _ oDC
  have ppD:=Paired.imp' (fun _ _ (x:Cg HC _ _)=>x.kp (Kp.same v4)) ppC
  have pnD:=Paired.imp' (fun _ _ (x:BS false HC _ _)=>x.kp (Kp.same v4)) pnC
  have poD:=Paired.imp' (fun _ _ (x:BS true HC _ _)=>x.kp (Kp.same v4)) po4
  generalize upd (upd HC l4 (.lst x4)) t4 (.tup x4)=HD at *
  clear jC oDC ppC pnC po4 hl4 h4 v4
  refine⟨_,rfl,(by show 5≤sizeLine;decide),fun due h5=>?_⟩
  have v5:=AH.new (o:=.tup [.ref t1,.ref t2,.ref t3,.ref t4,.int r6]) h5
  have q5:=Kp.same v5
  have bd:FP (upd HD due (.tup [.ref t1,.ref t2,.ref t3,.ref t4,.int r6])) due zs csd nsd osd r6:=⟨t1,t2,t3,t4,ui,x3,x4,AD,v5 _ _ o1,v5 _ _ o2,v5 _ _ o3,v5 _ _ o4,Paired.imp' (fun _ _ x=>x.kp q5) ppD,Paired.imp' (fun _ _ x=>x.kp q5) pnD,Paired.imp' (fun _ _ x=>x.kp q5) poD⟩
  have jE:=jD.same v5
  have oDE:=v5 _ _ oDD
  have ppE:=Paired.imp' (fun _ _ (x:Cg HD _ _)=>x.kp q5) ppD
  generalize upd HD due (.tup [.ref t1,.ref t2,.ref t3,.ref t4,.int r6])=HE at *
  clear jD oDD ppD pnD poD h5 v5 q5 o1 o2 o3 o4
  dsimp only[DU]
  refine⟨_,rfl,sl,_,rfl,.inl (A3.of jE.hsl),fun l4 g4=>⟨_,rfl,sl,_,rfl,.inl ⟨A3.of (AH.new g4 _ _ jE.hsl),fun t5 g5=>⟨BB,fun l6 g6=>?_⟩⟩⟩⟩
  have u4:=AH.new (o:=.lst (zs.map V.str)) g4
  have u5:=AH.new (o:=.tup (zs.map V.str)) g5
  have u6:=AH.new (o:=.lst [.ref l4,.ref t5]) g6
  have v6:=(u4.trans u5).trans u6
  have p4:=u6 _ _ (u5 _ _ (AD (H:=HE) (a:=l4) (o:=.lst (zs.map V.str))))
  have p5:=u6 _ _ (AD (H:=upd HE l4 (.lst (zs.map V.str))) (a:=t5) (o:=.tup (zs.map V.str)))
  have p6:upd (upd (upd HE l4 (.lst (zs.map V.str))) t5 (.tup (zs.map V.str))) l6 (.lst [.ref l4,.ref t5]) l6=some (.lst [.ref l4,.ref t5]):=AD
  have ht5:HE t5=none:=AH.back0 u4 g5
  have n4:=jE.pen.ne g4
  have n5:=jE.pen.ne ht5
  have n6:l6≠p:=((jE.pen.same u4).same u5).ne g6
  generalize upd (upd (upd HE l4 (.lst (zs.map V.str))) t5 (.tup (zs.map V.str))) l6 (.lst [.ref l4,.ref t5])=HF at *
  have jF:=jE.same v6
  clear u4 u5 u6 g5 g6
  have penF:=jF.pen
  refine⟨_,rfl,p,_,_,_,rfl,(by show(0:Int)<_;decide),Ag (by decide) (by decide),penF,(by omega),fun r1 H1 a1 b1 pen1 kp1=>?_⟩
  obtain⟨a0,b0,e0,q0,f0,n0⟩:∃(a0:Addr) (b0:Bool),FF [V.ref l4,.ref t5] r1=some (.ref a0)∧HF a0=some (GR b0 (zs.map V.str))∧HE a0=none∧a0≠p:=by
   have:r1=0∨r1=1:=by omega
   rcases this with rfl | rfl
   ·exact⟨l4,true,rfl,p4,g4,n4⟩
   ·exact⟨t5,false,rfl,p5,ht5,n5⟩
  refine⟨l6,_,_,_,rfl,rfl,A3.of (kp1 _ _ n6 p6),e0,?_⟩
  have luu:ui.length≤60:=by omega
  refine⟨_,rfl,_,rfl,p,D,ui,_,_,rfl,pen1,(by omega),nDp,kp1 _ _ nDp (v6 _ _ oDE),luu,fun a1 bb1 w1 H2 ha1 oa1 pm1 pen2 kp2=>⟨BB,fun hd g7=>?_⟩⟩
  have na1:a1≠p:=pen1.ne ha1
  have hh:upd H2 hd (.lst [.ref a0,.ref a1]) hd=some (.lst [.ref a0,.ref a1]):=AD
  have s7:=AH.new (o:=.lst [.ref a0,.ref a1]) g7
  have nh:hd≠p:=pen2.ne g7
  have k7:KeepX p HE (upd H2 hd (.lst [.ref a0,.ref a1])):=(AH.keep v6).trans (kp1.trans (kp2.trans (AH.keep s7)))
  have f1:HE a1=none:=Eb ((AH.keep v6).trans kp1) na1 ha1
  have q0:=s7 _ _ (kp2 _ _ n0 (kp1 _ _ n0 q0))
  have q1:=s7 _ _ oa1
  have pen7:=pen2.same s7
  generalize upd H2 hd (.lst [.ref a0,.ref a1])=H7' at *
  have jG:=jE.kx k7 pen7
  have l8n:nes.length≤8:=jE.okn.1
  have l8o:oes.length≤6:=jE.oko.1
  have lus:us.length=nes.length:=Paired.length jE.en
  have lws:ws.length=oes.length:=Paired.length jE.eo
  clear jF v6 kp1 kp2 s7 p4 p5 p6 penF pen1 pen2 oa1
  refine⟨_,rfl,_,rfl,_,rfl,p,ln,us,_,_,rfl,pen7,(by omega),jG.n2,jG.hln,(by omega),fun a2 bb2 w2 H8' ha2 oa2 pm2 pen8 kp8=>?_⟩
  have na2:a2≠p:=pen7.ne ha2
  have jH:=jG.kx kp8 pen8
  refine⟨_,rfl,_,rfl,p,lo,ws,_,_,rfl,pen8,(by omega),jH.n3,jH.hlo,(by omega),fun a3 bb3 w3 H9' ha3 oa3 pm3 pen9 kp9=>⟨BB,fun l7 g8=>?_⟩⟩
  have na3:a3≠p:=pen8.ne ha3
  have s9:=AH.new (o:=.lst [.ref a2,.ref a3]) g8
  have hh9:=s9 _ _ (kp9 _ _ nh (kp8 _ _ nh hh))
  refine⟨hd,l7,_,_,rfl,rfl,hh9,AD,(by show 4≤sizeLine;decide),fun hd2 g9=>?_⟩
  have sA:=s9.trans (AH.new (o:=.lst ([V.ref a0,.ref a1]++[.ref a2,.ref a3])) g9)
  have oh:upd (upd H9' l7 (.lst [.ref a2,.ref a3])) hd2 (.lst ([V.ref a0,.ref a1]++[.ref a2,.ref a3])) hd2=some (.lst ([V.ref a0,.ref a1]++[.ref a2,.ref a3])):=AD
  have k9:KeepX p HE (upd (upd H9' l7 (.lst [.ref a2,.ref a3])) hd2 (.lst ([V.ref a0,.ref a1]++[.ref a2,.ref a3]))):=k7.trans (kp8.trans (kp9.trans (AH.keep sA)))
  have f2:HE a2=none:=Eb k7 na2 ha2
  have f3:HE a3=none:=Eb (k7.trans kp8) na3 ha3
  have q0:=s9 _ _ (kp9 _ _ n0 (kp8 _ _ n0 q0))
  have q1:=s9 _ _ (kp9 _ _ na1 (kp8 _ _ na1 q1))
  have q2:=s9 _ _ (kp9 _ _ na2 oa2)
  have q3:=s9 _ _ oa3
  have x0:=Aa q0 g9
  have x1:=Aa q1 g9
  have x2:=Aa q2 g9
  have x3':=Aa q3 g9
  have sB:=AH.new (o:=.lst ([V.ref a0,.ref a1]++[.ref a2,.ref a3])) g9
  have q0:=sB _ _ q0
  have q1:=sB _ _ q1
  have q2:=sB _ _ q2
  have q3:=sB _ _ q3
  have pen9:=pen9.same sA
  generalize upd (upd H9' l7 (.lst [.ref a2,.ref a3])) hd2 (.lst ([V.ref a0,.ref a1]++[.ref a2,.ref a3]))=HI at *
  have jI:=jE.kx k9 pen9
  obtain⟨As,eAs⟩:∃ As:List Q4,As=[(a0,b0,zs.map V.str),(a1,bb1,w1),(a2,bb2,w2),(a3,bb3,w3)]:=⟨_,rfl⟩
  have oh:HI hd2=some (.lst (DX As)):=by rw[eAs];exact oh
  have lr:(DX As).length=4:=by rw[eAs];rfl
  have hs:S8 HI As:=by
   rw[eAs]
   intro q hq
   simp only[List.mem_cons,List.not_mem_nil,or_false]at hq
   rcases hq with rfl | rfl | rfl | rfl
   ·exact q0
   ·exact q1
   ·exact q2
   ·exact q3
  have fr:∀ q∈As,HE q.1=none∧q.1≠hd2:=by
   rw[eAs]
   intro q hq
   simp only[List.mem_cons,List.not_mem_nil,or_false]at hq
   rcases hq with rfl | rfl | rfl | rfl
   ·exact⟨f0,x0⟩
   ·exact⟨f1,x1⟩
   ·exact⟨f2,x2⟩
   ·exact⟨f3,x3'⟩
  have e0:FF (DX As) 0=some (.ref a0):=by rw[eAs];rfl
  have e1:FF (DX As) 1=some (.ref a1):=by rw[eAs];rfl
  have e2:FF (DX As) 2=some (.ref a2):=by rw[eAs];rfl
  have e3:FF (DX As) 3=some (.ref a3):=by rw[eAs];rfl
  have qq:=jE.pen.kp k9
  obtain⟨csh,pch,pmc⟩:=Fr pm1 (Paired.imp' (fun _ _ (x:Cg HE _ _)=>x.kp qq) ppE)
  obtain⟨nsh,pnh,pmn⟩:=Fr pm2 jI.en
  obtain⟨osh,poh,pmo⟩:=Fr pm3 jI.eo
  have sv:∀ q∈As,∀ z∈q.2.2,BP z=true∨∃ a,z=.ref a:=by
   rw[eAs]
   intro q hq z hz
   simp only[List.mem_cons,List.not_mem_nil,or_false]at hq
   have rf:∀{β:Type} {F:V→β→Prop} {us:List V} {ns:List β},(∀ v e,F v e→∃ a,v=.ref a)→Paired F us ns→z∈us→∃ a,z=.ref a:=fun f hp hm=>by
    obtain⟨i,hi⟩:=List.mem_iff_getElem?.mp hm
    obtain⟨e,_,x⟩:=BW hp hi
    exact f _ _ x
   rcases hq with rfl | rfl | rfl | rfl
   ·obtain⟨w,_,rfl⟩:=List.mem_map.mp hz
    exact .inl rfl
   ·exact .inr (rf (fun v e ⟨a,_,_,x,_⟩=>⟨a,x⟩) pch hz)
   ·exact .inr (rf (fun v e ⟨a,_,x,_⟩=>⟨a,x⟩) pnh hz)
   ·exact .inr (rf (fun v e ⟨a,_,x,_⟩=>⟨a,x⟩) poh hz)
  have bdI:=bd.kp qq
  have nslA:∀ q∈As,sl≠q.1:=fun q hq=>Aa jE.hsl (fr q hq).1
  clear jG jH kp8 kp9 s9 sA sB k7 hh hh9 oa2 oa3 pm1 pm2 pm3 q0 q1 q2 q3 ppE bd jE
  dsimp only[DU]
  refine⟨_,rfl,hd2,rfl,⟨_,A3.of oh⟩,fun D1 hD1=>?_⟩
  refine⟨fun i m H4=>m=4-i∧i≤4∧∃ ki:List V,H4 D1=some (.lst ki)∧ki.length=i∧(∀(j:Nat) (v:V) (q:Q4),ki[j]?=some v→As[j]?=some q→∃ l,v=.ref l∧H4 l=some (.lst q.2.2)∧l≠D1)∧AH HI H4,⟨4,rfl,Nat.zero_le _,[],AD,rfl,(fun j v q e=>by simp at e),AH.new hD1⟩,?_⟩
  rintro i m HK ⟨rfl,hi,k1,ok1,lk1,qk1,sk1⟩
  by_cases hlt:i<4
  ·have hlt':i<(DX As).length:=by omega
   refine .inr ⟨⟨_,_,A3.of (sk1 _ _ oh),List.getElem?_eq_getElem hlt'⟩,fun x H' y=>?_⟩
   obtain⟨e,y⟩:=y
   subst e
   have hx:=y _ (A3.of (sk1 _ _ oh))
   obtain⟨q,hq,rfl⟩:∃ q,As[i]?=some q∧V.ref q.1=x:=by
    unfold DX at hx
    rw[List.getElem?_map]at hx
    cases z:As[i]? with
    | none=>rw[z]at hx;cases hx
    | some q=>rw[z]at hx;exact⟨q,rfl,Option.some.inj hx⟩
   refine⟨_,rfl,q.1,q.2.2,rfl,F1 (sk1 _ _ (hs q (List.mem_of_getElem? hq))),fun l hl=>?_⟩
   have w:=AH.new (o:=.lst q.2.2) hl
   have nlD:l≠D1:=(Aa ok1 hl).symm
   refine⟨k1,w _ _ ok1,CP (by omega),4-(i+1),(by omega),rfl,hlt,k1++[.ref l],AD,by rw[List.length_append,lk1];rfl,fun j v q' e1 e2=>?_,fun b o e=>?_⟩
   ·by_cases hj:j<i
    ·rw[List.getElem?_append_left (by omega)]at e1
     obtain⟨l',x1,x2,x3⟩:=qk1 j v q' e1 e2
     exact⟨l',x1,by rw[AT x3];exact w _ _ x2,x3⟩
    ·have hj2:=(List.getElem?_eq_some_iff.mp e1).1
     rw[List.length_append,lk1]at hj2
     obtain rfl:j=i:=by simp at hj2;omega
     rw[List.getElem?_append_right (by omega),lk1,Nat.sub_self]at e1
     rw[hq]at e2
     cases e1
     cases e2
     exact⟨l,rfl,by rw[AT nlD];exact AD,nlD⟩
   ·rw[AT (Aa e hD1)];exact w _ _ (sk1 _ _ e)
  obtain rfl:i=4:=by omega
  refine .inl ⟨⟨_,A3.of (sk1 _ _ oh),by omega⟩,?_⟩
  have hsK:S8 HK As:=fun q hq=>sk1 _ _ (hs q hq)
  have hg:∀{a:Addr} {b:Bool} {w:List V},(a,b,w)∈As→HK a=some (GR b w):=fun h=>hsK _ h
  have jK:=jI.same sk1
  have ohK:=sk1 _ _ oh
  have qK:=Kp.same sk1
  have m0:(a0,b0,zs.map V.str)∈As:=by rw[eAs];simp
  have m1:(a1,bb1,w1)∈As:=by rw[eAs];simp
  have m2:(a2,bb2,w2)∈As:=by rw[eAs];simp
  have m3:(a3,bb3,w3)∈As:=by rw[eAs];simp
  have okh:HH zs csh:=⟨by rw[pmc.length_eq];exact cok.1,(pmc.map (·.1)).symm.nodup ndd,fun p hp=>cok.2.2 p (pmc.subset hp)⟩
  refine⟨_,rfl,hd2,_,_,_,rfl,rfl,A3.of ohK,e0,_,rfl,hd2,_,_,_,rfl,rfl,A3.of ohK,e1,_,rfl,hd2,_,_,_,rfl,rfl,A3.of ohK,e2,_,rfl,hd2,_,_,_,rfl,rfl,A3.of ohK,e3,_,rfl,a0,a1,a2,a3,b0,bb1,bb2,bb3,w1,w2,w3,zs,csh,nsh,osh,r6,rfl,hg m0,hg m1,hg m2,hg m3,Paired.imp' (fun _ _ x=>x.kp qK) pch,Paired.imp' (fun _ _ x=>x.kp qK) pnh,Paired.imp' (fun _ _ x=>x.kp qK) poh,ok,okh,jK.okn.perm pmn,jK.oko.perm pmo,a6,(by omega),Bq.nil jK.hP,fun bk cs' ns' os' HL bkL sc sn so kxL tbL=>?_⟩
  obtain rfl:cs'=csd:=sc.uniq (fun a b=>GS.clt_eq) okh.2.1 (fun e he=>pmc.symm.subset he) (pmc.symm.map _) srd
  obtain rfl:ns'=nsd:=sn.uniq (fun a b=>GS.slt_eq) (jK.okn.perm pmn).2.1 (fun e he=>pmn.symm.subset he) (pmn.symm.map _) sn3
  obtain rfl:os'=osd:=so.uniq (fun a b=>GS.slt_eq) (jK.oko.perm pmo).2.1 (fun e he=>pmo.symm.subset he) (pmo.symm.map _) so4
  have okN:Bl false ns':=jK.okn.srt sn3
  have okO:Bl true os':=jK.oko.srt so4
  have nX:∀{x:Addr} {o:HO},HK x=some o→(∀ ts,o≠.tbl ts)→x≠t.dv:=fun h n e=>by rw[e,jK.hP]at h;cases h;exact n _ rfl
  have kL:∀{x:Addr} {o:HO},HK x=some o→(∀ ts,o≠.tbl ts)→HL x=some o:=fun h n=>kxL _ _ (nX h n) h
  have qL:Kp HK HL:=fun x xs e=>kL e (by intro _ z;cases z)
  have ohL:=kL ohK (by intro _ z;cases z)
  have hslL:=kL jK.hsl (by intro _ z;cases z)
  have hdL:=kL jK.hd (by intro _ z;cases z)
  have dcL:=jK.dc.kp qL
  have hsL:S8 HL As:=fun q hq=>kL (hsK q hq) JC
  have ok1L:=kL ok1 (by intro _ z;cases z)
  have bdL:=(bdI.kp qK).kp qL
  have kqL:∀(j:Nat) (v:V) (q:Q4),k1[j]?=some v→As[j]?=some q→∃ l,v=.ref l∧HL l=some (.lst q.2.2):=fun j v q x y=>by
   obtain⟨l,z1,z2,_⟩:=qk1 j v q x y
   exact⟨l,z1,kL z2 (by intro _ z;cases z)⟩
  have dkn:=jK.dk
  clear jI jK nX kL qL kxL hs hsK hg ohK oh bdI pch pnh poh qk1 sk1 pmc pmn pmo sc sn so
  refine⟨_,rfl,_,rfl,.ref bk,.ref due,rfl,K9 bkL bdL hz4 cok okN okO,fun HM sM=>⟨true,rfl,AX ?_⟩⟩
  have ohM:=sM _ _ ohL
  have hsM:S8 HM As:=fun q hq=>sM _ _ (hsL q hq)
  refine⟨_,rfl,hd2,rfl,⟨_,A3.of ohM⟩,fun D2 hD2=>?_⟩
  refine⟨fun i m H4=>m=4-i∧i≤4∧∃ ki:List V,H4 D2=some (.lst ki)∧ki.length=i∧(∀(j:Nat) (v:V) (q:Q4),ki[j]?=some v→As[j]?=some q→∃ l,v=.ref l∧H4 l=some (.lst q.2.2)∧l≠D2)∧AH HM H4,⟨4,rfl,Nat.zero_le _,[],AD,rfl,(fun j v q e=>by simp at e),AH.new hD2⟩,?_⟩
  rintro i m HN ⟨rfl,hi,k2,ok2,lk2,qk2,sk2⟩
  by_cases hlt:i<4
  ·have hlt':i<(DX As).length:=by omega
   refine .inr ⟨⟨_,_,A3.of (sk2 _ _ ohM),List.getElem?_eq_getElem hlt'⟩,fun x H' y=>?_⟩
   obtain⟨e,y⟩:=y
   subst e
   have hx:=y _ (A3.of (sk2 _ _ ohM))
   obtain⟨q,hq,rfl⟩:∃ q,As[i]?=some q∧V.ref q.1=x:=by
    unfold DX at hx
    rw[List.getElem?_map]at hx
    cases z:As[i]? with
    | none=>rw[z]at hx;cases hx
    | some q=>rw[z]at hx;exact⟨q,rfl,Option.some.inj hx⟩
   refine⟨_,rfl,q.1,q.2.2,rfl,F1 (sk2 _ _ (hsM q (List.mem_of_getElem? hq))),fun l hl=>?_⟩
   have w:=AH.new (o:=.lst q.2.2) hl
   have nlD:l≠D2:=(Aa ok2 hl).symm
   refine⟨k2,w _ _ ok2,CP (by omega),4-(i+1),(by omega),rfl,hlt,k2++[.ref l],AD,by rw[List.length_append,lk2];rfl,fun j v q' e1 e2=>?_,fun b o e=>?_⟩
   ·by_cases hj:j<i
    ·rw[List.getElem?_append_left (by omega)]at e1
     obtain⟨l',x1,x2,x3⟩:=qk2 j v q' e1 e2
     exact⟨l',x1,by rw[AT x3];exact w _ _ x2,x3⟩
    ·have hj2:=(List.getElem?_eq_some_iff.mp e1).1
     rw[List.length_append,lk2]at hj2
     obtain rfl:j=i:=by simp at hj2;omega
     rw[List.getElem?_append_right (by omega),lk2,Nat.sub_self]at e1
     rw[hq]at e2
     cases e1
     cases e2
     exact⟨l,rfl,by rw[AT nlD];exact AD,nlD⟩
   ·rw[AT (Aa e hD2)];exact w _ _ (sk2 _ _ e)
  obtain rfl:i=4:=by omega
  refine .inl ⟨⟨_,A3.of (sk2 _ _ ohM),by omega⟩,?_⟩
  have sN:=sM.trans sk2
  refine⟨_,rfl,D2,D1,k2,k1,rfl,rfl,ok2,sN _ _ ok1L,(by omega),fun j u v e4 e5=>?_,false,rfl,AX ?_⟩
  ·have hj:j<As.length:=by
    have:=(List.getElem?_eq_some_iff.mp e4).1
    have lA:(DX As).length=As.length:=List.length_map ..
    omega
   have eq:As[j]?=some As[j]:=List.getElem?_eq_getElem hj
   obtain⟨l,z1,z2,_⟩:=qk2 j u _ e4 eq
   obtain⟨l',z3,z4⟩:=kqL j v _ e5 eq
   exact⟨l,l',_,z1,z3,z2,sN _ _ z4,fun z hz=>PC (sv _ (List.getElem_mem hj) z hz)⟩
  have ohN:=sN _ _ ohL
  have hsN:S8 HN As:=fun q hq=>sN _ _ (hsL q hq)
  have hslN:=sN _ _ hslL
  have hdN:=sN _ _ hdL
  have dcN:=dcL.kp (Kp.same sN)
  have bkN:=bkL.kp (Kp.same sN)
  have bdN:=bdL.kp (Kp.same sN)
  have tbN:=tbL.sm sN
  clear sM sk2 ok2 qk2 kqL ok1L hsM ohM hsL ohL hslL hdL dcL bkL bdL tbL sN
  refine⟨_,rfl,hd2,rfl,⟨_,A3.of ohN⟩,?_⟩
  refine Dy (xs:=DX As) (fun i σ H5=>∃ x12:Option V,σ=[some (.ref a),some (.ref p),some (.ref sl),some (.ref d),some (.ref ln),some (.ref lo),some (.int r6),some (.ref D),some (.ref due),some (.ref hd2),some (.ref D1),some (.ref bk),x12]∧TZ HN H5∧H5 sl=some (.lst (zs.map V.str))∧H5 hd2=some (.lst (DX As))∧∀ q∈As,∃ ys,H5 q.1=some (GR q.2.1 ys)) ⟨none,rfl,(fun b o e _=>e),hslN,ohN,fun q hq=>⟨_,hsN q hq⟩⟩ (fun i σ H5 _ ⟨_,_,_,_,e,_⟩=>A3.of e) ?_ ?_
  ·rintro i x σ H5 hx ⟨x12,rfl,kn,o5,oh5,al⟩
   obtain⟨q,hq,rfl⟩:∃ q∈As,V.ref q.1=x:=by
    obtain⟨q,hq,e⟩:=List.mem_map.mp (List.mem_of_getElem? hx)
    exact⟨q,hq,e⟩
   obtain⟨ys,hy⟩:=al q hq
   cases hb:q.2.1 with
   | false=>
    rw[hb]at hy
    have hy:H5 q.1=some (.tup ys):=hy
    exact⟨_,rfl,_,_,_,_,false,rfl,.tup hy,rfl,(fun _=>.inr trivial),T.hl,false,rfl,AX ⟨_,rfl,kn,o5,oh5,al⟩⟩
   | true=>
    rw[hb]at hy
    have hy:H5 q.1=some (.lst ys):=hy
    refine⟨_,rfl,_,_,_,_,true,rfl,.lst hy,rfl,(fun _=>.inr trivial),Ax _ _,true,rfl,Ap ?_⟩
    refine⟨_,rfl,.inl ⟨rfl,_,A3.of hy⟩,q.1,ys,rfl,rfl,hy,_,rfl,fun b o e n=>?_,?_,?_,fun q' hq'=>?_⟩
    ·rw[AT (fun z=>by have h5:=kn _ _ e n;rw[z,hy]at h5;cases h5;exact n _ rfl)]
     exact kn _ _ e n
    ·rw[AT (nslA q hq)];exact o5
    ·rw[AT (fr q hq).2.symm];exact oh5
    ·by_cases z:q'.1=q.1
     ·obtain⟨ys',hy'⟩:=al q' hq'
      rw[z,hy]at hy'
      have b':=PB (Option.some.inj hy').symm
      refine⟨[],?_⟩
      rw[z,AD,b']
      rfl
     ·rw[AT z];exact al q' hq'
  ·rintro σ H5 ⟨x12,rfl,kn,o5,oh5,al⟩
   have q5:=kn.kp
   have bk5:=bkN.kp q5
   have bd5:=bdN.kp q5
   have hd5:=kn _ _ hdN (by intro _ z;cases z)
   have dc5:=dcN.kp q5
   have tb5:=Fs.Bq.kn tbN kn
   refine⟨_,rfl,_,rfl,.ref bk,.ref due,rfl,K9 bk5 bd5 hz4 cok okN okO,fun H6 s6=>⟨true,rfl,AX ?_⟩⟩
   refine⟨_,rfl,_,rfl,_,rfl,bk,sl,d,zs,cs,cs',ns',os',r6,kvs,rfl,bk5.kp (Kp.same s6),s6 _ _ o5,hz4,s6 _ _ hd5,dc5.kp (Kp.same s6),dkn.nd,iff,fun p hp=>(dkn.ok p hp).2,fun H7 k7=>⟨true,rfl,AX ?_⟩⟩
   have hd6:=s6 _ _ hd5
   have q7:Kp H5 H7:=(Kp.same s6).trans fun b xs e=>k7 _ _ (DB e hd6 (by intro z;cases z)) e
   have bk7:=bk5.kp q7
   have bd7:=bd5.kp q7
   have tb7:=Fs.Bq.kd (tb5.sm s6) hd6 k7
   obtain⟨t1',t2',t3',t4',xs',us',ws',y0,y1,y2,y3,y4,pc7,pn7,po7⟩:=id bk7
   refine⟨_,rfl,bk,_,_,_,rfl,rfl,Ao.of y0,rfl,_,rfl,bk,_,_,_,rfl,rfl,Ao.of y0,rfl,_,rfl,bk,_,_,_,rfl,rfl,Ao.of y0,rfl,_,rfl,bk,_,_,_,rfl,rfl,Ao.of y0,rfl,_,rfl,bk,_,_,_,rfl,rfl,Ao.of y0,rfl,t1',t2',t3',t4',false,false,false,false,xs',us',ws',zs,cs',ns',os',r6,rfl,y1,y2,y3,y4,pc7,pn7,po7,ok,cok,okN,okO,a6,(by omega),tb7,fun b2 cs2 ns2 os2 H8 bk8 sc sn so kx8 _=>?_⟩
   obtain rfl:cs2=cs':=sc.uniq (fun a b=>GS.clt_eq) cok.2.1 (fun e he=>he) (List.Perm.refl _) srd
   obtain rfl:ns2=ns':=sn.uniq (fun a b=>GS.slt_eq) okN.2.1 (fun e he=>he) (List.Perm.refl _) ⟨fun _ h=>h,List.Perm.refl _,sn3.rise⟩
   obtain rfl:os2=os':=so.uniq (fun a b=>GS.slt_eq) okO.2.1 (fun e he=>he) (List.Perm.refl _) ⟨fun _ h=>h,List.Perm.refl _,so4.rise⟩
   have bd8:=bd7.kp (fun x xs e=>kx8 _ _ (fun z=>by obtain⟨ps,hp,_⟩:=tb7;rw[z,hp]at e;cases e) e)
   exact⟨_,rfl,.ref b2,.ref due,rfl,K9 bk8 bd8 hz4 cok okN okO,fun H9 _=>k H9⟩
end
def LK:Nat→(List Value→Prop)→Prop
 | 0,p=>p []
 | n+1,p=>∀ a,LK n fun us=>p (a::us)
theorem LK.of:∀(n:Nat) {p:List Value→Prop},LK n p→∀ us,us.length=n→p us
 | 0,_,h,us,e=>by
  obtain rfl:=List.length_eq_zero_iff.mp e
  exact h
 | n+1,_,h,us,e=>by
  cases us with
  | nil=>cases e
  | cons a r=>exact LK.of n (h a) r (Nat.succ.inj e)
def Ck (K:PySem.W.Frag)(n:Str)(s:Stmt):Prop:=∃(f:Addr) (od an:Option Addr) (sl:Array (Option Value)) (oc kV dc pm cd ct:Value),PySem.W.nsIn K mainGlobals n=some (some (.ref f))∧K.lookup f=some ⟨oc,od,.func (PySem.W.fnOf n n (Dc s) (CD s) (AM s) .none kV dc pm an cd ct),sl⟩∧PySem.W.codeIn K cd n=true∧PySem.W.keepIn K (.ref f)=true
theorem TB {K:PySem.W.Frag}{n:Str}{s:Stmt}{f:Addr}{od an:Option Addr}{sl:Array (Option Value)}{oc kV dc pm cd ct:Value}(a:PySem.W.nsIn K mainGlobals n=some (some (.ref f)))(l:K.lookup f=some ⟨oc,od,.func (PySem.W.fnOf n n (Dc s) (CD s) (AM s) .none kV dc pm an cd ct),sl⟩)(c:PySem.W.codeIn K cd n=true)(k:PySem.W.keepIn K (.ref f)=true):Ck K n s:=⟨_,_,_,_,_,_,_,_,_,_,a,l,c,k⟩
theorem Au {K:PySem.W.Frag}{h:Heap}{mg:Str→Option Value}{n:Str}{s:Stmt}(X:K.In h)(G:h.Ns mainGlobals mg)(C:Ck K n s)(ps:List Str)
 (b:∀(kV doc pm:Value) (an:Option Addr) (cdv ct:Value),LK ps.length fun us=>bindArgs (PySem.W.fnOf n n (Dc s) (CD s) (AM s) .none kV doc pm an cdv ct) ⟨us,[]⟩=pure (ps.zip us)):
 ∃ f fd,Df K mg n s ps f fd∧(∀ us,us.length=ps.length→bindArgs fd ⟨us,[]⟩=pure (ps.zip us))∧∀ c T,PySem.W.tabIn K n=some (c,T)→fd.code=.ref c:=by
 obtain⟨f,od,an,sl,oc,kV,dc,pm,cd,ct,ha,hl,hc,hk⟩:=C
 have F:=P4 (st:=s) hl hc hk
 exact⟨f,_,⟨F,PySem.W.mg_of X G ha,F.binds fun _ _ _ _ _ _ us hl=>LK.of _ (b _ _ _ _ _ _) us hl⟩,LK.of _ (b _ _ _ _ _ _),fun c T ht=>OW F ha ht⟩
theorem Qy {l:PySem.W.OpenLaw}{w:World}{K:PySem.W.Frag}{h:Heap}{q:Program}{loose:List Str}{mean:ExcName→Option Value}{mg mb:Str→Option Value}{fa:Addr}(X:K.In h)(T0:PyProof.Rows.Top q loose mean mg mb h)(hfa:mg "law"=some (.ref fa))
 {u_LETTERS:Value} {u_LONGEST_NAME:Value} {u_LAST_ROW:Value} {u_LAST_COLUMN:Value} {u_SIGNS:Value} {w_FAULTS:Addr} {o_FAULTS:Obj} {u_MOST_SIGNS:Value} {u_GREATEST_WHOLE:Value} {u_MOST_PARTS:Value} {u_MOST_DEEP:Value} {u_MOST_OWN_PARTS:Value} {u_MOST_PARAMS:Value} {u_GREATEST_WRITTEN:Value} {w_WORDS:Addr} {o_WORDS:Obj} {w_OP_SIGNS:Addr} {o_OP_SIGNS:Obj} {w_SUMIF_SIGNS:Addr} {o_SUMIF_SIGNS:Obj} {w_LENGTHS:Addr} {o_LENGTHS:Obj} {w_PART_PLACES:Addr} {o_PART_PLACES:Obj} {u_MOST_SHEETS:Value} {u_MOST_CELLS:Value} {u_MOST_NAMES:Value} {u_MOST_OWNS:Value} {u_MOST_ROUNDS:Value}  {cc_sorted_by_first pp_sorted_by_first:Addr}
 (C0:Ck K "_law_next" EG)
 (C1:Ck K "_law_pen" Ey)
 (C2:Ck K "is_whole" Ez)
 (C3:Ck K "greatest_divisor" B4)
 (C4:Ck K "is_number" EH)
 (C5:Ck K "is_sheet_name" CZ)
 (C6:Ck K "is_within" EI)
 (C7:Ck K "is_cell" Ft)
 (C8:Ck K "has_few_figures" CG)
 (C9:Ck K "is_short_number" CH)
 (C10:Ck K "is_text" Fu)
 (C11:Ck K "is_fault_word" Ca)
 (C12:Ck K "is_value" E1)
 (C13:Ck K "parts_of" E2)
 (C14:Ck K "all_parts" EJ)
 (C15:Ck K "count_parts" DM)
 (C16:Ck K "is_formula_name" CI)
 (C17:Ck K "is_one_of" EK)
 (C18:Ck K "is_written_value" B5)
 (C19:Ck K "is_sheet_or_none" B6)
 (C20:Ck K "is_corner" EL)
 (C21:Ck K "is_column_end" Cb)
 (C22:Ck K "is_reference" Co)
 (C23:Ck K "is_called" EM)
 (C24:Ck K "is_param" E3)
 (C25:Ck K "has_form" E4)
 (C26:Ck K "is_tree" Fv)
 (C27:Ck K "is_formula" Dg)
 (C28:Ck K "is_row" HS)
 (C29:Ck K "is_up_to" E5)
 (C30:Ck K "is_tuple_of" DN)
 (C31:Ck K "tells_sheets" Cp)
 (C32:Ck K "is_book_formula" CJ)
 (C33:Ck K "is_name_pair" Cq)
 (C34:Ck K "is_own" HU)
 (C35:Ck K "is_content" Dh)
 (C36:Ck K "is_cell_pair" Cr)
 (C37:Ck K "are_sheets" Di)
 (C38:Ck K "has_each_once" Cc)
 (C39:Ck K "are_cells" EN)
 (C40:Ck K "are_names" EO)
 (C41:Ck K "are_owns" E6)
 (C42:Ck K "sorted_by_first" CL)
 (C43:Ck K "book_of" Fw)
 (C44:Ck K "content_at" Dj)
 (C45:Ck K "_law_plain" Dk)
 (C46:Ck K "_law_corner" DQ)
 (C47:Ck K "_law_sheet_told" CM)
 (C48:Ck K "_law_place" Dl)
 (C49:Ck K "_law_leaf" EQ)
 (C50:Ck K "_law_many" ER)
 (C51:Ck K "_law_formula" Cs)
 (C52:Ck K "_law_alike" Dm)
 (C53:Ck K "_law_sheets" DR)
 (C54:Ck K "_law_names" Do)
 (C55:Ck K "_law_owns" ES)
 (C56:Ck K "_law_content" Cu)
 (C57:Ck K "_law_cells" Dp)
 (C58:Ck K "_law_dealt" Dq)
 (C59:Ck K "_law_handed" DS)
 (C60:Ck K "_law_contents_right" Bm)
 (C61:Ck K "law" N7)
 (z_len:PySem.W.nsIn K mainGlobals "len"=some none)
 (z_range:PySem.W.nsIn K mainGlobals "range"=some none)
 (z_isinstance:PySem.W.nsIn K mainGlobals "isinstance"=some none)
 (z_int:PySem.W.nsIn K mainGlobals "int"=some none)
 (z_bool:PySem.W.nsIn K mainGlobals "bool"=some none)
 (z_str:PySem.W.nsIn K mainGlobals "str"=some none)
 (z_tuple:PySem.W.nsIn K mainGlobals "tuple"=some none)
 (z_list:PySem.W.nsIn K mainGlobals "list"=some none)
 (z_all:PySem.W.nsIn K mainGlobals "all"=some none)
 (z_zip:PySem.W.nsIn K mainGlobals "zip"=some none)
 (z_min:PySem.W.nsIn K mainGlobals "min"=some none)
 (z_sorted:PySem.W.nsIn K mainGlobals "sorted"=some none)
 (z_set:PySem.W.nsIn K mainGlobals "set"=some none)
 (z_abs:PySem.W.nsIn K mainGlobals "abs"=some none)
 (z_reversed:PySem.W.nsIn K mainGlobals "reversed"=some none)
 (z_sum:PySem.W.nsIn K mainGlobals "sum"=some none)
 (z_dict:PySem.W.nsIn K mainGlobals "dict"=some none)
 (g_LETTERS:PySem.W.nsIn K mainGlobals "LETTERS"=some (some u_LETTERS))
 (r_LETTERS:Am (.str (Str.ofString "abcdefghijklmnopqrstuvwxyz")) u_LETTERS)
 (g_LONGEST_NAME:PySem.W.nsIn K mainGlobals "LONGEST_NAME"=some (some u_LONGEST_NAME))
 (r_LONGEST_NAME:Am (.int 6) u_LONGEST_NAME)
 (g_LAST_ROW:PySem.W.nsIn K mainGlobals "LAST_ROW"=some (some u_LAST_ROW))
 (r_LAST_ROW:Am (.int 16) u_LAST_ROW)
 (g_LAST_COLUMN:PySem.W.nsIn K mainGlobals "LAST_COLUMN"=some (some u_LAST_COLUMN))
 (r_LAST_COLUMN:Am (.int 8) u_LAST_COLUMN)
 (g_SIGNS:PySem.W.nsIn K mainGlobals "SIGNS"=some (some u_SIGNS))
 (r_SIGNS:Am (.str (Str.ofString "abcdefghijklmnopqrstuvwxyz0123456789 ")) u_SIGNS)
 (g_FAULTS:PySem.W.nsIn K mainGlobals "FAULTS"=some (some (.ref w_FAULTS)))
 (h_FAULTS:K.lookup w_FAULTS=some o_FAULTS)
 (r_FAULTS:o_FAULTS.cls=.type "tuple"∧∃ its n,o_FAULTS.data=.seq its n∧its.size≤sizeLine∧A2 (Ex.map V.str) its.toList)
 (g_MOST_SIGNS:PySem.W.nsIn K mainGlobals "MOST_SIGNS"=some (some u_MOST_SIGNS))
 (r_MOST_SIGNS:Am (.int 20) u_MOST_SIGNS)
 (g_GREATEST_WHOLE:PySem.W.nsIn K mainGlobals "GREATEST_WHOLE"=some (some u_GREATEST_WHOLE))
 (r_GREATEST_WHOLE:Am (.int 999999999999999999999999999999) u_GREATEST_WHOLE)
 (g_MOST_PARTS:PySem.W.nsIn K mainGlobals "MOST_PARTS"=some (some u_MOST_PARTS))
 (r_MOST_PARTS:Am (.int 24) u_MOST_PARTS)
 (g_MOST_DEEP:PySem.W.nsIn K mainGlobals "MOST_DEEP"=some (some u_MOST_DEEP))
 (r_MOST_DEEP:Am (.int 8) u_MOST_DEEP)
 (g_MOST_OWN_PARTS:PySem.W.nsIn K mainGlobals "MOST_OWN_PARTS"=some (some u_MOST_OWN_PARTS))
 (r_MOST_OWN_PARTS:Am (.int 3) u_MOST_OWN_PARTS)
 (g_MOST_PARAMS:PySem.W.nsIn K mainGlobals "MOST_PARAMS"=some (some u_MOST_PARAMS))
 (r_MOST_PARAMS:Am (.int 3) u_MOST_PARAMS)
 (g_GREATEST_WRITTEN:PySem.W.nsIn K mainGlobals "GREATEST_WRITTEN"=some (some u_GREATEST_WRITTEN))
 (r_GREATEST_WRITTEN:Am (.int 999999999) u_GREATEST_WRITTEN)
 (g_WORDS:PySem.W.nsIn K mainGlobals "WORDS"=some (some (.ref w_WORDS)))
 (h_WORDS:K.lookup w_WORDS=some o_WORDS)
 (r_WORDS:o_WORDS.cls=.type "tuple"∧∃ its n,o_WORDS.data=.seq its n∧its.size≤sizeLine∧A2 R8 its.toList)
 (g_OP_SIGNS:PySem.W.nsIn K mainGlobals "OP_SIGNS"=some (some (.ref w_OP_SIGNS)))
 (h_OP_SIGNS:K.lookup w_OP_SIGNS=some o_OP_SIGNS)
 (r_OP_SIGNS:o_OP_SIGNS.cls=.type "tuple"∧∃ its n,o_OP_SIGNS.data=.seq its n∧its.size≤sizeLine∧A2 R7 its.toList)
 (g_SUMIF_SIGNS:PySem.W.nsIn K mainGlobals "SUMIF_SIGNS"=some (some (.ref w_SUMIF_SIGNS)))
 (h_SUMIF_SIGNS:K.lookup w_SUMIF_SIGNS=some o_SUMIF_SIGNS)
 (r_SUMIF_SIGNS:o_SUMIF_SIGNS.cls=.type "tuple"∧∃ its n,o_SUMIF_SIGNS.data=.seq its n∧its.size≤sizeLine∧A2 TR its.toList)
 (g_LENGTHS:PySem.W.nsIn K mainGlobals "LENGTHS"=some (some (.ref w_LENGTHS)))
 (h_LENGTHS:K.lookup w_LENGTHS=some o_LENGTHS)
 (r_LENGTHS:QF w o_LENGTHS MY)
 (n_LENGTHS:(w_LENGTHS==sysModules)=false)
 (g_PART_PLACES:PySem.W.nsIn K mainGlobals "PART_PLACES"=some (some (.ref w_PART_PLACES)))
 (h_PART_PLACES:K.lookup w_PART_PLACES=some o_PART_PLACES)
 (r_PART_PLACES:∃ kvs,QF w o_PART_PLACES kvs∧Paired (fun(kv:BF×V) (kt:BF×List V)=>kv.1=kt.1∧∃ a,kv.2=.ref a∧∀ H,Ao K H a kt.2) kvs UE)
 (n_PART_PLACES:(w_PART_PLACES==sysModules)=false)
 (g_MOST_SHEETS:PySem.W.nsIn K mainGlobals "MOST_SHEETS"=some (some u_MOST_SHEETS))
 (r_MOST_SHEETS:Am (.int 4) u_MOST_SHEETS)
 (g_MOST_CELLS:PySem.W.nsIn K mainGlobals "MOST_CELLS"=some (some u_MOST_CELLS))
 (r_MOST_CELLS:Am (.int 60) u_MOST_CELLS)
 (g_MOST_NAMES:PySem.W.nsIn K mainGlobals "MOST_NAMES"=some (some u_MOST_NAMES))
 (r_MOST_NAMES:Am (.int 8) u_MOST_NAMES)
 (g_MOST_OWNS:PySem.W.nsIn K mainGlobals "MOST_OWNS"=some (some u_MOST_OWNS))
 (r_MOST_OWNS:Am (.int 6) u_MOST_OWNS)
 (g_MOST_ROUNDS:PySem.W.nsIn K mainGlobals "MOST_ROUNDS"=some (some u_MOST_ROUNDS))
 (r_MOST_ROUNDS:Am (.int 4) u_MOST_ROUNDS)
 (ki_NoneType_int:PySem.W.kitOne K (.type "NoneType") (.type "int")=some false)
 (ki_NoneType_bool:PySem.W.kitOne K (.type "NoneType") (.type "bool")=some false)
 (ki_NoneType_str:PySem.W.kitOne K (.type "NoneType") (.type "str")=some false)
 (ki_NoneType_tuple:PySem.W.kitOne K (.type "NoneType") (.type "tuple")=some false)
 (ki_bool_int:PySem.W.kitOne K (.type "bool") (.type "int")=some true)
 (ki_bool_bool:PySem.W.kitOne K (.type "bool") (.type "bool")=some true)
 (ki_bool_str:PySem.W.kitOne K (.type "bool") (.type "str")=some false)
 (ki_bool_tuple:PySem.W.kitOne K (.type "bool") (.type "tuple")=some false)
 (ki_int_int:PySem.W.kitOne K (.type "int") (.type "int")=some true)
 (ki_int_bool:PySem.W.kitOne K (.type "int") (.type "bool")=some false)
 (ki_int_str:PySem.W.kitOne K (.type "int") (.type "str")=some false)
 (ki_int_tuple:PySem.W.kitOne K (.type "int") (.type "tuple")=some false)
 (ki_str_int:PySem.W.kitOne K (.type "str") (.type "int")=some false)
 (ki_str_bool:PySem.W.kitOne K (.type "str") (.type "bool")=some false)
 (ki_str_str:PySem.W.kitOne K (.type "str") (.type "str")=some true)
 (ki_str_tuple:PySem.W.kitOne K (.type "str") (.type "tuple")=some false)
 (ki_list_int:PySem.W.kitOne K (.type "list") (.type "int")=some false)
 (ki_list_bool:PySem.W.kitOne K (.type "list") (.type "bool")=some false)
 (ki_list_str:PySem.W.kitOne K (.type "list") (.type "str")=some false)
 (ki_list_tuple:PySem.W.kitOne K (.type "list") (.type "tuple")=some false)
 (ki_dict_int:PySem.W.kitOne K (.type "dict") (.type "int")=some false)
 (ki_dict_bool:PySem.W.kitOne K (.type "dict") (.type "bool")=some false)
 (ki_dict_str:PySem.W.kitOne K (.type "dict") (.type "str")=some false)
 (ki_dict_tuple:PySem.W.kitOne K (.type "dict") (.type "tuple")=some false)
 (ki_tuple_int:PySem.W.kitOne K (.type "tuple") (.type "int")=some false)
 (ki_tuple_bool:PySem.W.kitOne K (.type "tuple") (.type "bool")=some false)
 (ki_tuple_str:PySem.W.kitOne K (.type "tuple") (.type "str")=some false)
 (ki_tuple_tuple:PySem.W.kitOne K (.type "tuple") (.type "tuple")=some true)
 (kist:PySem.W.kitOne K (.type "str") (.type "tuple")=some false)
 (kiit:PySem.W.kitOne K (.type "int") (.type "tuple")=some false)
 (kib:PySem.W.kitOne K (.type "int") (.type "bool")=some false)
 (ki_tuple_list:PySem.W.kitOne K (.type "tuple") (.type "list")=some false)
 (t_sorted_by_first:PySem.W.tabIn K "sorted_by_first"=some (cc_sorted_by_first,pp_sorted_by_first)) (rr_sorted_by_first:(PyProof.Rows.recsOf q).any (fun e=>e.name == "sorted_by_first")=true):
 ∃(fd:FuncData) (tabs:List (Addr×Addr)) (sp:Sp),(∀(s:Shared) (v:Value),BindsTo s fd ⟨[v],[]⟩ [("_law_script",v)])∧PySem.W.TabsAt tabs h∧(∀(H:Hp) (a:Addr) (ns:List Int),ns.length≤63→(∀ q∈tabs,H q.2=some (.tbl #[]))→A3 K H a (ns.map V.int)→sp [.ref a] H (fun v _=>v=.bl true) E0)∧∀ base:Heap,K.In base→base.Ns mainGlobals mg→(∀ q∈tabs,PySem.W.CodeHd base q.1 q.2)→BM mg base→Az l.prog w K mg base Bd 60 fa fd ["_law_script"] sp:=by
 have G:=T0.g
 refine R3 fun X_ hX_=>?_
 obtain⟨f0,d0,D0,_⟩:=Au X G C0 ["_law_pen_here","_law_many_here"] fun _ _ _ _ _ _ _ _=>rfl
 obtain⟨f1,d1,D1,_⟩:=Au X G C1 ["_law_script"] fun _ _ _ _ _ _ _=>rfl
 obtain⟨f2,d2,D2,_⟩:=Au X G C2 ["thing"] fun _ _ _ _ _ _ _=>rfl
 obtain⟨f3,d3,D3,_⟩:=Au X G C3 ["one","other"] fun _ _ _ _ _ _ _ _=>rfl
 obtain⟨f4,d4,D4,_⟩:=Au X G C4 ["top","bottom"] fun _ _ _ _ _ _ _ _=>rfl
 obtain⟨f5,d5,D5,_⟩:=Au X G C5 ["thing"] fun _ _ _ _ _ _ _=>rfl
 obtain⟨f6,d6,D6,_⟩:=Au X G C6 ["thing","last"] fun _ _ _ _ _ _ _ _=>rfl
 obtain⟨f7,d7,D7,_⟩:=Au X G C7 ["thing"] fun _ _ _ _ _ _ _=>rfl
 obtain⟨f8,d8,D8,_⟩:=Au X G C8 ["thing"] fun _ _ _ _ _ _ _=>rfl
 obtain⟨f9,d9,D9,_⟩:=Au X G C9 ["top","bottom"] fun _ _ _ _ _ _ _ _=>rfl
 obtain⟨f10,d10,D10,_⟩:=Au X G C10 ["thing"] fun _ _ _ _ _ _ _=>rfl
 obtain⟨f11,d11,D11,_⟩:=Au X G C11 ["thing"] fun _ _ _ _ _ _ _=>rfl
 obtain⟨f12,d12,D12,_⟩:=Au X G C12 ["thing"] fun _ _ _ _ _ _ _=>rfl
 obtain⟨f13,d13,D13,_⟩:=Au X G C13 ["formula"] fun _ _ _ _ _ _ _=>rfl
 obtain⟨f14,d14,D14,_⟩:=Au X G C14 ["formula"] fun _ _ _ _ _ _ _=>rfl
 obtain⟨f15,d15,D15,_⟩:=Au X G C15 ["formula"] fun _ _ _ _ _ _ _=>rfl
 obtain⟨f16,d16,D16,_⟩:=Au X G C16 ["thing"] fun _ _ _ _ _ _ _=>rfl
 obtain⟨f17,d17,D17,_⟩:=Au X G C17 ["thing","texts"] fun _ _ _ _ _ _ _ _=>rfl
 obtain⟨f18,d18,D18,_⟩:=Au X G C18 ["thing"] fun _ _ _ _ _ _ _=>rfl
 obtain⟨f19,d19,D19,_⟩:=Au X G C19 ["thing"] fun _ _ _ _ _ _ _=>rfl
 obtain⟨f20,d20,D20,_⟩:=Au X G C20 ["thing"] fun _ _ _ _ _ _ _=>rfl
 obtain⟨f21,d21,D21,_⟩:=Au X G C21 ["thing"] fun _ _ _ _ _ _ _=>rfl
 obtain⟨f22,d22,D22,_⟩:=Au X G C22 ["thing"] fun _ _ _ _ _ _ _=>rfl
 obtain⟨f23,d23,D23,_⟩:=Au X G C23 ["thing"] fun _ _ _ _ _ _ _=>rfl
 obtain⟨f24,d24,D24,_⟩:=Au X G C24 ["thing","params"] fun _ _ _ _ _ _ _ _=>rfl
 obtain⟨f25,d25,D25,_⟩:=Au X G C25 ["thing","params"] fun _ _ _ _ _ _ _ _=>rfl
 obtain⟨f26,d26,D26,_⟩:=Au X G C26 ["thing","params","deep"] fun _ _ _ _ _ _ _ _ _=>rfl
 obtain⟨f27,d27,D27,_⟩:=Au X G C27 ["thing","params"] fun _ _ _ _ _ _ _ _=>rfl
 obtain⟨f28,d28,D28,_⟩:=Au X G C28 ["thing","most"] fun _ _ _ _ _ _ _ _=>rfl
 obtain⟨f29,d29,D29,_⟩:=Au X G C29 ["thing","most"] fun _ _ _ _ _ _ _ _=>rfl
 obtain⟨f30,d30,D30,_⟩:=Au X G C30 ["thing","many"] fun _ _ _ _ _ _ _ _=>rfl
 obtain⟨f31,d31,D31,_⟩:=Au X G C31 ["formula"] fun _ _ _ _ _ _ _=>rfl
 obtain⟨f32,d32,D32,_⟩:=Au X G C32 ["thing","params"] fun _ _ _ _ _ _ _ _=>rfl
 obtain⟨f33,d33,D33,_⟩:=Au X G C33 ["thing"] fun _ _ _ _ _ _ _=>rfl
 obtain⟨f34,d34,D34,_⟩:=Au X G C34 ["thing"] fun _ _ _ _ _ _ _=>rfl
 obtain⟨f35,d35,D35,_⟩:=Au X G C35 ["thing"] fun _ _ _ _ _ _ _=>rfl
 obtain⟨f36,d36,D36,_⟩:=Au X G C36 ["thing","sheets"] fun _ _ _ _ _ _ _ _=>rfl
 obtain⟨f37,d37,D37,_⟩:=Au X G C37 ["thing"] fun _ _ _ _ _ _ _=>rfl
 obtain⟨f38,d38,D38,_⟩:=Au X G C38 ["pairs"] fun _ _ _ _ _ _ _=>rfl
 obtain⟨f39,d39,D39,_⟩:=Au X G C39 ["thing","sheets"] fun _ _ _ _ _ _ _ _=>rfl
 obtain⟨f40,d40,D40,_⟩:=Au X G C40 ["thing"] fun _ _ _ _ _ _ _=>rfl
 obtain⟨f41,d41,D41,_⟩:=Au X G C41 ["thing"] fun _ _ _ _ _ _ _=>rfl
 obtain⟨f42,d42,D42,_,E42⟩:=Au X G C42 ["pairs"] fun _ _ _ _ _ _ _=>rfl
 obtain⟨f43,d43,D43,_⟩:=Au X G C43 ["sheets","cells","names","owns","rounds"] fun _ _ _ _ _ _ _ _ _ _ _=>rfl
 obtain⟨f44,d44,D44,_⟩:=Au X G C44 ["book","cell"] fun _ _ _ _ _ _ _ _=>rfl
 obtain⟨f45,d45,D45,_⟩:=Au X G C45 ["_law_pen_here"] fun _ _ _ _ _ _ _=>rfl
 obtain⟨f46,d46,D46,_⟩:=Au X G C46 ["_law_pen_here"] fun _ _ _ _ _ _ _=>rfl
 obtain⟨f47,d47,D47,_⟩:=Au X G C47 ["_law_pen_here","_law_sheets_here","_law_told_on"] fun _ _ _ _ _ _ _ _ _=>rfl
 obtain⟨f48,d48,D48,_⟩:=Au X G C48 ["_law_pen_here","_law_sheets_here","_law_told_on"] fun _ _ _ _ _ _ _ _ _=>rfl
 obtain⟨f49,d49,D49,_⟩:=Au X G C49 ["_law_pen_here","_law_sheets_here","_law_told_on","_law_params"] fun _ _ _ _ _ _ _ _ _ _=>rfl
 obtain⟨f50,d50,D50,_⟩:=Au X G C50 ["_law_pen_here","_law_sheets_here","_law_told_on","_law_params","_law_deep"] fun _ _ _ _ _ _ _ _ _ _ _=>rfl
 obtain⟨f51,d51,D51,_⟩:=Au X G C51 ["_law_pen_here","_law_sheets_here","_law_told_on","_law_params","_law_deep"] fun _ _ _ _ _ _ _ _ _ _ _=>rfl
 obtain⟨f52,d52,D52,_⟩:=Au X G C52 ["_law_found","_law_due"] fun _ _ _ _ _ _ _ _=>rfl
 obtain⟨f53,d53,D53,_⟩:=Au X G C53 ["_law_pen_here"] fun _ _ _ _ _ _ _=>rfl
 obtain⟨f54,d54,D54,_⟩:=Au X G C54 ["_law_pen_here","_law_sheets_here"] fun _ _ _ _ _ _ _ _=>rfl
 obtain⟨f55,d55,D55,_⟩:=Au X G C55 ["_law_pen_here","_law_sheets_here"] fun _ _ _ _ _ _ _ _=>rfl
 obtain⟨f56,d56,D56,_⟩:=Au X G C56 ["_law_pen_here","_law_sheets_here","_law_deep"] fun _ _ _ _ _ _ _ _ _=>rfl
 obtain⟨f57,d57,D57,_⟩:=Au X G C57 ["_law_pen_here","_law_sheets_here","_law_many_here","_law_deep"] fun _ _ _ _ _ _ _ _ _ _=>rfl
 obtain⟨f58,d58,D58,_⟩:=Au X G C58 ["_law_pen_here","_law_some"] fun _ _ _ _ _ _ _ _=>rfl
 obtain⟨f59,d59,D59,_⟩:=Au X G C59 ["_law_pen_here","_law_some"] fun _ _ _ _ _ _ _ _=>rfl
 obtain⟨f60,d60,D60,_⟩:=Au X G C60 ["_law_book","_law_sheets_here","_law_cells_here"] fun _ _ _ _ _ _ _ _ _=>rfl
 obtain⟨f61,d61,D61,BL,E61⟩:=Au X G C61 ["_law_script"] fun _ _ _ _ _ _ _=>rfl
 have e:=hfa.symm.trans D61.gl
 cases e
 have T:Txt w K mg ⟨f0,d0,f1,d1,f2,d2,f3,d3,f4,d4,f5,d5,f6,d6,f7,d7,f8,d8,f9,d9,f10,d10,f11,d11,f12,d12,f13,d13,f14,d14,f15,d15,f16,d16,f17,d17,f18,d18,f19,d19,f20,d20,f21,d21,f22,d22,f23,d23,f24,d24,f25,d25,f26,d26,f27,d27,f28,d28,f29,d29,f30,d30,f31,d31,f32,d32,f33,d33,f34,d34,f35,d35,f36,d36,f37,d37,f38,d38,f39,d39,f40,d40,f41,d41,f42,d42,f43,d43,f44,d44,f45,d45,f46,d46,f47,d47,f48,d48,f49,d49,f50,d50,f51,d51,f52,d52,f53,d53,f54,d54,f55,d55,f56,d56,f57,d57,f58,d58,f59,d59,f60,d60,_,_,cc_sorted_by_first,pp_sorted_by_first⟩:=⟨D0,D1,D2,D3,D4,D5,D6,D7,D8,D9,D10,D11,D12,D13,D14,D15,D16,D17,D18,D19,D20,D21,D22,D23,D24,D25,D26,D27,D28,D29,D30,D31,D32,D33,D34,D35,D36,D37,D38,D39,D40,D41,D42,D43,D44,D45,D46,D47,D48,D49,D50,D51,D52,D53,D54,D55,D56,D57,D58,D59,D60,D61,PySem.W.mg_none_of X G z_len,PySem.W.mg_none_of X G z_range,PySem.W.mg_none_of X G z_isinstance,PySem.W.mg_none_of X G z_int,PySem.W.mg_none_of X G z_bool,PySem.W.mg_none_of X G z_str,PySem.W.mg_none_of X G z_tuple,PySem.W.mg_none_of X G z_list,PySem.W.mg_none_of X G z_all,PySem.W.mg_none_of X G z_zip,PySem.W.mg_none_of X G z_min,PySem.W.mg_none_of X G z_sorted,PySem.W.mg_none_of X G z_set,PySem.W.mg_none_of X G z_abs,PySem.W.mg_none_of X G z_reversed,PySem.W.mg_none_of X G z_sum,PySem.W.mg_none_of X G z_dict,⟨_,PySem.W.mg_of X G g_LETTERS,r_LETTERS⟩,⟨_,PySem.W.mg_of X G g_LONGEST_NAME,r_LONGEST_NAME⟩,⟨_,PySem.W.mg_of X G g_LAST_ROW,r_LAST_ROW⟩,⟨_,PySem.W.mg_of X G g_LAST_COLUMN,r_LAST_COLUMN⟩,⟨_,PySem.W.mg_of X G g_SIGNS,r_SIGNS⟩,⟨_,_,PySem.W.mg_of X G g_FAULTS,h_FAULTS,r_FAULTS⟩,⟨_,PySem.W.mg_of X G g_MOST_SIGNS,r_MOST_SIGNS⟩,⟨_,PySem.W.mg_of X G g_GREATEST_WHOLE,r_GREATEST_WHOLE⟩,⟨_,PySem.W.mg_of X G g_MOST_PARTS,r_MOST_PARTS⟩,⟨_,PySem.W.mg_of X G g_MOST_DEEP,r_MOST_DEEP⟩,⟨_,PySem.W.mg_of X G g_MOST_OWN_PARTS,r_MOST_OWN_PARTS⟩,⟨_,PySem.W.mg_of X G g_MOST_PARAMS,r_MOST_PARAMS⟩,⟨_,PySem.W.mg_of X G g_GREATEST_WRITTEN,r_GREATEST_WRITTEN⟩,⟨_,_,PySem.W.mg_of X G g_WORDS,h_WORDS,r_WORDS⟩,⟨_,_,PySem.W.mg_of X G g_OP_SIGNS,h_OP_SIGNS,r_OP_SIGNS⟩,⟨_,_,PySem.W.mg_of X G g_SUMIF_SIGNS,h_SUMIF_SIGNS,r_SUMIF_SIGNS⟩,⟨_,PySem.W.mg_of X G g_LENGTHS,_,h_LENGTHS,r_LENGTHS,n_LENGTHS⟩,(let ⟨k,d,p⟩:=r_PART_PLACES;⟨k,⟨_,PySem.W.mg_of X G g_PART_PLACES,_,h_PART_PLACES,d,n_PART_PLACES⟩,p⟩),⟨_,PySem.W.mg_of X G g_MOST_SHEETS,r_MOST_SHEETS⟩,⟨_,PySem.W.mg_of X G g_MOST_CELLS,r_MOST_CELLS⟩,⟨_,PySem.W.mg_of X G g_MOST_NAMES,r_MOST_NAMES⟩,⟨_,PySem.W.mg_of X G g_MOST_OWNS,r_MOST_OWNS⟩,⟨_,PySem.W.mg_of X G g_MOST_ROUNDS,r_MOST_ROUNDS⟩,ki_NoneType_int,ki_NoneType_bool,ki_NoneType_str,ki_NoneType_tuple,ki_bool_int,ki_bool_bool,ki_bool_str,ki_bool_tuple,ki_int_int,ki_int_bool,ki_int_str,ki_int_tuple,ki_str_int,ki_str_bool,ki_str_str,ki_str_tuple,ki_list_int,ki_list_bool,ki_list_str,ki_list_tuple,ki_dict_int,ki_dict_bool,ki_dict_str,ki_dict_tuple,ki_tuple_int,ki_tuple_bool,ki_tuple_str,ki_tuple_tuple,kist,kiit,kib,ki_tuple_list,E42 _ _ t_sorted_by_first⟩
 refine hX_ ?_
 have x_sorted_by_first:PySem.W.CodeHd h cc_sorted_by_first pp_sorted_by_first∧h.get? pp_sorted_by_first=some (PySem.W.tabObj #[]):=by
  obtain⟨d,hd⟩:=QL rr_sorted_by_first
  exact PySem.W.tab_of T0 X hd t_sorted_by_first
 refine⟨_,[(cc_sorted_by_first,pp_sorted_by_first)],Nt K pp_sorted_by_first,fun s v=>.of_eq (BL [v] rfl),(List.forall_mem_cons.mpr ⟨x_sorted_by_first,List.forall_mem_nil _⟩),fun H a ns hl hT hS=>⟨a,ns,rfl,hS,hl,hT (cc_sorted_by_first,pp_sorted_by_first) (by simp),fun _=>rfl⟩,fun base _ _ hC hB=>Qx T hC hB⟩
theorem UL {l:PySem.W.OpenLaw}{q:Program}{loose:List Str}{XP:(Str→Option Value)→Heap→Prop}{YP:World→Heap→Prop}{d:DefRec}{K:Params→PySem.W.Frag}(hn:l.most=some 63)(hdf:d.params.defaults=[])
 (hY:∀(w:World) (h:Heap),YP w h→(K w.params).In h) (hKT:∀ w:World,PySem.W.noTabs (K w.params)=true)
 (F:∀(w:World) (mean:ExcName→Option Value) (mg mb:Str→Option Value) (fa:Addr) (h:Heap),(K w.params).In h→PyProof.Rows.Top q (PySem.W.looseW q loose) mean mg mb h→mg d.name=some (.ref fa)→
  ∃(fd:FuncData) (tabs:List (Addr×Addr)) (sp:Sp),(∀(s:Shared) (v:Value),BindsTo s fd ⟨[v],[]⟩ [("_law_script",v)])∧PySem.W.TabsAt tabs h∧(∀(H:Hp) (a:Addr) (ns:List Int),ns.length≤63→(∀ q∈tabs,H q.2=some (.tbl #[]))→A3 (K w.params) H a (ns.map V.int)→sp [.ref a] H (fun v _=>v=.bl true) E0)∧∀ base:Heap,(K w.params).In base→base.Ns mainGlobals mg→(∀ q∈tabs,PySem.W.CodeHd base q.1 q.2)→BM mg base→Az l.prog w (K w.params) mg base Bd 60 fa fd ["_law_script"] sp):
 PySem.W.WalkO q loose XP YP l.row.toRowW d [] (fun f vs=>PySem.call f vs):=
 L2.NP (n:=63) (k:=60) (x:="_law_script") hn (by decide) hdf ⟨rfl,by decide,by decide⟩ hY hKT F
end Fs
open PySem PySem.W PyProof.Rows
set_option maxRecDepth 100000 in
set_option maxHeartbeats 0 in
theorem PySem.Challenge.cw_freshsheet_k25_books_made_holds : PySem.Challenge.rw_freshsheet_k25_books_made.Holds := by
 w_on;o_law
 refine holds_open (r:=OpenLaw.row PySem.Challenge.rw_freshsheet_k25_books_made) (q:=Hw.qv) (loose:=Hw.lo) (Xt:=Hw.Xv) (XP:=XL Hw.qv []) (Yf:=Hook.obs (kHook Hw.pack.heap_1 Hw.hAs Hw.hAs_eq)) (Ya:=Hook.val (kHook Hw.pack.heap_1 Hw.hAs Hw.hAs_eq)) (YP:=Hook.says (kHook Hw.pack.heap_1 Hw.hAs Hw.hAs_eq)) (N:=Hw.N0) Hw.left (Hook.of (kHook Hw.pack.heap_1 Hw.hAs Hw.hAs_eq)) (Hook.keeps (kHook Hw.pack.heap_1 Hw.hAs Hw.hAs_eq)) (fun s e=>xl_of s (Bool.and_eq_true_iff.mp e).1) XL.keeps (by rfl) (by rfl) (by rfl) (fun s e=>recFacts_of (Bool.and_eq_true_iff.mp e).2) (by rfl) (by first | assumption | decide +kernel) (by decide +kernel) ⟨rfl,rfl,rfl,rfl,rfl,by decide +kernel⟩ ?hw ?hc
 case hw=>w_witness2
 k_fill
 refine Fs.UL (l:=PySem.Challenge.rw_freshsheet_k25_books_made) rfl rfl (fun w h Y=>PySem.W.kIn_of Y) (fun w=>by kernel_rfl) ?F
 case F=>
  intro w mean mg mb fa h KX T0 hmg
  apply Fs.Qy KX T0 hmg
  iterate 62 (apply Fs.TB;k_is;k_is;k_is;k_is)
  (case z_len=>k_is)
  (case z_range=>k_is)
  (case z_isinstance=>k_is)
  (case z_int=>k_is)
  (case z_bool=>k_is)
  (case z_str=>k_is)
  (case z_tuple=>k_is)
  (case z_list=>k_is)
  (case z_all=>k_is)
  (case z_zip=>k_is)
  (case z_min=>k_is)
  (case z_sorted=>k_is)
  (case z_set=>k_is)
  (case z_abs=>k_is)
  (case z_reversed=>k_is)
  (case z_sum=>k_is)
  (case z_dict=>k_is)
  (case g_LETTERS=>k_is)
  (case r_LETTERS=>first | exact⟨_,rfl⟩ | exact⟨_,by decide +kernel⟩)
  (case g_LONGEST_NAME=>k_is)
  (case r_LONGEST_NAME=>first | exact⟨_,rfl⟩ | exact⟨_,by decide +kernel⟩)
  (case g_LAST_ROW=>k_is)
  (case r_LAST_ROW=>first | exact⟨_,rfl⟩ | exact⟨_,by decide +kernel⟩)
  (case g_LAST_COLUMN=>k_is)
  (case r_LAST_COLUMN=>first | exact⟨_,rfl⟩ | exact⟨_,by decide +kernel⟩)
  (case g_SIGNS=>k_is)
  (case r_SIGNS=>first | exact⟨_,rfl⟩ | exact⟨_,by decide +kernel⟩)
  (case g_FAULTS=>k_is)
  (case h_FAULTS=>k_is)
  (case r_FAULTS=>exact⟨rfl,_,_,rfl,by decide,.cons ⟨_,rfl⟩ (.cons ⟨_,rfl⟩ (.cons ⟨_,rfl⟩ (.cons ⟨_,rfl⟩ (.cons ⟨_,rfl⟩ (.cons ⟨_,rfl⟩ (.cons ⟨_,rfl⟩ (.cons ⟨_,rfl⟩ (.cons ⟨_,rfl⟩ (.nil)))))))))⟩)
  (case g_MOST_SIGNS=>k_is)
  (case r_MOST_SIGNS=>first | exact⟨_,rfl⟩ | exact⟨_,by decide +kernel⟩)
  (case g_GREATEST_WHOLE=>k_is)
  (case r_GREATEST_WHOLE=>first | exact⟨_,rfl⟩ | exact⟨_,by decide +kernel⟩)
  (case g_MOST_PARTS=>k_is)
  (case r_MOST_PARTS=>first | exact⟨_,rfl⟩ | exact⟨_,by decide +kernel⟩)
  (case g_MOST_DEEP=>k_is)
  (case r_MOST_DEEP=>first | exact⟨_,rfl⟩ | exact⟨_,by decide +kernel⟩)
  (case g_MOST_OWN_PARTS=>k_is)
  (case r_MOST_OWN_PARTS=>first | exact⟨_,rfl⟩ | exact⟨_,by decide +kernel⟩)
  (case g_MOST_PARAMS=>k_is)
  (case r_MOST_PARAMS=>first | exact⟨_,rfl⟩ | exact⟨_,by decide +kernel⟩)
  (case g_GREATEST_WRITTEN=>k_is)
  (case r_GREATEST_WRITTEN=>first | exact⟨_,rfl⟩ | exact⟨_,by decide +kernel⟩)
  (case g_WORDS=>k_is)
  (case h_WORDS=>k_is)
  (case r_WORDS=>exact⟨rfl,_,_,rfl,by decide,.cons ⟨_,rfl⟩ (.cons ⟨_,rfl⟩ (.cons ⟨_,rfl⟩ (.cons ⟨_,rfl⟩ (.cons ⟨_,rfl⟩ (.cons ⟨_,rfl⟩ (.cons ⟨_,rfl⟩ (.cons ⟨_,rfl⟩ (.cons ⟨_,rfl⟩ (.cons ⟨_,rfl⟩ (.cons ⟨_,rfl⟩ (.cons ⟨_,rfl⟩ (.cons ⟨_,rfl⟩ (.nil)))))))))))))⟩)
  (case g_OP_SIGNS=>k_is)
  (case h_OP_SIGNS=>k_is)
  (case r_OP_SIGNS=>exact⟨rfl,_,_,rfl,by decide,.cons ⟨_,rfl⟩ (.cons ⟨_,rfl⟩ (.cons ⟨_,rfl⟩ (.cons ⟨_,rfl⟩ (.cons ⟨_,rfl⟩ (.cons ⟨_,rfl⟩ (.cons ⟨_,rfl⟩ (.nil)))))))⟩)
  (case g_SUMIF_SIGNS=>k_is)
  (case h_SUMIF_SIGNS=>k_is)
  (case r_SUMIF_SIGNS=>exact⟨rfl,_,_,rfl,by decide,.cons ⟨_,rfl⟩ (.cons ⟨_,rfl⟩ (.nil))⟩)
  (case g_LENGTHS=>k_is)
  (case h_LENGTHS=>k_is)
  (case r_LENGTHS=>exact⟨⟨rfl,rfl,rfl⟩,_,_,rfl,.cons ⟨rfl,rfl,⟨_,rfl⟩⟩ (.cons ⟨rfl,rfl,⟨_,rfl⟩⟩ (.cons ⟨rfl,rfl,⟨_,rfl⟩⟩ (.cons ⟨rfl,rfl,⟨_,rfl⟩⟩ (.cons ⟨rfl,rfl,⟨_,rfl⟩⟩ (.cons ⟨rfl,rfl,⟨_,rfl⟩⟩ (.cons ⟨rfl,rfl,⟨_,rfl⟩⟩ (.cons ⟨rfl,rfl,⟨_,rfl⟩⟩ (.cons ⟨rfl,rfl,⟨_,rfl⟩⟩ (.cons ⟨rfl,rfl,⟨_,rfl⟩⟩ (.cons ⟨rfl,rfl,⟨_,rfl⟩⟩ (.cons ⟨rfl,rfl,⟨_,rfl⟩⟩ (.cons ⟨rfl,rfl,⟨_,rfl⟩⟩ (.cons ⟨rfl,rfl,⟨_,rfl⟩⟩ (.cons ⟨rfl,rfl,⟨_,rfl⟩⟩ (.cons ⟨rfl,rfl,⟨_,rfl⟩⟩ (.cons ⟨rfl,rfl,⟨_,rfl⟩⟩ (.cons ⟨rfl,rfl,⟨_,rfl⟩⟩ (.cons ⟨rfl,rfl,⟨_,rfl⟩⟩ (.cons ⟨rfl,rfl,⟨_,rfl⟩⟩ (.cons ⟨rfl,rfl,⟨_,rfl⟩⟩ (.nil))))))))))))))))))))),by decide⟩)
  (case n_LENGTHS=>decide)
  (case g_PART_PLACES=>k_is)
  (case h_PART_PLACES=>k_is)
  (case r_PART_PLACES=>exact⟨[(Sum.inr (Str.ofString "op"),L2.V.ref _),(Sum.inr (Str.ofString "neg"),L2.V.ref _),(Sum.inr (Str.ofString "if"),L2.V.ref _),(Sum.inr (Str.ofString "sum"),L2.V.ref _),(Sum.inr (Str.ofString "count"),L2.V.ref _),(Sum.inr (Str.ofString "least"),L2.V.ref _),(Sum.inr (Str.ofString "most"),L2.V.ref _),(Sum.inr (Str.ofString "sumif"),L2.V.ref _),(Sum.inr (Str.ofString "find"),L2.V.ref _),(Sum.inr (Str.ofString "turn"),L2.V.ref _),(Sum.inr (Str.ofString "stack"),L2.V.ref _),(Sum.inr (Str.ofString "grid"),L2.V.ref _),(Sum.inr (Str.ofString "outer"),L2.V.ref _)],⟨⟨rfl,rfl,rfl⟩,_,_,rfl,.cons ⟨rfl,rfl,rfl⟩ (.cons ⟨rfl,rfl,rfl⟩ (.cons ⟨rfl,rfl,rfl⟩ (.cons ⟨rfl,rfl,rfl⟩ (.cons ⟨rfl,rfl,rfl⟩ (.cons ⟨rfl,rfl,rfl⟩ (.cons ⟨rfl,rfl,rfl⟩ (.cons ⟨rfl,rfl,rfl⟩ (.cons ⟨rfl,rfl,rfl⟩ (.cons ⟨rfl,rfl,rfl⟩ (.cons ⟨rfl,rfl,rfl⟩ (.cons ⟨rfl,rfl,rfl⟩ (.cons ⟨rfl,rfl,rfl⟩ (.nil))))))))))))),by decide⟩,.cons ⟨rfl,_,rfl,fun _=>.inr ⟨_,_,_,(by k_is),rfl,rfl,by decide,.cons ⟨_,rfl⟩ (.cons ⟨_,rfl⟩ (.nil))⟩⟩ (.cons ⟨rfl,_,rfl,fun _=>.inr ⟨_,_,_,(by k_is),rfl,rfl,by decide,.cons ⟨_,rfl⟩ (.nil)⟩⟩ (.cons ⟨rfl,_,rfl,fun _=>.inr ⟨_,_,_,(by k_is),rfl,rfl,by decide,.cons ⟨_,rfl⟩ (.cons ⟨_,rfl⟩ (.cons ⟨_,rfl⟩ (.nil)))⟩⟩ (.cons ⟨rfl,_,rfl,fun _=>.inr ⟨_,_,_,(by k_is),rfl,rfl,by decide,.cons ⟨_,rfl⟩ (.nil)⟩⟩ (.cons ⟨rfl,_,rfl,fun _=>.inr ⟨_,_,_,(by k_is),rfl,rfl,by decide,.cons ⟨_,rfl⟩ (.nil)⟩⟩ (.cons ⟨rfl,_,rfl,fun _=>.inr ⟨_,_,_,(by k_is),rfl,rfl,by decide,.cons ⟨_,rfl⟩ (.nil)⟩⟩ (.cons ⟨rfl,_,rfl,fun _=>.inr ⟨_,_,_,(by k_is),rfl,rfl,by decide,.cons ⟨_,rfl⟩ (.nil)⟩⟩ (.cons ⟨rfl,_,rfl,fun _=>.inr ⟨_,_,_,(by k_is),rfl,rfl,by decide,.cons ⟨_,rfl⟩ (.cons ⟨_,rfl⟩ (.cons ⟨_,rfl⟩ (.nil)))⟩⟩ (.cons ⟨rfl,_,rfl,fun _=>.inr ⟨_,_,_,(by k_is),rfl,rfl,by decide,.cons ⟨_,rfl⟩ (.cons ⟨_,rfl⟩ (.cons ⟨_,rfl⟩ (.nil)))⟩⟩ (.cons ⟨rfl,_,rfl,fun _=>.inr ⟨_,_,_,(by k_is),rfl,rfl,by decide,.cons ⟨_,rfl⟩ (.nil)⟩⟩ (.cons ⟨rfl,_,rfl,fun _=>.inr ⟨_,_,_,(by k_is),rfl,rfl,by decide,.cons ⟨_,rfl⟩ (.cons ⟨_,rfl⟩ (.nil))⟩⟩ (.cons ⟨rfl,_,rfl,fun _=>.inr ⟨_,_,_,(by k_is),rfl,rfl,by decide,.cons ⟨_,rfl⟩ (.cons ⟨_,rfl⟩ (.nil))⟩⟩ (.cons ⟨rfl,_,rfl,fun _=>.inr ⟨_,_,_,(by k_is),rfl,rfl,by decide,.cons ⟨_,rfl⟩ (.nil)⟩⟩ (.nil)))))))))))))⟩)
  (case n_PART_PLACES=>decide)
  (case g_MOST_SHEETS=>k_is)
  (case r_MOST_SHEETS=>first | exact⟨_,rfl⟩ | exact⟨_,by decide +kernel⟩)
  (case g_MOST_CELLS=>k_is)
  (case r_MOST_CELLS=>first | exact⟨_,rfl⟩ | exact⟨_,by decide +kernel⟩)
  (case g_MOST_NAMES=>k_is)
  (case r_MOST_NAMES=>first | exact⟨_,rfl⟩ | exact⟨_,by decide +kernel⟩)
  (case g_MOST_OWNS=>k_is)
  (case r_MOST_OWNS=>first | exact⟨_,rfl⟩ | exact⟨_,by decide +kernel⟩)
  (case g_MOST_ROUNDS=>k_is)
  (case r_MOST_ROUNDS=>first | exact⟨_,rfl⟩ | exact⟨_,by decide +kernel⟩)
  (case ki_NoneType_int=>kit_is)
  (case ki_NoneType_bool=>kit_is)
  (case ki_NoneType_str=>kit_is)
  (case ki_NoneType_tuple=>kit_is)
  (case ki_bool_int=>kit_is)
  (case ki_bool_bool=>kit_is)
  (case ki_bool_str=>kit_is)
  (case ki_bool_tuple=>kit_is)
  (case ki_int_int=>kit_is)
  (case ki_int_bool=>kit_is)
  (case ki_int_str=>kit_is)
  (case ki_int_tuple=>kit_is)
  (case ki_str_int=>kit_is)
  (case ki_str_bool=>kit_is)
  (case ki_str_str=>kit_is)
  (case ki_str_tuple=>kit_is)
  (case ki_list_int=>kit_is)
  (case ki_list_bool=>kit_is)
  (case ki_list_str=>kit_is)
  (case ki_list_tuple=>kit_is)
  (case ki_dict_int=>kit_is)
  (case ki_dict_bool=>kit_is)
  (case ki_dict_str=>kit_is)
  (case ki_dict_tuple=>kit_is)
  (case ki_tuple_int=>kit_is)
  (case ki_tuple_bool=>kit_is)
  (case ki_tuple_str=>kit_is)
  (case ki_tuple_tuple=>kit_is)
  (case kist=>kit_is)
  (case kiit=>kit_is)
  (case kib=>kit_is)
  (case ki_tuple_list=>kit_is)
  (case t_sorted_by_first=>exact(show PySem.W.tabIn _ _=some (325,321)by kernel_rfl))
  (case rr_sorted_by_first=>decide +kernel)
