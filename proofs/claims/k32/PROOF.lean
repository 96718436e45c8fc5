import PyProof.Rows.All
import Wide.All
import OpenK.AllK
import Wide.FinOn
import Lean
import PyProof.EqAt
import PyProof.EqKinds
import PyProof.TupleCall
import PySem.Challenge.RW_freshsheet_k32_sums_counts_ends
set_option Elab.async false
set_option linter.all false
set_option maxRecDepth 100000
set_option maxHeartbeats 4000000
namespace Hw
open PySem PySem.W PyProof.Rows PySem.Calls
def topRunT (tb:String→Option Builtin)(p:Program)(w:World)(n₀:Nat)(ann:Option Value):Nat→SharedT→Thread→Option SharedT
  | 0,_,_=>none
  | n+1,s,t=>match through t with
    | true=>some s
    | false=>match stepOk n₀ ann t with
      | false=>none
      | true=>match stepT (denote tb) p w s t with
        | some (s',t')=>topRunT tb p w n₀ ann n s' t'
        | none=>none
theorem topRun_ofT {tb:String→Option Builtin}{p:Program}{w:World}{n₀:Nat}{ann:Option Value}:∀ {n:Nat} {s s':SharedT} {t:Thread},topRunT tb p w n₀ ann n s t=some s'→topRun tb p w n₀ ann n s.abs t=some s'.abs
  | 0,_,_,_,h=>by cases h
  | n+1,s,s',t,h=>by
    unfold topRunT at h
    unfold topRun
    cases he:through t with
    | true=>rw [he] at h;cases h;rfl
    | false=>
      rw [he] at h
      cases hk:stepOk n₀ ann t with
      | false=>rw [hk] at h;cases h
      | true=>
        rw [hk] at h
        cases hs:stepT (denote tb) p w s t with
        | none=>rw [hs] at h;cases h
        | some r=>obtain ⟨s₂,t₂⟩:=r;rw [hs] at h;rw [stepT_spec hs];exact topRun_ofT h
def toBT:List Obj→Nat→BT→BT
  | [],_,t=>t
  | o::r,n,t=>toBT r (n+1) (t.ins n o)
noncomputable def bootT (P:Params):BT:=toBT (boot_heap P).objs.toList 0 .nil
noncomputable def bootS (w:World)(os:OsState):SharedT:=⟨bootT w.params,(boot_heap w.params).objs.size,(boot_heap w.params).life,Array.mk [],boot_drawn,boot_toks,os⟩
theorem bootT_abs (P:Params):absHeap (bootT P) (boot_heap P).objs.size (boot_heap P).life=boot_heap P:=by kernel_rfl
theorem boot_size (w:World):((boot_heap w.params).isNs mainGlobals&&(Array.mk []:Array GenState).size==0,(boot_heap w.params).objs.size,(boot_heap w.params).nsMap mainGlobals "__annotations__")=(true,11,some (.ref 6)):=by kernel_rfl
noncomputable def tops (p:Program)(N:Nat)(w:World)(os:OsState):Option SharedT:=topRunT treeTable p w 11 (some (.ref 6)) N (bootS w os) (topStub p)
def look1 (p:Program)(h:Heap)(s:Shared):Bool:=staticsOk (importedModules p.main.body) h s.heap&&namesBound p s.heap&&gensDone s&&laidKept h s.heap
def look3 (q:Program)(loose mods:List Str)(Xt:Shared→Bool)(g0:Bool)(s:Shared):Bool:=(openSeen q loose mods Xt g0 s).2.2.1
theorem left_whole {p q:Program}{loose:List Str}{Xt:Shared→Bool}{α:Type}{Yf:Shared→α}{Ya:World→α}{N:Nat}{g0:Bool}
    (e:opening p=plainProg p.main.scope.names) (hN:Nat.ble 600 N=true) (f:∀ s,fenceModules? p s=some s)
    (run1:∀ (w:World) (os:OsState),(tops p N w os).map (fun s=>(look1 p (boot_heap w.params) s.abs,s.abs.heap.bltView,tabsOk q s.abs))=some (true,bltViewBooted,true))
    (run2:∀ (w:World) (os:OsState),(tops p N w os).map (fun s=>seen ((recsOf q).map (·.name)) (ownsOf q) [] { s.abs with gens:=#[] })=some (expectedOf q))
    (run3:∀ (w:World) (os:OsState),(tops p N w os).map (fun s=>look3 q loose (importedModules p.main.body) Xt g0 s.abs)=some true)
    (run4:∀ (w:World) (os:OsState),(tops p N w os).map (fun s=>(pinSeenD q (drecsOf q) s.abs,plainSeenE q (looseW q loose) s.abs,plainSeenD q loose s.abs,wideSeen q s.abs,clsSeenW q loose s.abs))=some (pinGoodD (drecsOf q),plainGoodE q (looseW q loose),plainGoodD q loose,wideGood q,clsGoodW q loose))
    (run5:∀ (w:World) (os:OsState),(tops p N w os).map (fun s=>Yf s.abs)=some (Ya w)):LeftO p q loose Xt Yf Ya N g0:=fun w=>by
  obtain ⟨⟨h,gs,d,k,os⟩,e1,e'⟩:=Option.map_eq_some_iff.mp (boot_open e hN f w)
  obtain ⟨rfl,rfl,rfl,rfl⟩:h=boot_heap w.params∧gs=Array.mk []∧d=boot_drawn∧k=boot_toks:=by simpa using e'
  obtain ⟨z1,z2,z3⟩:_∧_∧_:=by simpa only [Prod.mk.injEq] using boot_size w
  obtain ⟨s',hs,l1⟩:=Option.map_eq_some_iff.mp (run1 w os)
  have l2:=run2 w os
  have l3:=run3 w os
  have l4:=run4 w os
  have l5:=run5 w os
  rw [hs] at l2 l3 l4 l5
  replace l2:=Option.some.inj l2
  replace l3:=Option.some.inj l3
  replace l4:=Option.some.inj l4
  replace l5:=Option.some.inj l5
  dsimp only at l1 l2 l3 l4 l5
  obtain ⟨l1,l6,l7⟩:_∧_∧_:=by simpa only [Prod.mk.injEq] using l1
  have l8:openSeen q loose (importedModules p.main.body) Xt g0 s'.abs=openGood q loose:=Prod.ext l2 (Prod.ext l6 (Prod.ext l3 (Prod.ext l7 l4)))
  have r:=topRun_ofT hs
  have hb:(bootS w os).abs=⟨boot_heap w.params,Array.mk [],boot_drawn,boot_toks,os⟩:=by
    show Shared.mk _ _ _ _ _=_
    rw [show absHeap (bootS w os).tree (bootS w os).n (bootS w os).life=boot_heap w.params from bootT_abs w.params]
    rfl
  rw [hb] at r
  have t:topFrom treeTable p w N ⟨boot_heap w.params,Array.mk [],boot_drawn,boot_toks,os⟩=some s'.abs:=by
    unfold topFrom
    dsimp only
    rw [z1,z2,z3,r]
    show (match look1 p (boot_heap w.params) s'.abs with | true=>some s'.abs | false=>none)=_
    rw [l1]
  unfold openEnds
  rw [e1]
  show (topFrom treeTable p w N _).map _=_
  rw [t]
  exact congrArg some (Prod.ext l8 l5)
end Hw
namespace Hw
open PySem PySem.W PyProof.Rows PySem.Calls
abbrev pw:=PySem.Challenge.pw_freshsheet_k32_sums_counts_ends
abbrev lw:=PySem.Challenge.rw_freshsheet_k32_sums_counts_ends
section
local macro_rules | `(tactic| o_head $H)=>do let f:=Lean.mkIdent `foo;`(tactic| exact $f $H)
theorem pack (foo:PySem.W.Hook→(OpenLaw.row lw).Holds):(OpenLaw.row lw).Holds:=by k_head
end
def hAs:List Addr:=[2,3,15,22,23,24,25,28,35,36,37,40,42,43,45,46,47,49,50,52,53,54,56,57,59,60,61,63,64,66,67,68,70,71,73,74,75,77,78,80,81,82,84,85,87,88,89,91,92,94,95,96,98,99,101,102,103,105,106,108,109,110,112,113,115,116,117,119,120,122,123,124,126,127,129,130,131,134,135,136,138,139,141,142,143,145,146,148,149,150,151,153,154,156,157,158,160,161,163,164,165,167,168,170,171,172,174,175,177,178,179,181,182,184,185,186,188,189,191,192,193,195,196,198,199,200,202,203,205,206,207,209,210,212,213,214,216,217,219,220,221,223,224,226,227,228,231,232,233,236,237,238,240,241,243,244,245,248,249,250,252,253,255,256,257,259,260,262,263,264,266,267,269,270,271,273,274,276,277,278,280,281,283,284,285,287,288,290,291,292,294,295,297,298,299,301,302,304,305,306,307,308,309,310,311,312,313,314,315,316,317,318,319,320,323,324,325,327,328,330,331,332,334,335,337,338,339,341,342,344,345,346,347,349,350,352,353,354,356,357,359,360,361,364,365,366,368,369,371,372,373,376,377,378,380,381,383,384,385,388,389,390,392,393,395,396,397,399,400,402,403,404,406,407,409,410,411,413,414,416,417,418,420,421,423,424,425,427,428,430,431,432,434,435,437,438,439,441,442,444,445,446,448,449,451,452,453,455,456,458,459,460,462,463,465,466,467,470,471,472,474,475,477,478,479,481,482,484,485,486,489,490,491,494,495,496,498,499,501,502,503,505,506,508,509,510,513,514]
theorem hAs_eq:∀ P,hAs=(pack.heap_1 P).map (·.1):=fun _=>by kernel_rfl
def qv:Program:=view pw [1,2,4,5,6,7,8,9,10,11,12,14,15,16,18,19,20,21,22,23,24,25,27,28,29,30,31,32,33,35,36,37,38,39,40,41,43,44,45,46,47,48,49,50,51,52,54,55,56,57,58,60,61,62,64,65,66,67,68,69,70,71,72,74,75,76,77,78,79,80,81,82,83,84,85,86,87,88]
def Xv:Shared→Bool:=fun s=>xlAt qv [] s&&recOk (RowW.records (OpenRow.toRowW (OpenLaw.row lw))) s
abbrev N0:Nat:=4000
abbrev lo:List PySem.Str:=[PySem.Str.ofString "PART_PLACES"]
noncomputable def lhs1 (w:World)(os:OsState):=(tops pw N0 w os).map (fun s=>(look1 pw (boot_heap w.params) s.abs,s.abs.heap.bltView,tabsOk qv s.abs))
theorem lhs1_self:lhs1=lhs1:=rfl
name_quick hw1 for Hw.lhs1 by Hw.lhs1_self
set_option maxHeartbeats 0 in
theorem run1f:∀ (w:World) (os:OsState),PySem.W.Fast.hw1 (w.withFollow "special-get-raises" false) os=some (true,bltViewBooted,true):=by
  intro w os
  kernel_rfl
set_option maxHeartbeats 0 in
theorem run1t:∀ (w:World) (os:OsState),PySem.W.Fast.hw1 (w.withFollow "special-get-raises" true) os=some (true,bltViewBooted,true):=by
  intro w os
  kernel_rfl
theorem run1:∀ w os,PySem.W.Fast.hw1 w os=some (true,bltViewBooted,true):=fun w=>PySem.W.byRow2 "special-get-raises" (P:=fun w=>∀ os,PySem.W.Fast.hw1 w os=some (true,bltViewBooted,true)) run1f run1t w
noncomputable def lhs2 (w:World)(os:OsState):=(tops pw N0 w os).map (fun s=>seen ((recsOf qv).map (·.name)) (ownsOf qv) [] { s.abs with gens:=#[] })
theorem lhs2_self:lhs2=lhs2:=rfl
name_quick hw2 for Hw.lhs2 by Hw.lhs2_self
noncomputable def rhs2:=expectedOf qv
theorem rhs2_self:rhs2=rhs2:=rfl
name_quick hg2 for Hw.rhs2 by Hw.rhs2_self
set_option maxHeartbeats 0 in
theorem run2f:∀ (w:World) (os:OsState),PySem.W.Fast.hw2 (w.withFollow "special-get-raises" false) os=some (PySem.W.Fast.hg2):=by
  intro w os
  kernel_rfl
set_option maxHeartbeats 0 in
theorem run2t:∀ (w:World) (os:OsState),PySem.W.Fast.hw2 (w.withFollow "special-get-raises" true) os=some (PySem.W.Fast.hg2):=by
  intro w os
  kernel_rfl
theorem run2:∀ w os,PySem.W.Fast.hw2 w os=some (PySem.W.Fast.hg2):=fun w=>PySem.W.byRow2 "special-get-raises" (P:=fun w=>∀ os,PySem.W.Fast.hw2 w os=some (PySem.W.Fast.hg2)) run2f run2t w
noncomputable def lhs3 (w:World)(os:OsState):=(tops pw N0 w os).map (fun s=>look3 qv lo (importedModules pw.main.body) Xv true s.abs)
theorem lhs3_self:lhs3=lhs3:=rfl
name_quick hw3 for Hw.lhs3 by Hw.lhs3_self
set_option maxHeartbeats 0 in
theorem run3f:∀ (w:World) (os:OsState),PySem.W.Fast.hw3 (w.withFollow "special-get-raises" false) os=some (true):=by
  intro w os
  kernel_rfl
set_option maxHeartbeats 0 in
theorem run3t:∀ (w:World) (os:OsState),PySem.W.Fast.hw3 (w.withFollow "special-get-raises" true) os=some (true):=by
  intro w os
  kernel_rfl
theorem run3:∀ w os,PySem.W.Fast.hw3 w os=some (true):=fun w=>PySem.W.byRow2 "special-get-raises" (P:=fun w=>∀ os,PySem.W.Fast.hw3 w os=some (true)) run3f run3t w
noncomputable def lhs4 (w:World)(os:OsState):=(tops pw N0 w os).map (fun s=>(pinSeenD qv (drecsOf qv) s.abs,plainSeenE qv (looseW qv lo) s.abs,plainSeenD qv lo s.abs,wideSeen qv s.abs,clsSeenW qv lo s.abs))
theorem lhs4_self:lhs4=lhs4:=rfl
name_quick hw4 for Hw.lhs4 by Hw.lhs4_self
noncomputable def rhs4:=(pinGoodD (drecsOf qv),plainGoodE qv (looseW qv lo),plainGoodD qv lo,wideGood qv,clsGoodW qv lo)
theorem rhs4_self:rhs4=rhs4:=rfl
name_quick hg4 for Hw.rhs4 by Hw.rhs4_self
set_option maxHeartbeats 0 in
theorem run4f:∀ (w:World) (os:OsState),PySem.W.Fast.hw4 (w.withFollow "special-get-raises" false) os=some (PySem.W.Fast.hg4):=by
  intro w os
  kernel_rfl
set_option maxHeartbeats 0 in
theorem run4t:∀ (w:World) (os:OsState),PySem.W.Fast.hw4 (w.withFollow "special-get-raises" true) os=some (PySem.W.Fast.hg4):=by
  intro w os
  kernel_rfl
theorem run4:∀ w os,PySem.W.Fast.hw4 w os=some (PySem.W.Fast.hg4):=fun w=>PySem.W.byRow2 "special-get-raises" (P:=fun w=>∀ os,PySem.W.Fast.hw4 w os=some (PySem.W.Fast.hg4)) run4f run4t w
noncomputable def lhs5 (w:World)(os:OsState):=(tops pw N0 w os).map (fun s=>hAs.map s.abs.heap.get?)
theorem lhs5_self:lhs5=lhs5:=rfl
name_quick hw5 for Hw.lhs5 by Hw.lhs5_self
set_option maxHeartbeats 0 in
theorem run5f:∀ (w:World) (os:OsState),PySem.W.Fast.hw5 (w.withFollow "special-get-raises" false) os=some ((pack.heap_1 (w.withFollow "special-get-raises" false).params).map fun p=>some p.2):=by
  intro w os
  kernel_rfl
set_option maxHeartbeats 0 in
theorem run5t:∀ (w:World) (os:OsState),PySem.W.Fast.hw5 (w.withFollow "special-get-raises" true) os=some ((pack.heap_1 (w.withFollow "special-get-raises" true).params).map fun p=>some p.2):=by
  intro w os
  kernel_rfl
theorem run5:∀ w os,PySem.W.Fast.hw5 w os=some ((pack.heap_1 w.params).map fun p=>some p.2):=fun w=>PySem.W.byRow2 "special-get-raises" (P:=fun w=>∀ os,PySem.W.Fast.hw5 w os=some ((pack.heap_1 w.params).map fun p=>some p.2)) run5f run5t w
theorem q_open:opening pw=plainProg pw.main.scope.names:=by kernel_rfl
theorem q_fence:∀ s,fenceModules? pw s=some s:=fun s=>by kernel_rfl
theorem left:LeftO pw qv lo Xv (Hook.obs (kHook pack.heap_1 hAs hAs_eq)) (Hook.val (kHook pack.heap_1 hAs hAs_eq)) N0 true:=
  left_whole q_open rfl q_fence (fun w os=>(congrFun (congrFun PySem.W.Fast.hw1_eq w) os).trans (run1 w os))
    (fun w os=>((congrFun (congrFun PySem.W.Fast.hw2_eq w) os).trans (run2 w os)).trans (congrArg some PySem.W.Fast.hg2_eq.symm))
    (fun w os=>(congrFun (congrFun PySem.W.Fast.hw3_eq w) os).trans (run3 w os))
    (fun w os=>((congrFun (congrFun PySem.W.Fast.hw4_eq w) os).trans (run4 w os)).trans (congrArg some PySem.W.Fast.hg4_eq.symm))
    (fun w os=>(congrFun (congrFun PySem.W.Fast.hw5_eq w) os).trans (run5 w os))
end Hw
set_option Elab.async false
set_option linter.all false
set_option maxRecDepth 100000
namespace L2
open PySem PySem.Spec PyProof.Rows
abbrev Key:=Sum Int Str
def keyIs:Key→Value→Bool
  | .inl k,v=>Value.isInt k v
  | .inr x,v=>Value.isStrOf x v
def keyH (w:World):Key→Int
  | .inl k=>hashInt k
  | .inr x=>hashStr w x
theorem keyIs_shape:∀ {k:Key} {v:Value},keyIs k v=true→(∃ i t,k=Sum.inl i∧v=Value.int i t)∨(∃ x t,k=Sum.inr x∧v=Value.str x t)
  | .inl i,v,h=>by
    obtain ⟨t,e⟩:=Value.isInt_shape (k:=i) (v:=v) h
    exact .inl ⟨i,t,rfl,e⟩
  | .inr x,v,h=>by
    obtain ⟨t,e⟩:=Value.isStrOf_shape (x:=x) (v:=v) h
    exact .inr ⟨x,t,rfl,e⟩
theorem keyIs_int (i:Int)(t:Tok):keyIs (.inl i) (.int i t)=true:=by simp [keyIs,Value.isInt]
theorem keyIs_str (x:Str)(t:Tok):keyIs (.inr x) (.str x t)=true:=by simp [keyIs,Value.isStrOf]
theorem key_ll (a b:Int):decide ((Sum.inl a:Key)=Sum.inl b)=(a==b):=by
  by_cases e:a=b
  · subst e;simp
  · have h:¬ (Sum.inl a:Key)=Sum.inl b:=fun q=>e (Sum.inl.inj q)
    rw [decide_eq_false h]
    exact (beq_eq_false_iff_ne.mpr e).symm
theorem key_rr (a b:Str):decide ((Sum.inr a:Key)=Sum.inr b)=decide (a=b):=by
  by_cases e:a=b
  · subst e;simp
  · have h:¬ (Sum.inr a:Key)=Sum.inr b:=fun q=>e (Sum.inr.inj q)
    rw [decide_eq_false h,decide_eq_false e]
theorem key_lr (a:Int)(b:Str):decide ((Sum.inl a:Key)=Sum.inr b)=false:=decide_eq_false (fun q=>nomatch q)
theorem key_rl (a:Str)(b:Int):decide ((Sum.inr a:Key)=Sum.inl b)=false:=decide_eq_false (fun q=>nomatch q)
def mixKind (prog:Program)(w:World):PySem.KeyKind prog w Key where
  is:=keyIs
  hash:=keyH w
  inj:=fun v a b ha hb=>by
    rcases keyIs_shape ha with ⟨i,t,rfl,rfl⟩ | ⟨x,t,rfl,rfl⟩
    · rcases keyIs_shape hb with ⟨j,u,rfl,e⟩ | ⟨y,u,rfl,e⟩
      · injection e with e1 _;rw [e1]
      · exact nomatch e
    · rcases keyIs_shape hb with ⟨j,u,rfl,e⟩ | ⟨y,u,rfl,e⟩
      · exact nomatch e
      · injection e with e1 _;rw [e1]
  byValue:=fun k v h=>by
    rcases keyIs_shape h with ⟨i,t,rfl,rfl⟩ | ⟨x,t,rfl,rfl⟩ <;> rfl
  pyHash:=fun hv h=>by
    rcases keyIs_shape hv with ⟨i,t,rfl,rfl⟩ | ⟨x,t,rfl,rfl⟩
    · exact wpAny_pyHash_int h
    · exact wpAny_pyHash_str h
  eqBool:=fun hu hv h=>by
    rcases keyIs_shape hu with ⟨i,t,rfl,rfl⟩ | ⟨x,t,rfl,rfl⟩
    · rcases keyIs_shape hv with ⟨j,u,rfl,rfl⟩ | ⟨y,u,rfl,rfl⟩
      · rw [key_ll] at h;exact wpAny_eqBool_int h
      · rw [key_lr] at h;exact SeqAt.EqAt.int_str i t y u _ _ _ _ h
    · rcases keyIs_shape hv with ⟨j,u,rfl,rfl⟩ | ⟨y,u,rfl,rfl⟩
      · rw [key_rl] at h;exact SeqAt.EqAt.str_int x t j u _ _ _ _ h
      · rw [key_rr] at h;exact wpAny_eqBool_str h
  «strs»:=fun k x t v h=>by
    rcases keyIs_shape h with ⟨i,u,rfl,e⟩ | ⟨y,u,rfl,e⟩
    · exact nomatch e
    · injection e with e1 _
      subst e1
      cases v <;> rfl
theorem mixKind_int (prog:Program)(w:World)(i:Int)(t:Tok):(mixKind prog w).is (.inl i) (.int i t)=true:=keyIs_int i t
theorem mixKind_str (prog:Program)(w:World)(x:Str)(t:Tok):(mixKind prog w).is (.inr x) (.str x t)=true:=keyIs_str x t
end L2
namespace L2
open PySem PySem.Spec PyProof.Rows
inductive V where
  | non | bl (b:Bool) | int (i:Int) | str (x:Str) | byt (b:Array UInt8) | flt (b:UInt64) | ref (a:Addr) | ty (n:String)
  deriving DecidableEq
def RelV:V→Value→Prop
  | .non,u=>u=Value.none
  | .bl b,u=>u=Value.bool b
  | .int i,u=>∃ t,u=Value.int i t
  | .str x,u=>∃ t,u=Value.str x t
  | .byt b,u=>∃ t,u=Value.bytes b t
  | .flt b,u=>∃ t,u=Value.float b t
  | .ref a,u=>u=Value.ref a
  | .ty n,u=>u=Value.type n
abbrev Vals:List V→List Value→Prop:=Paired RelV
theorem Vals.length {xs:List V}{us:List Value}(r:Vals xs us):xs.length=us.length:=Paired.length r
theorem Vals.get:∀ {xs:List V} {us:List Value} {i:Nat} {x:V},Vals xs us→xs[i]?=some x→∃ u,us[i]?=some u∧RelV x u
  | _,_,_,_,.nil,e=>by simp at e
  | _,_,0,_,.cons r _,e=>by simp at e;subst e;exact ⟨_,rfl,r⟩
  | _,_,i+1,x,.cons _ t,e=>by
    obtain ⟨u,h1,h2⟩:=Vals.get (i:=i) (x:=x) t (by simpa using e)
    exact ⟨u,by simpa using h1,h2⟩
theorem Vals.set {x:V}{u:Value}(r:RelV x u):∀ {xs:List V} {us:List Value} (i:Nat),Vals xs us→Vals (xs.set i x) (us.set i u)
  | _,_,_,.nil=>.nil
  | _,_,0,.cons _ t=>.cons r t
  | _,_,i+1,.cons q t=>.cons q (Vals.set r i t)
theorem Vals.append:∀ {xs ys:List V} {us ws:List Value},Vals xs us→Vals ys ws→Vals (xs++ys) (us++ws)
  | _,_,_,_,.nil,s=>s
  | _,_,_,_,.cons r t,s=>.cons r (Vals.append t s)
theorem Vals.take:∀ {xs:List V} {us:List Value} (n:Nat),Vals xs us→Vals (xs.take n) (us.take n)
  | _,_,0,_=>.nil
  | _,_,_+1,.nil=>.nil
  | _,_,n+1,.cons r t=>.cons r (Vals.take n t)
theorem Vals.drop:∀ {xs:List V} {us:List Value} (n:Nat),Vals xs us→Vals (xs.drop n) (us.drop n)
  | _,_,0,r=>r
  | _,_,_+1,.nil=>.nil
  | _,_,n+1,.cons _ t=>Vals.drop n t
def RelO:Option V→Option Value→Prop
  | some v,some u=>RelV v u
  | none,none=>True
  | _,_=>False
def KV {κ:Type}:List (κ×V)→List (κ×Value)→Prop:=Paired fun (p:κ×V) (q:κ×Value)=>p.1=q.1∧RelV p.2 q.2
def kV:Key→V
  | .inl i=>.int i
  | .inr x=>.str x
inductive HO where
    | lst (xs:List V)
    | tup (xs:List V)
    | dK (kvs:List (Key×V)) | dT (kvs:List (List Key×V))
    | set (S:Int→Bool) (n:Nat)
    | ins (C dx:Addr) (fs:List (Str×V))
    | own (x:Addr)
    | xd (fs:List (Str×V))
    | met (f x:Addr)
    | rng (lo hi:Int)
    | frz (o:Obj) (u:HO)
    | tbl (ps:Array Value)
    | ext (φ:Heap→Prop)
abbrev Hp:=Addr→Option HO
def upd (H:Hp)(a:Addr)(o:HO):Hp:=fun b=>if b=a then some o else H b
theorem upd_same {H:Hp}{a:Addr}{o:HO}:upd H a o a=some o:=by unfold upd;rw [if_pos rfl]
theorem upd_ne {H:Hp}{a b:Addr}{o:HO}(h:b≠a):upd H a o b=H b:=by unfold upd;rw [if_neg h]
theorem upd_upd {H:Hp}{a:Addr}{o u:HO}:upd (upd H a o) a u=upd H a u:=by
  funext b;unfold upd;split <;> rfl
theorem ne_of {H:Hp}{a b:Addr}{o u:HO}(h:H a=some o)(h':H b=some u)(d:o≠u):a≠b:=by
  intro e;subst e;rw [h] at h';exact d (Option.some.inj h')
theorem ne_of_none {H:Hp}{a b:Addr}{o:HO}(h:H a=some o)(h':H b=none):a≠b:=by
  intro e;subst e;rw [h] at h';cases h'
section
variable (P:Program)(w:World)
def ObjOk (H:Hp)(h:Heap)(a:Addr):HO→Prop
  | .lst xs=>xs.length≤sizeLine∧∃ (its:List Value) (n:Nat),Vals xs its∧h.get? a=some { cls:=.type "list",data:=.seq its.toArray n }
  | .tup xs=>xs.length≤sizeLine∧∃ its:List Value,Vals xs its∧IsTup h a its.toArray
  | .dK kvs=>kvs.length≤sizeLine∧(a==sysModules)=false∧∃ vs,KV kvs vs∧h.DictOf (mixKind P w) a vs
  | .dT kvs=>kvs.length≤sizeLine∧(a==sysModules)=false∧∃ xs:List (List Key×Addr×Value),
      Paired (fun (p:List Key×V) (q:List Key×Addr×Value)=>p.1=q.1∧H q.2.1=some (.tup (p.1.map kV))∧RelV p.2 q.2.2) kvs xs∧
      ∃ o es ep,h.get? a=some o∧o.ExactDict∧o.data=.dict es ep∧es.toList=xs.map (entryOfKey (tupleKind (mixKind P w)))∧(xs.map (·.1)).Nodup
  | .set S n=>h.SetOf (intKind P w) a S n
  | .ins C dx fs=>H dx=some (.own a)∧fs.length≤1000∧dx≠a∧h.get? a=some (PySem.W.instObj C dx)∧
      ∃ mA,h.Ns1 dx mA∧(∀ f,RelO (fs.lookup f) (mA f))∧PySem.Within mA (fs.map (·.1))
  | .own _=>∃ o,h.get? a=some o
  | .xd fs=>∃ mA,h.Ns1 a mA∧∀ f,RelO (fs.lookup f) (mA f)
  | .rng lo hi=>∃ t u v,h.get? a=some { cls:=.type "range",data:=.fields #[.int lo t,.int hi u,.int 1 v] }
  | .frz o u=>h.get? a=some o∧ObjOk H h a u
  | .tbl ps=>h.get? a=some { cls:=.none,data:=.fields ps }
  | .met f x=>h.get? a=some (PySem.W.methodObj (.ref f) (.ref x))
  | .ext φ=>φ h∧(∃ o,h.get? a=some o)∧∀ h1 h2:Heap,φ h1→(∀ o,h1.get? a=some o→h2.get? a=some o)→φ h2
def HOk (H:Hp)(h:Heap):Prop:=∀ a o,H a=some o→ObjOk P w H h a o
end
section
variable {P:Program}{w:World}{H H':Hp}{h h':Heap}{a:Addr}{o:HO}
theorem ObjOk.lt (x:ObjOk P w H h a o):a<h.objs.size:=by
  cases o with
  | lst xs=>obtain ⟨_,_,_,_,e⟩:=x;exact Heap.lt_size e
  | tup xs=>obtain ⟨_,_,_,p⟩:=x;exact p.lt
  | dK kvs=>obtain ⟨_,_,_,_,o,_,_,e,_⟩:=x;exact Heap.lt_size e
  | dT kvs=>obtain ⟨_,_,_,_,o,_,_,e,_⟩:=x;exact Heap.lt_size e
  | set S n=>obtain ⟨o,_,_,_,e,_⟩:=x;exact Heap.lt_size e
  | ins C dx fs=>obtain ⟨_,_,_,e,_⟩:=x;exact Heap.lt_size e
  | own y=>obtain ⟨_,e⟩:=x;exact Heap.lt_size e
  | xd fs=>obtain ⟨_,⟨_,_,_,e,_⟩,_⟩:=x;exact Heap.lt_size e
  | rng lo hi=>obtain ⟨_,_,_,e⟩:=x;exact Heap.lt_size e
  | frz ob u=>obtain ⟨e,_⟩:=x;exact Heap.lt_size e
  | tbl ps=>exact Heap.lt_size (show h.get? a=some _ from x)
  | met f y=>exact Heap.lt_size (show h.get? a=some _ from x)
  | ext φ=>obtain ⟨_,⟨_,e⟩,_⟩:=x;exact Heap.lt_size e
theorem Paired.mapP {α β:Type}{F G:α→β→Prop}:∀ {l₁:List α} {l₂:List β},Paired F l₁ l₂→(∀ a b,F a b→G a b)→Paired G l₁ l₂
  | _,_,.nil,_=>.nil
  | _,_,.cons r t,f=>.cons (f _ _ r) (Paired.mapP t f)
theorem Paired.imp' {α β:Type}{F G:α→β→Prop}(f:∀ a b,F a b→G a b){l₁:List α}{l₂:List β}(r:Paired F l₁ l₂):Paired G l₁ l₂:=Paired.mapP r f
theorem ObjOk.stay (x:ObjOk P w H h a o)(k:∀ b u,(b=a∨H b=some (.own a))→h.get? b=some u→h'.get? b=some u)
    (ho:∀ b,H b=some (.own a)→H' b=some (.own a)) (ht:∀ b xs,H b=some (.tup xs)→H' b=some (.tup xs)):ObjOk P w H' h' a o:=by
  induction o with
  | lst xs=>obtain ⟨z,its,n,r,e⟩:=x;exact ⟨z,its,n,r,k _ _ (.inl rfl) e⟩
  | tup xs=>obtain ⟨z,its,r,ob,e,c⟩:=x;exact ⟨z,its,r,ob,k _ _ (.inl rfl) e,c⟩
  | dK kvs=>obtain ⟨z,y,vs,r,ob,es,ep,e,c⟩:=x;exact ⟨z,y,vs,r,ob,es,ep,k _ _ (.inl rfl) e,c⟩
  | dT kvs=>
    obtain ⟨z,y,xs,r,ob,es,ep,e,c⟩:=x
    exact ⟨z,y,xs,Paired.mapP r fun p q z=>⟨z.1,ht _ _ z.2.1,z.2.2⟩,ob,es,ep,k _ _ (.inl rfl) e,c⟩
  | set S n=>obtain ⟨ob,es,ep,t,e,c⟩:=x;exact ⟨ob,es,ep,t,k _ _ (.inl rfl) e,c⟩
  | ins C dx fs=>
    obtain ⟨d,z,ne,e,mA,⟨od,es,ep,e2,c⟩,r⟩:=x
    exact ⟨ho _ d,z,ne,k _ _ (.inl rfl) e,mA,⟨od,es,ep,k _ _ (.inr d) e2,c⟩,r⟩
  | own y=>obtain ⟨ob,e⟩:=x;exact ⟨ob,k _ _ (.inl rfl) e⟩
  | xd fs=>obtain ⟨mA,⟨od,es,ep,e,c⟩,r⟩:=x;exact ⟨mA,⟨od,es,ep,k _ _ (.inl rfl) e,c⟩,r⟩
  | rng lo hi=>obtain ⟨t,u,v,e⟩:=x;exact ⟨t,u,v,k _ _ (.inl rfl) e⟩
  | frz ob u ih=>obtain ⟨e,q⟩:=x;exact ⟨k _ _ (.inl rfl) e,ih q⟩
  | tbl ps=>
    have e:h.get? a=some { cls:=.none,data:=.fields ps }:=x
    show h'.get? a=some { cls:=.none,data:=.fields ps }
    exact k a _ (.inl rfl) e
  | met f y=>
    have e:h.get? a=some (PySem.W.methodObj (.ref f) (.ref y)):=x
    show h'.get? a=some (PySem.W.methodObj (.ref f) (.ref y))
    exact k a _ (.inl rfl) e
  | ext φ=>obtain ⟨p,⟨o,e⟩,st⟩:=x;exact ⟨st _ _ p fun o q=>k _ _ (.inl rfl) q,⟨o,k _ _ (.inl rfl) e⟩,st⟩
theorem HOk.lt (x:HOk P w H h)(e:H a=some o):a<h.objs.size:=(x a o e).lt
theorem HOk.fresh (x:HOk P w H h)(e:h.objs.size≤a):H a=none:=by
  cases q:H a with
  | none=>rfl
  | some u=>exact absurd (Nat.lt_of_lt_of_le (x.lt q) e) (Nat.lt_irrefl _)
theorem HOk.kept (x:HOk P w H h)(k:∀ b u,h.get? b=some u→h'.get? b=some u):HOk P w H h':=fun a o e=>
  (x a o e).stay (fun b u _ q=>k b u q) (fun _ q=>q) fun _ _ q=>q
theorem HOk.laid (x:HOk P w H h)(k:∀ b u,h.get? b=some u→h'.get? b=some u)(hp:h.objs.size≤a)(new:ObjOk P w (upd H a o) h' a o):HOk P w (upd H a o) h':=fun b u e=>by
  have hn:=x.fresh hp
  by_cases hb:b=a
  · subst hb;rw [upd_same] at e;cases e;exact new
  · rw [upd_ne hb] at e
    exact (x b u e).stay (fun c v _ q=>k c v q) (fun c q=>by rw [upd_ne (ne_of_none q hn)];exact q) fun c xs q=>by rw [upd_ne (ne_of_none q hn)];exact q
end
def Rd (H:Hp)(a:Addr)(u:HO):Prop:=H a=some u∨∃ o,H a=some (.frz o u)
theorem Rd.of {H:Hp}{a:Addr}{u:HO}(h:H a=some u):Rd H a u:=.inl h
theorem Rd.ok {P:Program}{w:World}{H:Hp}{h:Heap}{a:Addr}{u:HO}(r:Rd H a u)(x:HOk P w H h):ObjOk P w H h a u:=by
  rcases r with r | ⟨o,r⟩
  · exact x a u r
  · obtain ⟨_,q⟩:=x a _ r
    exact q
def Mut:Option HO→Prop
  | some (.lst _)=>True
  | some (.dK _)=>True
  | some (.dT _)=>True
  | some (.set _ _)=>True
  | some (.ins _ _ _)=>True
  | some (.ext _)=>True
  | _=>False
section
variable {P:Program}{w:World}{H:Hp}{h h':Heap}{x e:Addr}{o':HO}
theorem HOk.write (ok:HOk P w H h)(mu:Mut (H x))(he:e=x∨H e=some (.own x))(k:∀ b u,b≠e→h.get? b=some u→h'.get? b=some u)(heo:∃ u,h'.get? e=some u)
    (new:ObjOk P w (upd H x o') h' x o'):HOk P w (upd H x o') h':=fun b u q=>by
  have nown:∀ c y,H c=some (.own y)→c≠x:=fun c y r z=>by subst z;rw [r] at mu;exact mu
  have ntup:∀ c xs,H c=some (.tup xs)→c≠x:=fun c xs r z=>by subst z;rw [r] at mu;exact mu
  by_cases hb:b=x
  · subst hb;rw [upd_same] at q;cases q;exact new
  · rw [upd_ne hb] at q
    by_cases hbe:b=e
    · have q':H b=some (.own x):=by
        rcases he with z | z
        · exact absurd (hbe.trans z) hb
        · rw [hbe];exact z
      rw [q] at q';cases q'
      obtain ⟨v,hv⟩:=heo
      exact ⟨v,by rw [hbe];exact hv⟩
    · refine (ok b u q).stay (fun c v hc r=>k c v ?_ r) (fun c r=>by rw [upd_ne (nown c b r)];exact r) fun c xs r=>by rw [upd_ne (ntup c xs r)];exact r
      rcases hc with rfl | hc
      · exact hbe
      · rintro rfl
        rcases he with z | z
        · exact nown c b hc z
        · rw [hc] at z;cases z;exact hb rfl
end
structure Un (fs ex:List Addr)(H H':Hp)(h h':Heap):Prop where
  keep:∀ b o,h.get? b=some o→H b=none→b∉fs→b∉ex→h'.get? b=some o
  slot:∀ b o,h.get? b=some o→H b=none→b∈fs→b∉ex→∃ sl,h'.get? b=some { o with slots:=sl }
  free:∀ b o,h.get? b=some o→H b=none→b∉ex→H' b=none
  there:∀ b o,h.get? b=some o→b∉ex→∃ o',h'.get? b=some o'
  tups:∀ b xs,H b=some (.tup xs)→H' b=some (.tup xs)
  frzs:∀ b o u,H b=some (.frz o u)→H' b=some (.frz o u)
  tbls:∀ b ps,H b=some (.tbl ps)→∃ more,H' b=some (.tbl (ps++more))
section
variable {fs fs' ex ex':List Addr}{H H1 H2:Hp}{h h1 h2 h':Heap}{a x e:Addr}{o:HO}
theorem Un.any (u:Un fs ex H H1 h h1){b:Addr}{ob:Obj}(q:h.get? b=some ob)(n:H b=none)(hx:b∉ex):∃ sl,h1.get? b=some { ob with slots:=sl }:=by
  by_cases hb:b∈fs
  · exact u.slot b ob q n hb hx
  · exact ⟨ob.slots,u.keep b ob q n hb hx⟩
theorem Un.trans (a:Un fs ex H H1 h h1)(b:Un fs ex H1 H2 h1 h2):Un fs ex H H2 h h2 where
  keep:=fun c ob q n hc hx=>b.keep c ob (a.keep c ob q n hc hx) (a.free c ob q n hx) hc hx
  slot:=fun c ob q n hc hx=>by
    obtain ⟨sl,e1⟩:=a.slot c ob q n hc hx
    obtain ⟨sl',e2⟩:=b.slot c _ e1 (a.free c ob q n hx) hc hx
    exact ⟨sl',e2⟩
  free:=fun c ob q n hx=>by
    obtain ⟨o',e1⟩:=a.there c ob q hx
    exact b.free c o' e1 (a.free c ob q n hx) hx
  there:=fun c ob q hx=>by
    obtain ⟨o',e1⟩:=a.there c ob q hx
    exact b.there c o' e1 hx
  tups:=fun c xs q=>b.tups c xs (a.tups c xs q)
  frzs:=fun c ob xs q=>b.frzs c ob xs (a.frzs c ob xs q)
  tbls:=fun c ps q=>by
    obtain ⟨m1,e1⟩:=a.tbls c ps q
    obtain ⟨m2,e2⟩:=b.tbls c _ e1
    exact ⟨m1++m2,by rw [e2,Array.append_assoc]⟩
theorem Un.kept (k:∀ b u,h.get? b=some u→h'.get? b=some u):Un fs ex H H h h':=
  ⟨fun b ob q _ _ _=>k b ob q,fun b ob q _ _ _=>⟨ob.slots,k b ob q⟩,fun _ _ _ n _=>n,fun b ob q _=>⟨ob,k b ob q⟩,fun _ _ q=>q,fun _ _ _ q=>q,fun _ ps q=>⟨#[],by rw [q];simp⟩⟩
theorem Un.refl:Un fs ex H H h h:=Un.kept fun _ _ q=>q
theorem Un.laid (k:∀ b u,h.get? b=some u→h'.get? b=some u)(hp:h.objs.size≤a)(hn:H a=none):Un fs ex H (upd H a o) h h' where
  keep:=fun b u q _ _ _=>k b u q
  slot:=fun b u q _ _ _=>⟨u.slots,k b u q⟩
  free:=fun b u q n _=>by rw [upd_ne (Nat.ne_of_lt (Nat.lt_of_lt_of_le (Heap.lt_size q) hp))];exact n
  there:=fun b u q _=>⟨u,k b u q⟩
  tups:=fun b xs q=>by rw [upd_ne (ne_of_none q hn)];exact q
  frzs:=fun b u xs q=>by rw [upd_ne (ne_of_none q hn)];exact q
  tbls:=fun b ps q=>⟨#[],by rw [upd_ne (ne_of_none q hn),q];simp⟩
theorem Un.write (mu:Mut (H x))(he:e=x∨H e=some (.own x))(k:∀ b u,b≠e→h.get? b=some u→h'.get? b=some u)(heo:∃ u,h'.get? e=some u):Un fs ex H (upd H x o) h h':=by
  have hx:∀ b,H b=none→b≠x:=fun b n z=>by subst z;rw [n] at mu;exact mu
  have hb:∀ b,H b=none→b≠e:=fun b n z=>by
    subst z
    rcases he with r | r
    · exact hx b n r
    · rw [n] at r;cases r
  have hm:∀ b u,H b=some u→¬ Mut (some u)→b≠x:=fun b u q nm z=>by subst z;rw [q] at mu;exact nm mu
  refine ⟨fun b u q n _ _=>k b u (hb b n) q,fun b u q n _ _=>⟨u.slots,k b u (hb b n) q⟩,fun b u q n _=>by rw [upd_ne (hx b n)];exact n,fun b u q _=>?_,
    fun b xs q=>by rw [upd_ne (hm b _ q fun z=>z)];exact q,fun b u xs q=>by rw [upd_ne (hm b _ q fun z=>z)];exact q,fun b ps q=>⟨#[],by rw [upd_ne (hm b _ q fun z=>z),q];simp⟩⟩
  by_cases hbe:b=e
  · subst hbe;exact heo
  · exact ⟨u,k b u hbe q⟩
theorem Un.mono (u:Un fs ex H H1 h h1)(hs:∀ b∈fs,b∈fs')(hx:∀ b∈ex,b∈ex'):Un fs' ex' H H1 h h1:=
  ⟨fun b ob q n hb he=>u.keep b ob q n (fun z=>hb (hs b z)) fun z=>he (hx b z),fun _ _ q n _ he=>u.any q n fun z=>he (hx _ z),fun b ob q n he=>u.free b ob q n fun z=>he (hx b z),fun b ob q he=>u.there b ob q fun z=>he (hx b z),u.tups,u.frzs,u.tbls⟩
end
def trk (h:Heap)(H:Hp):List Addr:=(List.range h.objs.size).filter fun a=>(H a).isSome
def hidT (h:Heap)(H:Hp):Heap:=PySem.W.hideAll h (trk h H)
theorem hidT_size (h:Heap)(H:Hp):(hidT h H).objs.size=h.objs.size:=PySem.W.hideAll_size _ _
theorem hidT_get {h:Heap}{H:Hp}{b:Addr}{o:Obj}(e:h.get? b=some o)(n:H b=none):(hidT h H).get? b=some o:=
  PySem.W.hideAll_get _ e fun hm=>by
    have q:(H b).isSome=true:=(List.mem_filter.mp hm).2
    rw [n] at q;simp at q
theorem of_hidT {h:Heap}{H:Hp}{b:Addr}{o:Obj}(e:(hidT h H).get? b=some o):h.get? b=some o∧H b=none:=by
  have e':h.get? b=some o:=PySem.W.of_hideAll (trk h H) e
  refine ⟨e',?_⟩
  cases q:H b with
  | none=>rfl
  | some x=>
    have hm:b∈trk h H:=List.mem_filter.mpr ⟨List.mem_range.mpr (Heap.lt_size e'),by simp [q]⟩
    have z:(hidT h H).get? b=none:=PySem.W.hideAll_none (trk h H) hm
    rw [z] at e;cases e
def allNews (g h:Heap)(L:Addr):List (Addr×Obj):=(List.range h.objs.size).filterMap fun a=>if a=L∨(g.get? a).isSome=true then none else (h.get? a).map fun o=>(a,o)
def rest (g h:Heap)(L d:Addr):List (Addr×Obj):=(allNews g h L).filter fun p=>decide (p.1≠d)
end L2
namespace L2
open PySem PySem.Spec PyProof.Rows
structure Mod (K:PySem.W.Frag)(mg:Str→Option Value)(base:Heap):Prop where
  kin:K.In base
  glob:base.Ns mainGlobals mg
  blt:∃ mb,base.Ns builtinsNs mb∧∀ x:Str,x≠"__name__"→mb x=bootBuiltins x
  nolimit:base.NoLimit
structure Cx where
  prog:Program
  w:World
  K:PySem.W.Frag
  mg:Str→Option Value
  base:Heap
  A:Around
  N:List Str
  s₀:Shared
  H₀:Hp
  env:Env
  outer:List Env
  stack:List Env
  ex:List Addr
  fn:Str→Bool
  calm:Bool
  pn:List (Addr×Obj)
  xe:Value→Shared→Prop
def frs (l:List Env):List Addr:=l.filterMap (·.frame)
abbrev Cx.fs (X:Cx):List Addr:=frs X.outer
def Vis (sc:Scope)(x:Str):Prop:=sc.names.lookup x=some .local∨sc.names.lookup x=some .cell∨sc.names.lookup x=some .free
def Loc (sc:Scope)(x:Str):Prop:=sc.names.lookup x=some .local∨sc.names.lookup x=some .cell
def Look (env:Env)(h:Heap)(m:Str→Option Value)(x:Str)(u:Value):Prop:=
  (env.kindOf x=some .local∧m x=some u)∨((env.kindOf x=some .cell∨env.kindOf x=some .free)∧∃ c,env.cells.lookup x=some c∧h.IsCell c (some u))
structure Cx.Ok (X:Cx):Prop where
  mod:Mod X.K X.mg X.base
  kind:X.env.scope.kind=.function
  glob:X.env.globals=mainGlobals
  blt:X.env.builtins=builtinsNs
  above:X.s₀.heap.objs.size≤X.env.locals
  inj:∀ x y c,X.env.cells.lookup x=some c→X.env.cells.lookup y=some c→x=y
  has:∀ x,(X.env.kindOf x=some .cell∨X.env.kindOf x=some .free)→∃ c,X.env.cells.lookup x=some c
  cab:∀ x c,X.fn x=true→X.env.cells.lookup x=some c→X.s₀.heap.objs.size≤c
  hd:X.calm=true→X.A.handled=none
  frames:X.A.frames=some X.stack
  stk:X.stack=X.outer∨(X.stack=X.env::X.outer∧X.env.frame=some X.env.locals)
  exf:∀ b∈X.ex,b≠X.env.locals∧∀ x c,X.env.cells.lookup x=some c→c≠b
  bs:∀ b o,X.base.get? b=some o→X.s₀.heap.get? b=some o∧X.H₀ b=none
  bsz:X.base.objs.size≤X.s₀.heap.objs.size
  noex:∀ b o,X.base.get? b=some o→b∉X.ex
  exfs:∀ b∈X.ex,b∉X.fs
  funs:X.s₀.heap.FunFrames X.base X.outer
  frf:∀ b∈X.fs,X.H₀ b=none
structure Inv (X:Cx)(pins:List (Addr×Obj))(σ:List (Option V))(H:Hp)(s:Shared):Prop where
  ok:X.Ok
  os:s.os=X.s₀.os
  bare:AllBare s.gens
  base:Un X.fs X.ex X.H₀ H X.s₀.heap s.heap
  loc:∃ m,s.heap.Ns X.env.locals m∧∀ (i:Nat) (x:Str) (v:V),X.N[i]?=some x→σ[i]?=some (some v)→Vis X.env.scope x→∃ u,RelV v u∧Look X.env s.heap m x u
  cell:∀ x c,X.env.cells.lookup x=some c→∃ v,s.heap.IsCell c v
  free:H X.env.locals=none
  freeC:∀ x c,X.env.cells.lookup x=some c→H c=none
  pin:∀ p∈X.pn++pins,s.heap.get? p.1=some p.2∧H p.1=none∧p.1≠X.env.locals∧p.1∉X.fs∧∀ v,p.2.data≠.cell v
  hok:HOk X.prog X.w H s.heap
  len:σ.length=X.N.length
section
variable {X:Cx}{pins:List (Addr×Obj)}{σ:List (Option V)}{H H':Hp}{s:Shared}{h':Heap}
theorem Cx.Ok.nofr (ok:X.Ok){b:Addr}{o:Obj}(e:X.base.get? b=some o):b∉X.fs:=fun hb=>by
  have:=(ok.funs.mem hb).1
  rw [e] at this;cases this
theorem Inv.bs (I:Inv X pins σ H s):∀ b o,X.base.get? b=some o→s.heap.get? b=some o∧H b=none:=fun b o e=>
  ⟨I.base.keep b o (I.ok.bs b o e).1 (I.ok.bs b o e).2 (I.ok.nofr e) (I.ok.noex b o e),I.base.free b o (I.ok.bs b o e).1 (I.ok.bs b o e).2 (I.ok.noex b o e)⟩
theorem Inv.bk (I:Inv X pins σ H s):∀ b o,X.base.get? b=some o→s.heap.get? b=some o:=fun b o e=>(I.bs b o e).1
theorem Inv.mod (I:Inv X pins σ H s):Mod X.K X.mg X.base:=I.ok.mod
theorem Inv.kIn (I:Inv X pins σ H s):X.K.In s.heap:=I.ok.mod.kin.keeps I.bk
theorem Inv.nolimit (I:Inv X pins σ H s):s.heap.NoLimit:=I.ok.mod.nolimit.keeps I.bk
theorem Inv.fr (I:Inv X pins σ H s):∃ m,Fr X.base X.env.locals s.heap m:=
  let ⟨m,hn,_⟩:=I.loc
  ⟨m,hn,I.bk,Nat.le_trans I.ok.bsz I.ok.above⟩
theorem Inv.lt (I:Inv X pins σ H s):X.env.locals<s.heap.objs.size:=let ⟨_,hn,_⟩:=I.loc;hn.lt
theorem Inv.sz (I:Inv X pins σ H s):X.s₀.heap.objs.size≤s.heap.objs.size:=Nat.le_trans I.ok.above (Nat.le_of_lt I.lt)
theorem Inv.nofs (I:Inv X pins σ H s){a:Addr}(h:s.heap.objs.size≤a):a∉X.fs:=fun hb=>by
  obtain ⟨_,o,ho,_⟩:=I.ok.funs.mem hb
  exact absurd (Nat.lt_of_lt_of_le (Heap.lt_size ho) (Nat.le_trans I.sz h)) (Nat.lt_irrefl _)
theorem Inv.cne (I:Inv X pins σ H s):∀ x c,X.env.cells.lookup x=some c→c≠X.env.locals:=fun x c e z=>by
  obtain ⟨v,o,ho,hd⟩:=I.cell x c e
  obtain ⟨m,⟨o',es,ep,ho',hd',_⟩,_⟩:=I.loc
  rw [z,ho'] at ho;cases ho;rw [hd'] at hd;cases hd
theorem Inv.funs (I:Inv X pins σ H s):s.heap.FunFrames X.base X.outer:=by
  have all:∀ (l:List Env),(∀ b∈frs l,b∈X.fs)→X.s₀.heap.FunFrames X.base l→s.heap.FunFrames X.base l:=by
    intro l
    induction l with
    | nil=>intro _ _;trivial
    | cons env r ih=>
      intro hs hl
      obtain ⟨hk,⟨L,o,hf,hn,ho,hd⟩,hr⟩:=hl
      have hL:L∈X.fs:=hs L (by unfold frs;rw [List.filterMap_cons,hf];exact List.mem_cons_self)
      obtain ⟨sl,e⟩:=I.base.slot L o ho (I.ok.frf L hL) hL fun z=>I.ok.exfs L z hL
      exact ⟨hk,⟨L,_,hf,hn,e,hd⟩,ih (fun b hb=>hs b (by unfold frs;rw [List.filterMap_cons,hf];exact List.mem_cons_of_mem _ hb)) hr⟩
  exact all X.outer (fun _ hb=>hb) I.ok.funs
theorem Inv.stack (I:Inv X pins σ H s):s.heap.FunFrames X.base X.stack:=by
  rcases I.ok.stk with e | ⟨e,hf⟩
  · rw [e];exact I.funs
  · rw [e]
    obtain ⟨m,hn,_⟩:=I.loc
    refine .cons (by rw [I.ok.kind];decide) hf hn ?_ I.funs
    exact Heap.get?_none_of_le (Nat.le_trans I.ok.bsz I.ok.above)
theorem Inv.stkSub (I:Inv X pins σ H s):∀ b∈frs X.stack,b∈X.env.locals::X.fs:=fun b hb=>by
  rcases I.ok.stk with e | ⟨e,hf⟩
  · rw [e] at hb;exact List.mem_cons_of_mem _ hb
  · rw [e] at hb
    unfold frs at hb
    rw [List.filterMap_cons,hf] at hb
    exact hb
theorem Inv.stkFree (I:Inv X pins σ H s):∀ b∈frs X.stack,H b=none:=fun b hb=>by
  rcases List.mem_cons.mp (I.stkSub b hb) with e | hb
  · rw [e];exact I.free
  · obtain ⟨_,o,ho,_⟩:=I.ok.funs.mem hb
    exact I.base.free b o ho (I.ok.frf b hb) fun z=>I.ok.exfs b z hb
theorem Inv.step {g':Array GenState}{t':Nat}{d':Drawn}{ch:List Addr}(I:Inv X pins σ H s)
    (hch:∀ b∈ch,(b∈X.ex∨X.s₀.heap.objs.size≤b)∧b≠X.env.locals∧(∀ x c,X.env.cells.lookup x=some c→c≠b)∧∀ p∈X.pn++pins,p.1≠b)
    (keep:∀ b o,b≠X.env.locals→b∉X.fs→b∉ch→s.heap.get? b=some o→H b=none→h'.get? b=some o)
    (slot:∀ b o,b≠X.env.locals→b∈X.fs→b∉ch→s.heap.get? b=some o→H b=none→∃ sl,h'.get? b=some { o with slots:=sl }) (free:∀ b o,b∉ch→s.heap.get? b=some o→H b=none→H' b=none)
    (there:∀ b o,b∉ch→s.heap.get? b=some o→∃ o',h'.get? b=some o')
    (tups:∀ b xs,H b=some (.tup xs)→H' b=some (.tup xs)) (frzs:∀ b o u,H b=some (.frz o u)→H' b=some (.frz o u)) (tbls:∀ b ps,H b=some (.tbl ps)→∃ more,H' b=some (.tbl (ps++more)))
    (ns:∀ m,s.heap.Ns X.env.locals m→h'.Ns X.env.locals m) (hok:HOk X.prog X.w H' h') (hg:AllBare g'):
    Inv X pins σ H' { s with heap:=h',gens:=g',drawn:=d',toks:=t' }:=by
  have neL:∀ b o,X.s₀.heap.get? b=some o→b≠X.env.locals:=fun b o e=>Nat.ne_of_lt (Nat.lt_of_lt_of_le (Heap.lt_size e) I.ok.above)
  have neC:∀ b o,X.s₀.heap.get? b=some o→b∉X.ex→b∉ch:=fun b o e hx hb=>by
    rcases (hch b hb).1 with z | z
    · exact hx z
    · exact absurd (Nat.lt_of_lt_of_le (Heap.lt_size e) z) (Nat.lt_irrefl _)
  have cellK:∀ x c,X.env.cells.lookup x=some c→∀ v,s.heap.IsCell c v→h'.IsCell c v:=fun x c e v ⟨o,ho,hd⟩=>by
    have nch:c∉ch:=fun z=>(hch c z).2.2.1 x c e rfl
    by_cases hc:c∈X.fs
    · obtain ⟨sl,q⟩:=slot c o (I.cne x c e) hc nch ho (I.freeC x c e)
      exact ⟨_,q,hd⟩
    · exact ⟨o,keep c o (I.cne x c e) hc nch ho (I.freeC x c e),hd⟩
  refine ⟨I.ok,I.os,hg,⟨fun b o e n hb hx=>?_,fun b o e n hb hx=>?_,fun b o e n hx=>?_,fun b o e hx=>?_,fun b xs e=>tups b xs (I.base.tups b xs e),fun b o xs e=>frzs b o xs (I.base.frzs b o xs e),fun b ps e=>?_⟩,?_,fun x c e=>?_,?_,fun x c e=>?_,fun p hp=>?_,hok,I.len⟩
  · exact keep b o (neL b o e) hb (neC b o e hx) (I.base.keep b o e n hb hx) (I.base.free b o e n hx)
  · obtain ⟨sl,e1⟩:=I.base.slot b o e n hb hx
    obtain ⟨sl',e2⟩:=slot b _ (neL b o e) hb (neC b o e hx) e1 (I.base.free b o e n hx)
    exact ⟨sl',e2⟩
  · obtain ⟨o',e1⟩:=I.base.there b o e hx
    exact free b o' (neC b o e hx) e1 (I.base.free b o e n hx)
  · obtain ⟨o',e1⟩:=I.base.there b o e hx
    exact there b o' (neC b o e hx) e1
  · obtain ⟨m1,e1⟩:=I.base.tbls b ps e
    obtain ⟨m2,e2⟩:=tbls b _ e1
    exact ⟨m1++m2,by rw [e2,Array.append_assoc]⟩
  · obtain ⟨m,hn,hl⟩:=I.loc
    refine ⟨m,ns m hn,fun i x v e1 e2 e3=>?_⟩
    obtain ⟨u,r,l⟩:=hl i x v e1 e2 e3
    refine ⟨u,r,?_⟩
    rcases l with l | ⟨k,c,e,z⟩
    · exact .inl l
    · exact .inr ⟨k,c,e,cellK x c e _ z⟩
  · obtain ⟨v,z⟩:=I.cell x c e
    exact ⟨v,cellK x c e v z⟩
  · obtain ⟨m,⟨o,_,_,ho,_⟩,_⟩:=I.loc
    exact free _ o (fun z=>(hch _ z).2.1 rfl) ho I.free
  · obtain ⟨v,o,ho,hd⟩:=I.cell x c e
    exact free c o (fun z=>(hch c z).2.2.1 x c e rfl) ho (I.freeC x c e)
  · obtain ⟨e,n,ne,nf,d⟩:=I.pin p hp
    have nch:p.1∉ch:=fun z=>(hch p.1 z).2.2.2 p hp rfl
    exact ⟨keep p.1 p.2 ne nf nch e n,free p.1 p.2 nch e n,ne,nf,d⟩
theorem Inv.un {t':Nat}(I:Inv X pins σ H s)(u:Un X.fs [] H H' s.heap h')(hok:HOk X.prog X.w H' h'):Inv X pins σ H' { s with heap:=h',toks:=t' }:=by
  obtain ⟨m,⟨o,es,ep,ho,r⟩,_⟩:=id I.loc
  obtain ⟨sl,hL⟩:=u.any ho I.free (by simp)
  exact I.step (g':=s.gens) (d':=s.drawn) (ch:=[]) (fun _ z=>nomatch z) (fun b o _ hb _ e n=>u.keep b o e n hb (by simp)) (fun b o _ hb _ e n=>u.slot b o e n hb (by simp)) (fun b o _ e n=>u.free b o e n (by simp)) (fun b o _ e=>u.there b o e (by simp)) u.tups u.frzs u.tbls (fun m' hm=>by
    obtain ⟨o',es',ep',ho',r'⟩:=hm
    rw [ho] at ho';cases ho'
    exact ⟨_,es',ep',hL,r'⟩) hok I.bare
theorem Inv.call {g':Array GenState}{t':Nat}{d':Drawn}{ch:List Addr}(I:Inv X pins σ H s)(u:Un (frs X.stack) ch H H' s.heap h')(hok:HOk X.prog X.w H' h')(hg:AllBare g')
    (hch:∀ b∈ch,(b∈X.ex∨X.s₀.heap.objs.size≤b)∧b≠X.env.locals∧(∀ x c,X.env.cells.lookup x=some c→c≠b)∧∀ p∈X.pn++pins,p.1≠b):
    Inv X pins σ H' { s with heap:=h',gens:=g',drawn:=d',toks:=t' }:=by
  obtain ⟨m,⟨o,es,ep,ho,r⟩,_⟩:=id I.loc
  obtain ⟨sl,hL⟩:=u.any ho I.free fun z=>(hch _ z).2.1 rfl
  exact I.step (ch:=ch) hch (fun b o hL hb hc e n=>u.keep b o e n (fun z=>(List.mem_cons.mp (I.stkSub b z)).elim hL hb) hc) (fun b o _ _ hc e n=>u.any e n hc) (fun b o hc e n=>u.free b o e n hc) (fun b o hc e=>u.there b o e hc) u.tups u.frzs u.tbls (fun m' hm=>by
    obtain ⟨o',es',ep',ho',r'⟩:=hm
    rw [ho] at ho';cases ho'
    exact ⟨_,es',ep',hL,r'⟩) hok hg
theorem Inv.turned {t':Nat}{it:Addr}(I:Inv X pins σ H s)(k:∀ b o,b≠it→s.heap.get? b=some o→h'.get? b=some o)(hn:H it=none)(hL:it≠X.env.locals)
    (h1:it∈X.ex∨X.s₀.heap.objs.size≤it) (h2:∀ x c,X.env.cells.lookup x=some c→c≠it) (h3:∀ p∈X.pn++pins,p.1≠it):Inv X pins σ H { s with heap:=h',toks:=t' }:=by
  have nit:∀ b u,H b=some u→b≠it:=fun b u e z=>by rw [z,hn] at e;cases e
  refine I.step (g':=s.gens) (d':=s.drawn) (ch:=[it]) (fun b hb=>?_) (fun b o _ _ hc e _=>k b o (fun z=>hc (by simp [z])) e) (fun b o _ _ hc e _=>⟨o.slots,k b o (fun z=>hc (by simp [z])) e⟩) (fun _ _ _ _ n=>n)
    (fun b o hc e=>⟨o,k b o (fun z=>hc (by simp [z])) e⟩) (fun _ _ e=>e) (fun _ _ _ e=>e) (fun b ps e=>⟨#[],by rw [e];simp⟩) (fun m hm=>?_) (fun b u e=>?_) I.bare
  · have e:b=it:=by simpa using hb
    subst e
    exact ⟨h1,hL,h2,h3⟩
  · obtain ⟨o,es,ep,ho,r⟩:=hm
    exact ⟨o,es,ep,k _ o (Ne.symm hL) ho,r⟩
  · refine (I.hok b u e).stay (fun c v hc q=>k c v ?_ q) (fun _ q=>q) fun _ _ q=>q
    rcases hc with z | z
    · rw [z];exact nit b u e
    · exact nit c _ z
theorem Inv.tok (I:Inv X pins σ H s)(t:Nat):Inv X pins σ H { s with toks:=t }:=I.un (h':=s.heap) (t':=t) Un.refl I.hok
theorem Inv.kept {t':Nat}(I:Inv X pins σ H s)(k:∀ b u,s.heap.get? b=some u→h'.get? b=some u):Inv X pins σ H { s with heap:=h',toks:=t' }:=I.un (Un.kept k) (I.hok.kept k)
theorem Inv.laid {a:Addr}{o:HO}{t':Nat}(I:Inv X pins σ H s)(k:∀ b u,s.heap.get? b=some u→h'.get? b=some u)(hp:s.heap.objs.size≤a)(new:ObjOk X.prog X.w (upd H a o) h' a o):
    Inv X pins σ (upd H a o) { s with heap:=h',toks:=t' }:=I.un (Un.laid k hp (I.hok.fresh hp)) (I.hok.laid k hp new)
theorem Inv.write {x e:Addr}{o:HO}{t':Nat}(I:Inv X pins σ H s)(mu:Mut (H x))(he:e=x∨H e=some (.own x))(k:∀ b u,b≠e→s.heap.get? b=some u→h'.get? b=some u)(heo:∃ u,h'.get? e=some u)
    (new:ObjOk X.prog X.w (upd H x o) h' x o):Inv X pins σ (upd H x o) { s with heap:=h',toks:=t' }:=I.un (Un.write mu he k heo) (I.hok.write mu he k heo new)
theorem Inv.pins_of {pins':List (Addr×Obj)}(I:Inv X pins σ H s)(h:∀ p∈pins',s.heap.get? p.1=some p.2∧H p.1=none∧p.1≠X.env.locals∧p.1∉X.fs∧∀ v,p.2.data≠.cell v):Inv X pins' σ H s:=
  ⟨I.ok,I.os,I.bare,I.base,I.loc,I.cell,I.free,I.freeC,fun p hp=>(List.mem_append.mp hp).elim (fun z=>I.pin p (List.mem_append_left _ z)) (h p),I.hok,I.len⟩
theorem nodup_ix {N:List Str}(hN:N.Nodup){i j:Nat}{x:Str}(a:N[i]?=some x)(b:N[j]?=some x):i=j:=by
  obtain ⟨h1,e1⟩:=List.getElem?_eq_some_iff.mp a
  obtain ⟨h2,e2⟩:=List.getElem?_eq_some_iff.mp b
  exact (List.getElem_inj hN).mp (e1.trans e2.symm)
theorem store_ok2 {M:Model}{A:Around}{E:Value→Shared→Prop}{i:Nat}{x:Str}{v:V}{u:Value}{Q:Unit→Shared→Prop}(I:Inv X pins σ H s)(hN:X.N.Nodup)(hi:X.N[i]?=some x)(hx:Loc X.env.scope x)(r:RelV v u)
    (h:∀ s',Inv X pins (σ.set i (some v)) H s'→(∃ a,Heap.SameBut a s.heap s'.heap∧(a=X.env.locals∨X.env.cells.lookup x=some a))→Q () s') (hf:X.fn x=true∨X.env.scope.names.lookup x=some .local:=by first | exact .inl rfl | exact .inr rfl | assumption):wpAny M A (storeName X.env x u) Q E s:=by
  obtain ⟨m,hn,hl⟩:=id I.loc
  have hcls:(X.env.scope.kind==.class||(X.env.scope.kind==.module&&X.env.locals != X.env.globals))=false:=by rw [I.ok.kind];rfl
  have hiσ:i<σ.length:=by rw [I.len];exact (List.getElem?_eq_some_iff.mp hi).1
  have cne:=I.cne
  have tracked:∀ {a:Addr} {h':Heap},(∃ o,s.heap.get? a=some o∧H a=none)→Heap.SameBut a s.heap h'→HOk X.prog X.w H h':=fun {a h'} ha hs b ob e=>by
    obtain ⟨_,_,hfree⟩:=ha
    refine (I.hok b ob e).stay (fun c w' hc q=>(hs.2 c ?_).trans q) (fun _ q=>q) fun _ _ q=>q
    rintro rfl
    rcases hc with rfl | hc
    · rw [hfree] at e;cases e
    · rw [hfree] at hc;cases hc
  rcases hx with hk | hk
  · refine wpAny_storeName_local hk hn (fun h' hn' hs=>?_) hcls
    obtain ⟨oL,_,_,hoL,_⟩:=id hn
    refine h _ ⟨I.ok,I.os,I.bare,⟨fun b o e n hb hx=>?_,fun b o e n hb hx=>?_,I.base.free,fun b o e hx=>?_,I.base.tups,I.base.frzs,I.base.tbls⟩,⟨_,hn',fun j y v' e1 e2 e3=>?_⟩,fun y c e=>?_,I.free,I.freeC,fun p hp=>?_,tracked ⟨oL,hoL,I.free⟩ hs,by simpa using I.len⟩ ⟨_,hs,.inl rfl⟩
    · exact (hs.2 b (Nat.ne_of_lt (Nat.lt_of_lt_of_le (Heap.lt_size e) I.ok.above))).trans (I.base.keep b o e n hb hx)
    · obtain ⟨sl,e1⟩:=I.base.slot b o e n hb hx
      exact ⟨sl,(hs.2 b (Nat.ne_of_lt (Nat.lt_of_lt_of_le (Heap.lt_size e) I.ok.above))).trans e1⟩
    · obtain ⟨o',e1⟩:=I.base.there b o e hx
      exact ⟨o',(hs.2 b (Nat.ne_of_lt (Nat.lt_of_lt_of_le (Heap.lt_size e) I.ok.above))).trans e1⟩
    · by_cases hj:j=i
      · subst hj
        rw [hi] at e1;cases e1
        rw [List.getElem?_set_self hiσ] at e2
        cases e2
        exact ⟨u,r,.inl ⟨hk,by simp⟩⟩
      · rw [List.getElem?_set_ne (Ne.symm hj)] at e2
        obtain ⟨u',r',q⟩:=hl j y v' e1 e2 e3
        refine ⟨u',r',?_⟩
        rcases q with ⟨k,e⟩ | ⟨k,c,e,z⟩
        · refine .inl ⟨k,?_⟩
          have:y≠x:=fun e=>hj (nodup_ix hN e1 (e▸hi))
          simp [this,e]
        · exact .inr ⟨k,c,e,z.sameBut hs (cne y c e)⟩
    · obtain ⟨w',z⟩:=I.cell y c e
      exact ⟨w',z.sameBut hs (cne y c e)⟩
    · obtain ⟨e,n,ne,nf,d⟩:=I.pin p hp
      exact ⟨(hs.2 p.1 ne).trans e,n,ne,nf,d⟩
  · have hfn:X.fn x=true:=by
      rcases hf with z | z
      · exact z
      · rw [z] at hk;cases hk
    obtain ⟨c,hc⟩:=I.ok.has x (.inl hk)
    obtain ⟨w',z⟩:=I.cell x c hc
    refine wpAny_storeName_cell I.ok.kind hk hc z (fun h' hc' hs=>?_)
    obtain ⟨oc,hoc,hocd⟩:=id z
    refine h { s with heap:=h' } ⟨I.ok,I.os,I.bare,⟨fun b o e n hb hx=>?_,fun b o e n hb hx=>?_,I.base.free,fun b o e hx=>?_,I.base.tups,I.base.frzs,I.base.tbls⟩,⟨m,hn.sameBut hs (Ne.symm (cne x c hc)),fun j y v' e1 e2 e3=>?_⟩,fun y c' e=>?_,I.free,I.freeC,fun p hp=>?_,tracked ⟨oc,hoc,I.freeC x c hc⟩ hs,by simpa using I.len⟩ ⟨c,hs,.inr hc⟩
    · exact (hs.2 b (Nat.ne_of_lt (Nat.lt_of_lt_of_le (Heap.lt_size e) (I.ok.cab x c hfn hc)))).trans (I.base.keep b o e n hb hx)
    · obtain ⟨sl,e1⟩:=I.base.slot b o e n hb hx
      exact ⟨sl,(hs.2 b (Nat.ne_of_lt (Nat.lt_of_lt_of_le (Heap.lt_size e) (I.ok.cab x c hfn hc)))).trans e1⟩
    · obtain ⟨o',e1⟩:=I.base.there b o e hx
      exact ⟨o',(hs.2 b (Nat.ne_of_lt (Nat.lt_of_lt_of_le (Heap.lt_size e) (I.ok.cab x c hfn hc)))).trans e1⟩
    · by_cases hj:j=i
      · subst hj
        rw [hi] at e1;cases e1
        rw [List.getElem?_set_self hiσ] at e2
        cases e2
        exact ⟨u,r,.inr ⟨.inl hk,c,hc,hc'⟩⟩
      · rw [List.getElem?_set_ne (Ne.symm hj)] at e2
        obtain ⟨u',r',q⟩:=hl j y v' e1 e2 e3
        refine ⟨u',r',?_⟩
        rcases q with q | ⟨k,c',e,z'⟩
        · exact .inl q
        · refine .inr ⟨k,c',e,z'.sameBut hs ?_⟩
          rintro rfl
          exact hj (nodup_ix hN e1 (I.ok.inj _ _ _ e hc▸hi))
    · by_cases hcc:c'=c
      · subst hcc;exact ⟨_,hc'⟩
      · obtain ⟨w2,z2⟩:=I.cell y c' e
        exact ⟨w2,z2.sameBut hs hcc⟩
    · obtain ⟨e,n,ne,nf,d⟩:=I.pin p hp
      refine ⟨(hs.2 p.1 ?_).trans e,n,ne,nf,d⟩
      intro q
      rw [q,hoc] at e
      have q':oc=p.2:=Option.some.inj e
      exact d w' (by rw [← q'];exact hocd)
theorem store_ok {M:Model}{A:Around}{E:Value→Shared→Prop}{i:Nat}{x:Str}{v:V}{u:Value}{Q:Unit→Shared→Prop}(I:Inv X pins σ H s)(hN:X.N.Nodup)(hi:X.N[i]?=some x)(hx:Loc X.env.scope x)(r:RelV v u)
    (h:∀ s',Inv X pins (σ.set i (some v)) H s'→Q () s') (hf:X.fn x=true∨X.env.scope.names.lookup x=some .local:=by first | exact .inl rfl | exact .inr rfl | assumption):wpAny M A (storeName X.env x u) Q E s:=
  store_ok2 I hN hi hx r (fun s' I' _=>h s' I') hf
theorem Inv.call' {s':Shared}{ch:List Addr}(I:Inv X pins σ H s)(ho:s'.os=s.os)(u:Un (frs X.stack) ch H H' s.heap s'.heap)(hok:HOk X.prog X.w H' s'.heap)(hg:AllBare s'.gens)
    (hch:∀ b∈ch,(b∈X.ex∨X.s₀.heap.objs.size≤b)∧b≠X.env.locals∧(∀ x c,X.env.cells.lookup x=some c→c≠b)∧∀ p∈X.pn++pins,p.1≠b):Inv X pins σ H' s':=by
  obtain ⟨h',g',d',t',o'⟩:=s'
  have e:o'=s.os:=ho
  subst e
  exact I.call (g':=g') (t':=t') (d':=d') u hok hg hch
end
abbrev XK:=Value→Option Addr→Hp→Prop
abbrev St:=List (Option V)
abbrev VK:=V→Hp→Prop
abbrev TE:=St→Hp→VK→Prop
abbrev TT:=St→Hp→(Bool→Hp→Prop)→Prop
abbrev TA:=St→Hp→(List V→Hp→Prop)→Prop
structure Ends where
  nx:St→Hp→Prop
  rt:VK
  bk:St→Hp→Prop:=fun _ _=>False
  ct:St→Hp→Prop:=fun _ _=>False
abbrev TS:=Ends→St→Hp→Prop
def EP (X:Cx)(pins:List (Addr×Obj))(σ:St)(Q:VK)(u:Value)(s':Shared):Prop:=∃ v H',Inv X pins σ H' s'∧RelV v u∧Q v H'
def TP (X:Cx)(pins:List (Addr×Obj))(σ:St)(Q:Bool→Hp→Prop)(b:Bool)(s':Shared):Prop:=∃ H',Inv X pins σ H' s'∧Q b H'
def AP (X:Cx)(pins:List (Addr×Obj))(σ:St)(Q:List V→Hp→Prop)(us:List Value)(s':Shared):Prop:=∃ vs H',Inv X pins σ H' s'∧Vals vs us∧Q vs H'
def SP (X:Cx)(pins:List (Addr×Obj))(D:Ends)(f:Flow)(s':Shared):Prop:=
  match f with
  | .next=>∃ σ' H',Inv X pins σ' H' s'∧D.nx σ' H'
  | .brk=>∃ σ' H',Inv X pins σ' H' s'∧D.bk σ' H'
  | .cont=>∃ σ' H',Inv X pins σ' H' s'∧D.ct σ' H'
  | .ret u=>∃ v σ' H',Inv X pins σ' H' s'∧RelV v u∧D.rt v H'
def PE (X:Cx)(e:Expr)(t:TE):Prop:=
  ∀ (pins:List (Addr×Obj)) (s:Shared) (σ:St) (H:Hp) (Q:VK),Inv X pins σ H s→t σ H Q→wpAny (model X.prog X.w) X.A (eval e X.env) (EP X pins σ Q) X.xe s
def PT (X:Cx)(e:Expr)(t:TT):Prop:=
  ∀ (pins:List (Addr×Obj)) (s:Shared) (σ:St) (H:Hp) (Q:Bool→Hp→Prop),Inv X pins σ H s→t σ H Q→wpAny (model X.prog X.w) X.A (isTrue e X.env (eval e X.env)) (TP X pins σ Q) X.xe s
def PW (X:Cx)(e:Expr)(t:TT):Prop:=
  ∀ (whole:Sem Value) (pins:List (Addr×Obj)) (s:Shared) (σ:St) (H:Hp) (Q:Bool→Hp→Prop),Inv X pins σ H s→t σ H Q→wpAny (model X.prog X.w) X.A (isTrue e X.env whole) (TP X pins σ Q) X.xe s
theorem PW.pt {X:Cx}{e:Expr}{t:TT}(h:PW X e t):PT X e t:=h _
def PA (X:Cx)(es:List Expr)(t:TA):Prop:=
  ∀ (pos:Pos) (pins:List (Addr×Obj)) (s:Shared) (σ:St) (H:Hp) (Q:List V→Hp→Prop),Inv X pins σ H s→t σ H Q→wpAny (model X.prog X.w) X.A (spliced (backTo pos (starEach es X.env))) (AP X pins σ Q) X.xe s
def PS (X:Cx)(st:Stmt)(t:TS):Prop:=
  ∀ (pins:List (Addr×Obj)) (s:Shared) (σ:St) (H:Hp) (D:Ends),Inv X pins σ H s→t D σ H→wpAny (model X.prog X.w) X.A (exec st X.env) (SP X pins D) X.xe s
def PSs (X:Cx)(st:List Stmt)(t:TS):Prop:=
  ∀ (pins:List (Addr×Obj)) (s:Shared) (σ:St) (H:Hp) (D:Ends),Inv X pins σ H s→t D σ H→wpAny (model X.prog X.w) X.A (execs st X.env) (SP X pins D) X.xe s
theorem thn {α:Type}{t:Sem α}{Q Q':α→Shared→Prop}{M:Model}{A:Around}{E:Value→Shared→Prop}{s:Shared}(h:wpAny M A t Q E s)(hQ:∀ a s,Q a s→Q' a s):wpAny M A t Q' E s:=wpAny_mono h hQ fun _ _ x=>x
end L2
namespace L2
open PySem PySem.Spec PyProof.Rows
section
variable {X:Cx}
def tVar (i:Nat):TE:=fun σ H Q=>∃ v,σ[i]?=some (some v)∧Q v H
def tC (v:V):TE:=fun _ H Q=>Q v H
theorem pe_var {i:Nat}{x:Str}{pos:Pos}(hN:X.N[i]?=some x)(hv:Vis X.env.scope x)(hd:(x==("__debug__":Str))=false:=by decide)(hcd:(x==("__classdict__":Str))=false:=by decide):PE X (.Name x pos) (tVar i):=by
  intro pins s σ H Q I h
  obtain ⟨v,e,h⟩:=h
  obtain ⟨m,hn,hl⟩:=I.loc
  obtain ⟨u,r,l⟩:=hl i x v hN e hv
  have fin:EP X pins σ Q u s:=⟨v,H,I,r,h⟩
  rcases l with ⟨hk,hm⟩ | ⟨hk,c,hc,hcell⟩
  · exact wpAny_Name (wpAny_loadName_local I.ok.kind hk hn hm fin) hd
  · rcases hk with hk | hk
    · exact wpAny_Name (wpAny_loadName_cell I.ok.kind hk hc hcell fin) hd
    · exact wpAny_Name (wpAny_loadName_free I.ok.kind hk hc hcell fin hcd) hd
theorem pe_int {i j pos}:PE X (.Constant (.int i) j pos) (tC (.int i)):=fun _ _ _ H _ I h=>wpAny_Constant_int ⟨.int i,H,I.tok _,⟨_,rfl⟩,h⟩
theorem pe_bl {b j pos}:PE X (.Constant (.bool b) j pos) (tC (.bl b)):=fun _ _ _ H _ I h=>Constant_bool ⟨.bl b,H,I,rfl,h⟩
theorem pe_non {j pos}:PE X (.Constant .none j pos) (tC .non):=fun _ _ _ H _ I h=>Constant_none ⟨.non,H,I,rfl,h⟩
theorem pe_str {x j pos}:PE X (.Constant (.str x) j pos) (tC (.str x)):=fun _ _ _ H _ I h=>Calls.Constant_str ⟨.str x,H,I.tok _,⟨_,rfl⟩,h⟩
def Gl (X:Cx)(x:Str):Prop:=X.env.kindOf x=some .globalImplicit
theorem ld_glob {E:Value→Shared→Prop}{pins:List (Addr×Obj)}{s:Shared}{σ:St}{H:Hp}{x:Str}{u:Value}{pos:Pos}{Q:Value→Shared→Prop}(I:Inv X pins σ H s)(hg:Gl X x)(hm:X.mg x=some u)(h:Q u s)
    (hd:(x==("__debug__":Str))=false:=by decide):wpAny (model X.prog X.w) X.A (eval (.Name x pos) X.env) Q E s:=
  Calls.Name_function_global I.ok.kind hg (Calls.loadGlobal_global (by rw [I.ok.glob];exact I.mod.glob.keeps I.bk) hm h) hd
theorem ld_blt {E:Value→Shared→Prop}{pins:List (Addr×Obj)}{s:Shared}{σ:St}{H:Hp}{x:Str}{u:Value}{pos:Pos}{Q:Value→Shared→Prop}(I:Inv X pins σ H s)(hg:Gl X x)(hm:X.mg x=none)(hv:bootBuiltins x=some u)(h:Q u s)
    (hn:x≠"__name__":=by decide) (hd:(x==("__debug__":Str))=false:=by decide):wpAny (model X.prog X.w) X.A (eval (.Name x pos) X.env) Q E s:=by
  obtain ⟨mb,h1,h2⟩:=I.mod.blt
  exact Calls.Name_function_global I.ok.kind hg (Calls.loadGlobal_builtin (by rw [I.ok.glob];exact I.mod.glob.keeps I.bk) hm (by rw [I.ok.blt];exact h1.keeps I.bk) ((h2 x hn).trans hv) h) hd
theorem pe_glob {x:Str}{v:V}{u:Value}{pos:Pos}(hg:Gl X x)(hm:X.mg x=some u)(r:RelV v u)(hd:(x==("__debug__":Str))=false:=by decide):PE X (.Name x pos) (tC v):=
  fun _ _ _ H _ I h=>ld_glob I hg hm ⟨v,H,I,r,h⟩ hd
theorem pe_bltn {x:Str}{v:V}{u:Value}{pos:Pos}(hg:Gl X x)(hm:X.mg x=none)(hv:bootBuiltins x=some u)(r:RelV v u)(hn:x≠"__name__":=by decide)(hd:(x==("__debug__":Str))=false:=by decide):PE X (.Name x pos) (tC v):=
  fun _ _ _ H _ I h=>ld_blt I hg hm hv ⟨v,H,I,r,h⟩ hn hd
def t2I (ta tb:TE)(k:Int→Int→Hp→Prop):St→Hp→Prop:=fun σ H=>ta σ H fun x H1=>tb σ H1 fun y H2=>∃ i j,x=.int i∧y=.int j∧k i j H2
def tAdd (ta tb:TE):TE:=fun σ H Q=>t2I ta tb (fun i j H2=>Q (.int (i+j)) H2) σ H
def tSub (ta tb:TE):TE:=fun σ H Q=>t2I ta tb (fun i j H2=>Q (.int (i-j)) H2) σ H
def tMul (ta tb:TE):TE:=fun σ H Q=>t2I ta tb (fun i j H2=>(-(2 ^ 64)<i∧i<2 ^ 64)∧Q (.int (i*j)) H2) σ H
variable {a b:Expr}{ta tb:TE}{pos:Pos}
def PC (X:Cx)(op:CmpOp)(a b:Expr)(t:TE):Prop:=
  ∀ (pins:List (Addr×Obj)) (s:Shared) (σ:St) (H:Hp) (Q:VK),Inv X pins σ H s→t σ H Q→
    wpAny (model X.prog X.w) X.A (eval a X.env) (fun v s₁=>wpAny (model X.prog X.w) X.A (eval b X.env) (fun u s₂=>wpAny (model X.prog X.w) X.A (compareOp op v u) (EP X pins σ Q) X.xe s₂) X.xe s₁) X.xe s
def tCmp (p:Int→Int→Bool)(ta tb:TE):TE:=fun σ H Q=>t2I ta tb (fun i j H2=>Q (.bl (p i j)) H2) σ H
abbrev tLt:TE→TE→TE:=tCmp fun i j=>decide (i<j)
abbrev tLe:TE→TE→TE:=tCmp fun i j=>decide (i≤j)
abbrev tGt:TE→TE→TE:=tCmp fun i j=>decide (j<i)
abbrev tGe:TE→TE→TE:=tCmp fun i j=>decide (j≤i)
abbrev tEqI:TE→TE→TE:=tCmp fun i j=>decide (i=j)
abbrev tNeI:TE→TE→TE:=tCmp fun i j=>!decide (i=j)
def tIsN (ta:TE):TE:=fun σ H Q=>ta σ H fun x H1=>Q (.bl (decide (x=.non))) H1
def tNotN (ta:TE):TE:=fun σ H Q=>ta σ H fun x H1=>Q (.bl (!decide (x=.non))) H1
def tB (t:TE):TT:=fun σ H Q=>t σ H fun x H1=>∃ c,x=.bl c∧Q c H1
theorem pt_val {e:Expr}{t:TE}(h:PE X e t)(he:∀ whole,isTrue e X.env whole=(do let v ← whole;standAt e.pos;holding [v] (truthy v)):=by intro _;rfl):PT X e (tB t):=by
  intro pins s σ H Q I hw
  refine isTrue_plain (thn (h pins s σ H _ I hw) fun v s1 ⟨x,H1,I1,r1,q1⟩=>?_) (he _)
  obtain ⟨d,rfl,q⟩:=q1
  cases r1
  exact wpAny_truthy_bool ⟨H1,I1,q⟩
variable {tA tB':TT}{rest:List Expr}
def tAnd (t u:TT):TT:=fun σ H Q=>t σ H fun c H1=>if c=true then u σ H1 Q else Q false H1
def tOr (t u:TT):TT:=fun σ H Q=>t σ H fun c H1=>if c=true then Q true H1 else u σ H1 Q
def tNot (t:TT):TT:=fun σ H Q=>t σ H fun c H1=>Q (!c) H1
theorem pw_and1 (ha:PT X a tA):PW X (.BoolOp .And [a] pos) tA:=by
  intro wh pins s σ H Q I h
  refine isTrue_and (thn (ha pins s σ H Q I h) fun c s1 e=>?_)
  cases c with
  | true=>exact isTrue_and_nil e
  | false=>exact e
theorem pw_or1 (ha:PT X a tA):PW X (.BoolOp .Or [a] pos) tA:=by
  intro wh pins s σ H Q I h
  refine isTrue_or (thn (ha pins s σ H Q I h) fun c s1 e=>?_)
  cases c with
  | false=>exact isTrue_or_nil e
  | true=>exact e
theorem pw_and (ha:PT X a tA)(hb:PW X (.BoolOp .And (b::rest) pos) tB'):PW X (.BoolOp .And (a::b::rest) pos) (tAnd tA tB'):=by
  intro wh pins s σ H Q I h
  refine isTrue_and (thn (ha pins s σ H _ I h) fun c s1 ⟨H1,I1,q1⟩=>?_)
  cases c with
  | true=>exact hb wh pins s1 σ H1 Q I1 q1
  | false=>exact ⟨H1,I1,q1⟩
theorem pw_or (ha:PT X a tA)(hb:PW X (.BoolOp .Or (b::rest) pos) tB'):PW X (.BoolOp .Or (a::b::rest) pos) (tOr tA tB'):=by
  intro wh pins s σ H Q I h
  refine isTrue_or (thn (ha pins s σ H _ I h) fun c s1 ⟨H1,I1,q1⟩=>?_)
  cases c with
  | true=>exact ⟨H1,I1,q1⟩
  | false=>exact hb wh pins s1 σ H1 Q I1 q1
theorem pt_not (ha:PT X a tA):PT X (.UnaryOp .Not a pos) (tNot tA):=by
  intro pins s σ H Q I h
  exact isTrue_not (ha pins s σ H (fun c H1=>Q (!c) H1) I h)
def tAndV (ta tb:TE):TE:=fun σ H Q=>ta σ H fun x H1=>∃ c,x=.bl c∧if c=true then tb σ H1 Q else Q (.bl false) H1
def tOrV (ta tb:TE):TE:=fun σ H Q=>ta σ H fun x H1=>∃ c,x=.bl c∧if c=true then Q (.bl true) H1 else tb σ H1 Q
def tNotV (ta:TE):TE:=fun σ H Q=>ta σ H fun x H1=>∃ c,x=.bl c∧Q (.bl (!c)) H1
theorem pe_one {op}{t:TE}(h:PE X a t):PE X (.BoolOp op [a] pos) t:=fun pins s σ H Q I hw=>BoolOp_one (h pins s σ H Q I hw)
theorem pe_and (ha:PE X a ta)(hb:PE X (.BoolOp .And (b::rest) pos) tb):PE X (.BoolOp .And (a::b::rest) pos) (tAndV ta tb):=by
  intro pins s σ H Q I h
  refine BoolOp_and (thn (ha pins s σ H _ I h) fun v s1 ⟨x,H1,I1,r1,q1⟩=>?_)
  obtain ⟨c,rfl,q1⟩:=q1
  cases r1
  refine wpAny_truthy_bool ?_
  cases c with
  | true=>exact hb pins s1 σ H1 Q I1 q1
  | false=>exact ⟨.bl false,H1,I1,rfl,q1⟩
theorem pe_not (ha:PE X a ta):PE X (.UnaryOp .Not a pos) (tNotV ta):=by
  intro pins s σ H Q I h
  refine UnaryOp_ (thn (ha pins s σ H _ I h) fun v s1 ⟨x,H1,I1,r1,q1⟩=>?_)
  obtain ⟨c,rfl,q1⟩:=q1
  cases r1
  exact not_of (wpAny_truthy_bool ⟨.bl (!c),H1,I1,rfl,q1⟩)
def tIf (t:TT)(ta tb:TE):TE:=fun σ H Q=>t σ H fun c H1=>if c=true then ta σ H1 Q else tb σ H1 Q
theorem pe_ifExp {c:Expr}(hc:PT X c tA)(ha:PE X a ta)(hb:PE X b tb):PE X (.IfExp c a b pos) (tIf tA ta tb):=by
  intro pins s σ H Q I h
  refine wpAny_IfExp (thn (hc pins s σ H _ I h) fun d s1 ⟨H1,I1,q1⟩=>?_)
  cases d with
  | true=>exact ha pins s1 σ H1 Q I1 q1
  | false=>exact hb pins s1 σ H1 Q I1 q1
end
end L2
namespace L2
open PySem PySem.Spec PyProof.Rows
def SqL (K:PySem.W.Frag)(H:Hp)(a:Addr)(xs:List V):Prop:=
  Rd H a (.lst xs)∨
    ∃ (o:Obj) (its:Array Value) (n:Nat),K.lookup a=some o∧o.cls=.type "list"∧o.dict=none∧o.data=.seq its n∧its.size≤sizeLine∧Vals xs its.toList
def SqT (K:PySem.W.Frag)(H:Hp)(a:Addr)(xs:List V):Prop:=
  Rd H a (.tup xs)∨
    ∃ (o:Obj) (its:Array Value) (n:Nat),K.lookup a=some o∧o.cls=.type "tuple"∧o.data=.seq its n∧its.size≤sizeLine∧Vals xs its.toList
def absV:Value→Option V
  | .none=>some .non
  | .bool b=>some (.bl b)
  | .int i _=>some (.int i)
  | .str x _=>some (.str x)
  | .bytes b _=>some (.byt b)
  | .float b _=>some (.flt b)
  | .ref a=>some (.ref a)
  | .type n=>some (.ty n)
  | _=>none
theorem RelV.abs {x:V}{u:Value}(r:RelV x u):absV u=some x:=by
  cases x with
  | non=>cases r;rfl
  | bl _=>cases r;rfl
  | int _=>obtain ⟨t,rfl⟩:=r;rfl
  | str _=>obtain ⟨t,rfl⟩:=r;rfl
  | byt _=>obtain ⟨t,rfl⟩:=r;rfl
  | flt _=>obtain ⟨t,rfl⟩:=r;rfl
  | ref _=>cases r;rfl
  | ty _=>cases r;rfl
theorem RelV.inj {x y:V}{u:Value}(r:RelV x u)(q:RelV y u):x=y:=Option.some.inj (r.abs.symm.trans q.abs)
theorem Vals.inj:∀ {xs ys:List V} {us:List Value},Vals xs us→Vals ys us→xs=ys
  | _,_,_,.nil,.nil=>rfl
  | _,_,_,.cons r t,.cons r' t'=>by rw [r.inj r',Vals.inj t t']
section
variable {X:Cx}{pins:List (Addr×Obj)}{σ:St}{H:Hp}{s:Shared}{a:Addr}{xs ys:List V}
theorem SqL.of {K:PySem.W.Frag}(h:H a=some (.lst xs)):SqL K H a xs:=.inl (.inl h)
theorem SqT.of {K:PySem.W.Frag}(h:H a=some (.tup xs)):SqT K H a xs:=.inl (.inl h)
theorem Inv.list (I:Inv X pins σ H s)(h:SqL X.K H a xs):∃ its:List Value,Vals xs its∧PlainL s.heap a its.toArray∧xs.length≤sizeLine:=by
  rcases h with h | ⟨o,its,n,hk,hc,hd,hs,hz,r⟩
  · obtain ⟨z,its,n,r,e⟩:=h.ok I.hok
    exact ⟨its,r,⟨_,n,e,rfl,rfl,rfl⟩,z⟩
  · refine ⟨its.toList,r,⟨o,n,I.kIn a o hk,hc,hd,by simpa using hs⟩,?_⟩
    have e:=r.length
    simp only [Array.length_toList] at e
    omega
theorem Inv.tuple (I:Inv X pins σ H s)(h:SqT X.K H a xs):∃ its:List Value,Vals xs its∧IsTup s.heap a its.toArray∧xs.length≤sizeLine:=by
  rcases h with h | ⟨o,its,n,hk,hc,hs,hz,r⟩
  · obtain ⟨z,its,r,p⟩:=h.ok I.hok
    exact ⟨its,r,p,z⟩
  · refine ⟨its.toList,r,⟨o,I.kIn a o hk,hc,n,by simpa using hs⟩,?_⟩
    have e:=r.length
    simp only [Array.length_toList] at e
    omega
theorem Inv.list_inj (I:Inv X pins σ H s)(h:SqL X.K H a xs)(h':SqL X.K H a ys):xs=ys:=by
  obtain ⟨its,r,⟨o,n,e,_,_,d⟩,_⟩:=I.list h
  obtain ⟨its',r',⟨o',n',e',_,_,d'⟩,_⟩:=I.list h'
  rw [e] at e';cases e'
  rw [d] at d'
  injection d' with d1 _
  have:its=its':=by simpa using congrArg Array.toList d1
  subst this
  exact r.inj r'
theorem Inv.tuple_inj (I:Inv X pins σ H s)(h:SqT X.K H a xs)(h':SqT X.K H a ys):xs=ys:=by
  obtain ⟨its,r,⟨o,e,_,n,d⟩,_⟩:=I.tuple h
  obtain ⟨its',r',⟨o',e',_,n',d'⟩,_⟩:=I.tuple h'
  rw [e] at e';cases e'
  rw [d] at d'
  injection d' with d1 _
  have:its=its':=by simpa using congrArg Array.toList d1
  subst this
  exact r.inj r'
end
abbrev Cx.wish (X:Cx)(E:Value→Shared→Prop):Cx:={ X with xe:=E }
abbrev Cx.nox (X:Cx):Cx:=X.wish fun _ _=>False
theorem Cx.Ok.wish {X:Cx}(ok:X.Ok)(E:Value→Shared→Prop):(X.wish E).Ok:=
  ⟨ok.mod,ok.kind,ok.glob,ok.blt,ok.above,ok.inj,ok.has,ok.cab,ok.hd,ok.frames,ok.stk,ok.exf,ok.bs,ok.bsz,ok.noex,ok.exfs,ok.funs,ok.frf⟩
theorem Cx.Ok.unwish {X:Cx}{E:Value→Shared→Prop}(ok:(X.wish E).Ok):X.Ok:=
  ⟨ok.mod,ok.kind,ok.glob,ok.blt,ok.above,ok.inj,ok.has,ok.cab,ok.hd,ok.frames,ok.stk,ok.exf,ok.bs,ok.bsz,ok.noex,ok.exfs,ok.funs,ok.frf⟩
section
variable {X:Cx}{pins:List (Addr×Obj)}{σ:St}{H:Hp}{s:Shared}{E:Value→Shared→Prop}
theorem Inv.wish (I:Inv X pins σ H s)(E:Value→Shared→Prop):Inv (X.wish E) pins σ H s:=⟨I.ok.wish E,I.os,I.bare,I.base,I.loc,I.cell,I.free,I.freeC,I.pin,I.hok,I.len⟩
theorem Inv.unwish (I:Inv (X.wish E) pins σ H s):Inv X pins σ H s:=⟨I.ok.unwish,I.os,I.bare,I.base,I.loc,I.cell,I.free,I.freeC,I.pin,I.hok,I.len⟩
theorem SP.unwish {D:Ends}{f:Flow}{s':Shared}(h:SP (X.wish E) pins D f s'):SP X pins D f s':=by
  cases f with
  | next=>obtain ⟨σ',H',I,q⟩:=h;exact ⟨σ',H',I.unwish,q⟩
  | brk=>obtain ⟨σ',H',I,q⟩:=h;exact ⟨σ',H',I.unwish,q⟩
  | cont=>obtain ⟨σ',H',I,q⟩:=h;exact ⟨σ',H',I.unwish,q⟩
  | ret u=>obtain ⟨v,σ',H',I,r,q⟩:=h;exact ⟨v,σ',H',I.unwish,r,q⟩
theorem PE.nox {e:Expr}{t:TE}(h:PE X.nox e t):PE X e t:=fun pins s σ H Q I hw=>
  wpAny_mono (h pins s σ H Q (I.wish _) hw) (fun _ _ ⟨v,H',I',r,q⟩=>⟨v,H',I'.unwish,r,q⟩) fun _ _ z=>False.elim z
theorem PT.nox {e:Expr}{t:TT}(h:PT X.nox e t):PT X e t:=fun pins s σ H Q I hw=>
  wpAny_mono (h pins s σ H Q (I.wish _) hw) (fun _ _ ⟨H',I',q⟩=>⟨H',I'.unwish,q⟩) fun _ _ z=>False.elim z
theorem PSs.nox {st:List Stmt}{t:TS}(h:PSs X.nox st t):PSs X st t:=fun pins s σ H D I hw=>
  wpAny_mono (h pins s σ H D (I.wish _) hw) (fun _ _ q=>q.unwish) fun _ _ z=>False.elim z
end
section
variable {X:Cx}{st:Stmt}{rest:List Stmt}{t u:TS}{e:Expr}{te:TE}{pos:Pos}
def tNext:TS:=fun D σ H=>D.nx σ H
def tSeq (t u:TS):TS:=fun D σ H=>t { D with nx:=u D } σ H
theorem pss_nil:PSs X [] tNext:=fun _ _ σ H _ I h=>wpAny_execs_nil ⟨σ,H,I,h⟩
theorem pss_cons (h1:PS X st t)(h2:PSs X rest u):PSs X (st::rest) (tSeq t u):=by
  intro pins s σ H D I h
  refine wpAny_execs_cons (thn (h1 pins s σ H { D with nx:=u D } I h) fun f s1 q=>?_)
  cases f with
  | next=>
    obtain ⟨σ',H',I',q⟩:=q
    exact h2 pins s1 σ' H' D I' q
  | ret v=>exact q
  | brk=>exact q
  | cont=>exact q
theorem pss_one (h1:PS X st t):PSs X [st] t:=by
  intro pins s σ H D I h
  refine wpAny_execs_cons (thn (h1 pins s σ H D I h) fun f s1 q=>?_)
  cases f with
  | next=>exact wpAny_execs_nil q
  | ret v=>exact q
  | brk=>exact q
  | cont=>exact q
def tBreak:TS:=fun D σ H=>D.bk σ H
def tCont:TS:=fun D σ H=>D.ct σ H
theorem Inv.quiet {pins:List (Addr×Obj)}{σ:St}{H:Hp}{s:Shared}(I:Inv X pins σ H s):interactive X.env=false:=by simp [interactive,I.ok.kind]
def tDrop (te:TE):TS:=fun D σ H=>te σ H fun _ H1=>D.nx σ H1
theorem ps_expr (he:PE X e te)(hs:swapsWith e none pos.line X.env=pure false:=by rfl):PS X (.Expr e pos) (tDrop te):=by
  intro pins s σ H D I h
  exact wpAny_Expr_any (thn (he pins s σ H _ I h) fun v s1 ⟨x,H1,I1,r1,q1⟩=>⟨σ,H1,I1,q1⟩) I.quiet hs
def tRet (te:TE):TS:=fun D σ H=>te σ H D.rt
theorem ps_ret (he:PE X e te):PS X (.Return (some e) pos) (tRet te):=by
  intro pins s σ H D I h
  exact wpAny_Return_some (thn (he pins s σ H _ I h) fun v s1 ⟨x,H1,I1,r1,q1⟩=>⟨x,σ,H1,I1,r1,q1⟩)
def tRetN:TS:=fun D _ H=>D.rt .non H
def tIfS (c:TT)(t u:TS):TS:=fun D σ H=>c σ H fun b H1=>if b=true then t D σ H1 else u D σ H1
theorem ps_if {c:Expr}{a b:List Stmt}{tc:TT}(hc:PT X c tc)(ha:PSs X a t)(hb:PSs X b u):PS X (.If c a b pos) (tIfS tc t u):=by
  intro pins s σ H D I h
  refine wpAny_If (thn (hc pins s σ H _ I h) fun d s1 ⟨H1,I1,q1⟩=>?_)
  cases d with
  | true=>exact ha pins s1 σ H1 D I1 q1
  | false=>exact hb pins s1 σ H1 D I1 q1
def tNever:TS:=fun _ _ _=>False
theorem ps_never:PS X st tNever:=fun _ _ _ _ _ _ h=>h.elim
end
abbrev TG:=V→St→Hp→(St→Hp→Prop)→Prop
abbrev TGs:=List V→St→Hp→(St→Hp→Prop)→Prop
def PG (X:Cx)(target:Expr)(t:TG):Prop:=
  ∀ (pins:List (Addr×Obj)) (s:Shared) (σ:St) (H:Hp) (v:V) (u:Value) (Q:St→Hp→Prop),Inv X pins σ H s→RelV v u→t v σ H Q→
    wpAny (model X.prog X.w) X.A (assign target X.env u) (fun _ s'=>∃ σ' H',Inv X pins σ' H' s'∧Q σ' H') X.xe s
def PGs (X:Cx)(ts:List Expr)(t:TGs):Prop:=
  ∀ (pins:List (Addr×Obj)) (s:Shared) (σ:St) (H:Hp) (vs:List V) (us:List Value) (Q:St→Hp→Prop),Inv X pins σ H s→Vals vs us→t vs σ H Q→
    wpAny (model X.prog X.w) X.A (assignInOrder ((assignEach ts X.env).map (·.2)) us) (fun _ s'=>∃ σ' H',Inv X pins σ' H' s'∧Q σ' H') X.xe s
abbrev TSet:=V→V→V→Hp→(Hp→Prop)→Prop
def PSet (X:Cx)(t:TSet):Prop:=
  ∀ (pins:List (Addr×Obj)) (s:Shared) (σ:St) (H:Hp) (o i v:V) (ov iv u:Value) (Q:Hp→Prop),Inv X pins σ H s→RelV o ov→RelV i iv→RelV v u→t o i v H Q→
    wpAny (model X.prog X.w) X.A (setItem ov iv u) (fun _ s'=>∃ H',Inv X pins σ H' s'∧Q H') X.xe s
abbrev TIp:=V→V→Hp→VK→Prop
def PIp (X:Cx)(op:Operator)(t:TIp):Prop:=
  ∀ (pins:List (Addr×Obj)) (s:Shared) (σ:St) (H:Hp) (x y:V) (v u:Value) (Q:VK),Inv X pins σ H s→RelV x v→RelV y u→t x y H Q→
    wpAny (model X.prog X.w) X.A (inplaceOp op v u) (EP X pins σ Q) X.xe s
section
variable {X:Cx}{pos:Pos}
def gName (i:Nat):TG:=fun v σ H Q=>Q (σ.set i (some v)) H
theorem pg_name {i:Nat}{x:Str}(hN:X.N.Nodup)(hi:X.N[i]?=some x)(hx:Loc X.env.scope x)(hf:X.fn x=true∨X.env.scope.names.lookup x=some .local:=by first | exact .inl rfl | exact .inr rfl | assumption):PG X (.Name x pos) (gName i):=by
  intro pins s σ H v u Q I r h
  exact wpAny_assign_Name (store_ok I hN hi hx r (fun s' I'=>⟨_,H,I',h⟩) hf)
def gNil:TGs:=fun vs σ H Q=>vs=[]∧Q σ H
def gCons (t:TG)(u:TGs):TGs:=fun vs σ H Q=>∃ v r,vs=v::r∧t v σ H fun σ' H'=>u r σ' H' Q
theorem pgs_nil:PGs X [] gNil:=by
  intro pins s σ H vs us Q I r h
  obtain ⟨e,h⟩:=h
  subst e
  cases r
  exact assignInOrder_nil ⟨σ,H,I,h⟩
theorem pgs_cons {e:Expr}{es:List Expr}{t:TG}{u:TGs}(h1:PG X e t)(h2:PGs X es u)
    (hs:(assignEach (e::es) X.env).map (·.2)=assign e X.env::(assignEach es X.env).map (·.2):=by rfl):PGs X (e::es) (gCons t u):=by
  intro pins s σ H vs us Q I r h
  obtain ⟨v,vr,e1,h⟩:=h
  subst e1
  cases r with
  | cons r rr=>
    rw [hs]
    refine assignInOrder_cons (thn (h1 pins s σ H _ _ _ I r h) fun _ s1 ⟨σ1,H1,I1,q1⟩=>?_)
    exact h2 pins s1 σ1 H1 _ _ Q I1 rr q1
def gTup (K:PySem.W.Frag)(n:Nat)(t:TGs):TG:=fun v σ H Q=>∃ a xs,v=.ref a∧SqT K H a xs∧xs.length=n∧t xs σ H Q
theorem pg_tup {es:List Expr}{k:Nat}{t:TGs}{n:Nat}(hc:X.calm=true)(h:PGs X es t)
    (hn:(assignEach es X.env).length=n:=by rfl) (hst:(assignEach es X.env).findIdx? (·.1)=none:=by rfl):PG X (.Tuple es k pos) (gTup X.K n t):=by
  intro pins s σ H v u Q I r hw
  obtain ⟨a,xs,e1,hq,hl,hw⟩:=hw
  subst e1
  cases r
  obtain ⟨its,rv,ht,hz⟩:=I.tuple hq
  refine assign_Tuple_tuple (I.ok.hd hc) ht (by simp [hn,← hl,rv.length]) hst fun h' hx=>?_
  have I1:Inv X pins σ H { s with heap:=h' }:=I.kept (t':=s.toks) fun b o e=>hx b o (Nat.ne_of_lt (Heap.lt_size e)) e
  exact h pins _ σ H xs _ Q I1 (by simpa using rv) hw
def gSub (to ti:TE)(t:TSet):TG:=fun v σ H Q=>to σ H fun o H1=>ti σ H1 fun i H2=>t o i v H2 fun H3=>Q σ H3
theorem pg_sub {o i:Expr}{to ti:TE}{t:TSet}(ho:PE X o to)(hi:PE X i ti)(hs:PSet X t)
    (ha:∀ v,assign (.Subscript o i pos) X.env v=(do
      let ov ← holding [v] (eval o X.env)
      let iv ← holding [v,ov] (eval i X.env)
      standAt pos
      holding [v,ov,iv] (setItem ov iv v)
      release [v,ov,iv] []):=by intro _;rfl):PG X (.Subscript o i pos) (gSub to ti t):=by
  intro pins s σ H v u Q I r h
  rw [ha]
  refine wpAny_bind (wpAny_holding (thn (ho pins s σ H _ I h) fun ov s1 ⟨x,H1,I1,r1,q1⟩=>?_))
  refine wpAny_bind (wpAny_holding (thn (hi pins s1 σ H1 _ I1 q1) fun iv s2 ⟨y,H2,I2,r2,q2⟩=>?_))
  refine wpAny_bind (wpAny_standAt (wpAny_bind (wpAny_holding (thn (hs pins s2 σ H2 x y v ov iv u _ I2 r1 r2 r q2) fun _ s3 ⟨H3,I3,q3⟩=>?_))))
  exact wpAny_release ⟨σ,H3,I3,q3⟩
def tAsg (te:TE)(g:TG):TS:=fun D σ H=>te σ H fun x H1=>g x σ H1 D.nx
theorem ps_asg {tg e:Expr}{te:TE}{g:TG}(he:PE X e te)(hg:PG X tg g)(hs:swapsWithSole [tg] e pos.line X.env=pure false:=by rfl)(hw:swappedStores [tg] e X.env=pure none:=by rfl)
    (h1:(assignEach [tg] X.env).map (·.2)=[assign tg X.env]:=by rfl):PS X (.Assign [tg] e pos) (tAsg te g):=by
  intro pins s σ H D I h
  refine wpAny_Assign_stores (thn (he pins s σ H _ I h) fun v s1 ⟨x,H1,I1,r1,q1⟩=>?_) hs hw
  rw [h1]
  exact thn (hg pins s1 σ H1 x v _ I1 r1 q1) fun _ s2 q=>q
theorem ps_set {i:Nat}{x:Str}{e:Expr}{te:TE}{pos':Pos}(hN:X.N.Nodup)(hi:X.N[i]?=some x)(hx:Loc X.env.scope x)(he:PE X e te)(hs:swapsWith e (some (.Name x pos')) pos.line X.env=pure false:=by rfl)(hf:X.fn x=true∨X.env.scope.names.lookup x=some .local:=by first | exact .inl rfl | exact .inr rfl | assumption):
    PS X (.Assign [.Name x pos'] e pos) (tAsg te (gName i)):=by
  intro pins s σ H D I h
  refine wpAny_Assign_Name (thn (he pins s σ H _ I h) fun v s1 ⟨y,H1,I1,r1,q1⟩=>?_) hs
  exact store_ok I1 hN hi hx r1 (fun s2 I2=>⟨_,H1,I2,q1⟩) hf
def tPar (i j:Nat)(ta:TA):TS:=fun D σ H=>ta σ H fun vs H1=>∃ v w,vs=[v,w]∧D.nx ((σ.set i (some v)).set j (some w)) H1
theorem ps_par {i j:Nat}{x y:Str}{a b:Expr}{ta:TA}{px py pt:Pos}{kt k2 pt2}(hc:X.calm=true)(hN:X.N.Nodup)(hi:X.N[i]?=some x)(hj:X.N[j]?=some y)(hij:i≠j)
    (hx:X.env.scope.names.lookup x=some .local) (hy:X.env.scope.names.lookup y=some .local) (ha:PA X [a,b] ta)
    (hw:swappedStores [.Tuple [.Name x px,.Name y py] kt pt] (.Tuple [a,b] k2 pt2) X.env=pure (some [x,y]))
    (hs:swapsWithSole [.Tuple [.Name x px,.Name y py] kt pt] (.Tuple [a,b] k2 pt2) pos.line X.env=pure false:=by rfl):
    PS X (.Assign [.Tuple [.Name x px,.Name y py] kt pt] (.Tuple [a,b] k2 pt2) pos) (tPar i j ta):=by
  intro pins s σ H D I h
  rw [exec_Assign_arm]
  refine wpAny_bind (wpAny_standAt ?_)
  rw [hs]
  refine wpAny_bind (wpAny_pure ?_)
  rw [if_neg (by decide)]
  refine wpAny_bind (Tuple_ (thn (ha _ pins s σ H _ I h) fun us s1 ⟨vs,H1,I1,r1,q1⟩=>?_))
  obtain ⟨v,w,e1,q1⟩:=q1
  subst e1
  obtain ⟨u1,u2,rfl,rv,rw'⟩:∃ u1 u2,us=[u1,u2]∧RelV v u1∧RelV w u2:=by
    cases r1 with
    | cons p q=>
      cases q with
      | cons p' q'=>
        cases q'
        exact ⟨_,_,rfl,p,p'⟩
  refine wpAny_newObj_type ?_ (by show 2≤sizeLine;decide)
  have I2:Inv X pins σ H1 { s1 with heap:=s1.heap.push { cls:=.type "tuple",data:=.seq [u1,u2].toArray } }:=I1.kept (t':=s1.toks) fun b o e=>Heap.get?_push_of_some _ e
  rw [hw]
  refine wpAny_bind (wpAny_pure ?_)
  show wpAny (model X.prog X.w) X.A (do rule "assign.swapped-stores";let items ← unpackItems (.ref s1.heap.objs.size) 2 none;assignInOrder [fun v=>bindName X.env y v,fun v=>bindName X.env x v] items.reverse;pure Flow.next) _ _ _
  refine wpAny_bind (wpAny_rule (wpAny_bind (unpackItems_tuple (items:=#[u1,u2]) (I.ok.hd hc) (IsTup.new s1.heap _) fun h' hx'=>?_)))
  have I3:=I2.kept (h':=h') (t':=s1.toks) fun b o e=>hx' b o (Nat.ne_of_lt (Heap.lt_size e)) e
  show wpAny _ _ (assignInOrder [fun v=>bindName X.env y v,fun v=>bindName X.env x v] [u2,u1] >>= fun _=>pure Flow.next) _ _ _
  refine wpAny_bind (assignInOrder_cons (wpAny_bindName (store_ok I3 hN hj (.inl hy) rw' (fun s2 I4=>?_) (.inr hy))))
  refine assignInOrder_cons (wpAny_bindName (store_ok I4 hN hi (.inl hx) rv (fun s3 I5=>assignInOrder_nil (wpAny_pure ?_)) (.inr hx)))
  rw [List.set_comm _ _ (Ne.symm hij)] at I5
  exact ⟨_,H1,I5,q1⟩
def tAug (i:Nat)(te:TE)(ti:TIp):TS:=fun D σ H=>∃ x,σ[i]?=some (some x)∧te σ H fun y H1=>ti x y H1 fun z H2=>D.nx (σ.set i (some z)) H2
def tAugS (to ti te:TE)(tget:V→V→Hp→VK→Prop)(tip:TIp)(tset:TSet):TS:=fun D σ H=>to σ H fun o H1=>ti σ H1 fun i H2=>tget o i H2 fun x H3=>te σ H3 fun y H4=>tip x y H4 fun z H5=>tset o i z H5 fun H6=>D.nx σ H6
def PGet (X:Cx)(t:V→V→Hp→VK→Prop):Prop:=
  ∀ (pins:List (Addr×Obj)) (s:Shared) (σ:St) (H:Hp) (o i:V) (ov iv:Value) (Q:VK),Inv X pins σ H s→RelV o ov→RelV i iv→t o i H Q→
    wpAny (model X.prog X.w) X.A (getItem ov iv) (EP X pins σ Q) X.xe s
def ipI (f:Int→Int→Int):TIp:=fun x y H Q=>∃ i j,x=.int i∧y=.int j∧Q (.int (f i j)) H
end
section
variable {X:Cx}{pos:Pos}
def tWhile (c:TT)(tb:TS):TS:=fun D σ H=>∃ W:Nat→St→Hp→Prop,(∃ m,W m σ H)∧∀ m σ H,W m σ H→
  c σ H fun b H1=>if b=true then ∃ N:St→Hp→Prop,(∀ σ' H',N σ' H'→∃ m',m'<m∧W m' σ' H')∧tb { D with nx:=N,ct:=N,bk:=D.nx } σ H1 else D.nx σ H1
theorem ps_while {c:Expr}{body:List Stmt}{tc:TT}{tb:TS}(hp:PassesOwn (model X.prog X.w) X.A X.env X.xe)(hc:PT X c tc)(hb:PSs X body tb):PS X (.While c body [] pos) (tWhile tc tb):=by
  intro pins s σ H D I h
  obtain ⟨W,⟨m0,w0⟩,turn⟩:=h
  refine wpAny_While (codeAny_whileLoop (fun n s'=>∃ σ' H',Inv X pins σ' H' s'∧W n σ' H') ?_ m0 ⟨σ,H,I,w0⟩)
  rintro n s1 ⟨σ1,H1,I1,w1⟩
  refine wpAny_passesOwn hp (thn (hc pins s1 σ1 H1 _ I1 (turn n σ1 H1 w1)) fun b s2 ⟨H2,I2,q2⟩=>?_)
  cases b with
  | true=>
    obtain ⟨N,hN,q2⟩:=q2
    rw [if_pos rfl]
    refine wpAny_passesOwn hp (thn (hb pins s2 σ1 H2 _ I2 q2) fun f s3 q3=>?_)
    cases f with
    | next=>
      obtain ⟨σ3,H3,I3,n3⟩:=q3
      obtain ⟨m',hm,w3⟩:=hN σ3 H3 n3
      exact ⟨m',hm,σ3,H3,I3,w3⟩
    | cont=>
      obtain ⟨σ3,H3,I3,n3⟩:=q3
      obtain ⟨m',hm,w3⟩:=hN σ3 H3 n3
      exact ⟨m',hm,σ3,H3,I3,w3⟩
    | brk=>exact q3
    | ret v=>exact q3
  | false=>
    rw [if_neg Bool.false_ne_true]
    exact wpAny_execs_nil ⟨σ1,H2,I2,q2⟩
end
structure It where
  go:Nat→Hp→Prop
  yld:Nat→Hp→V→Hp→Prop
  stop:Nat→Hp→Prop
def FpOk (X:Cx)(pins:List (Addr×Obj))(H:Hp)(b:Addr):Prop:=
  H b=none∧b≠X.env.locals∧b∉X.fs∧(b∈X.ex∨X.s₀.heap.objs.size≤b)∧(∀ x c,X.env.cells.lookup x=some c→c≠b)∧∀ p∈X.pn++pins,p.1≠b
theorem Inv.fpOk {X:Cx}{pins:List (Addr×Obj)}{σ:St}{H H':Hp}{s:Shared}{b:Addr}(I:Inv X pins σ H s)(hb:s.heap.objs.size≤b)(hn:H' b=none):FpOk X pins H' b:=by
  refine ⟨hn,Nat.ne_of_gt (Nat.lt_of_lt_of_le I.lt hb),I.nofs hb,.inr (Nat.le_trans I.sz hb),fun x c e z=>?_,fun p hp z=>?_⟩
  · obtain ⟨v,q⟩:=I.cell x c e
    exact absurd (Nat.lt_of_lt_of_le q.lt (by rw [z];exact hb)) (Nat.lt_irrefl _)
  · exact absurd (Nat.lt_of_lt_of_le (Heap.lt_size (I.pin p hp).1) (by rw [z];exact hb)) (Nat.lt_irrefl _)
structure Turn (P:Program)(w:World)(K:PySem.W.Frag)(tg:Expr)(J:It)(fp:List Addr)(it:Addr)(tn:Nat→Heap→Prop):Prop where
  mem:it∈fp
  obj:∀ i h,tn i h→∀ b∈fp,∃ o,h.get? b=some o∧∀ v,o.data≠.cell v
  keep:∀ i h h',tn i h→(∀ b∈fp,∀ o,h.get? b=some o→h'.get? b=some o)→tn i h'
  item:∀ (X:Cx),X.prog=P→X.w=w→X.K=K→X.calm=true→∀ (i:Nat) (pins:List (Addr×Obj)) (s:Shared) (σ:St) (H:Hp) (E:Value→Shared→Prop),Inv X pins σ H s→(∀ b∈fp,FpOk X pins H b)→tn i s.heap→J.go i H→
    wpAny (model P w) X.A (pyNext (.ref it)) (fun r s1=>∃ u,r=some u∧
      wpAny (model P w) X.A (letOwnedTupleGo tg (.ref it) u) (fun _ s2=>∃ x H',Inv X pins σ H' s2∧RelV x u∧J.yld i H x H'∧tn (i+1) s2.heap∧∀ b∈fp,H' b=none) E s1) E s
  done:∀ (X:Cx),X.prog=P→X.w=w→X.K=K→X.calm=true→∀ (i:Nat) (pins:List (Addr×Obj)) (s:Shared) (σ:St) (H:Hp) (E:Value→Shared→Prop),Inv X pins σ H s→(∀ b∈fp,FpOk X pins H b)→tn i s.heap→J.stop i H→
    wpAny (model P w) X.A (pyNext (.ref it)) (fun r s1=>r=none∧Inv X pins σ H s1) E s
  self:∀ (A:Around) (i:Nat) (s:Shared) (Q:Value→Shared→Prop) (E:Value→Shared→Prop),tn i s.heap→Q (.ref it) s→wpAny (model P w) A (pyIter (.ref it)) Q E s
abbrev TI:=St→Hp→(It→Hp→Prop)→Prop
def PIE (X:Cx)(pins:List (Addr×Obj))(σ:St)(tg:Expr)(R:It→Hp→Prop)(itv:Value)(s2:Shared):Prop:=
  ∃ (it:Addr) (fp:List Addr) (tn:Nat→Heap→Prop) (J:It) (H':Hp),itv=.ref it∧Inv X pins σ H' s2∧Turn X.prog X.w X.K tg J fp it tn∧tn 0 s2.heap∧(∀ b∈fp,FpOk X pins H' b)∧R J H'
def PI (X:Cx)(tg iter:Expr)(wi:TI):Prop:=
  ∀ (pins:List (Addr×Obj)) (s:Shared) (σ:St) (H:Hp) (R:It→Hp→Prop),Inv X pins σ H s→wi σ H R→
    wpAny (model X.prog X.w) X.A (eval iter X.env) (fun v s1=>wpAny (model X.prog X.w) X.A (pyIter v) (PIE X pins σ tg R) X.xe s1) X.xe s
theorem go_of {M:Model}{A:Around}{E:Value→Shared→Prop}{s:Shared}{tg:Expr}{it:Addr}{u:Value}{o:Obj}{n:String}{vs:Array Value}{Q:Unit→Shared→Prop}(ho:s.heap.get? it=some o)(hc:o.cls=.type n)(hd:o.data=.fields vs)
    (hn:["enumerate","zip","dict_itemiterator","dict_reverseitemiterator","odict_iterator","itertools.zip_longest","itertools.pairwise"].contains n=false) (hQ:Q () s):wpAny M A (letOwnedTupleGo tg (.ref it) u) Q E s:=by
  unfold letOwnedTupleGo
  cases tg <;> first
    | exact wpAny_pure hQ
    | (cases u <;> first
        | exact wpAny_pure hQ
        | (refine wpAny_bind (wpAny_load ho ?_)
           rw [hc,hd]
           show wpAny M A (if (["enumerate","zip","dict_itemiterator","dict_reverseitemiterator","odict_iterator","itertools.zip_longest","itertools.pairwise"].contains n&&vs[0]?==some (rawInt _))=true then _ else _) Q E s
           rw [if_neg (by intro h;rw [hn,Bool.false_and] at h;cases h)]
           exact wpAny_pure hQ))
def Itl (K:PySem.W.Frag)(a:Addr):It:=
  ⟨fun i H=>∃ xs x,SqL K H a xs∧xs[i]?=some x,fun i H x H'=>H'=H∧∀ xs,SqL K H a xs→xs[i]?=some x,fun i H=>∃ xs,SqL K H a xs∧xs.length≤i⟩
def Itt (K:PySem.W.Frag)(a:Addr):It:=
  ⟨fun i H=>∃ xs x,SqT K H a xs∧xs[i]?=some x,fun i H x H'=>H'=H∧∀ xs,SqT K H a xs→xs[i]?=some x,fun i H=>∃ xs,SqT K H a xs∧xs.length≤i⟩
def Itr (lo:Int)(n:Nat):It:=⟨fun i _=>i<n,fun i H x H'=>H'=H∧x=.int (lo+i),fun i _=>n≤i⟩
theorem turn_list {P:Program}{w:World}{K:PySem.W.Frag}{tg:Expr}(a it:Addr):Turn P w K tg (Itl K a) [it] it (fun i h=>h.IsListIter it a i) where
  mem:=by simp
  obj:=fun i h st b hb=>by
    have e:b=it:=by simpa using hb
    subst e
    obtain ⟨o,e,c,d⟩:=st
    exact ⟨o,e,fun v z=>by rw [d] at z;cases z⟩
  keep:=fun i h h' st k=>st.at fun o e=>k it (by simp) o e
  item:=by
    intro X hP hw hK hc i pins s σ H E I hf st hg
    subst hP hw hK
    obtain ⟨xs,x,hq,hx⟩:=hg
    obtain ⟨its,rv,p,hz⟩:=I.list hq
    obtain ⟨u,hu,ru⟩:=rv.get hx
    obtain ⟨f0,f1,f2,f3,f4,f5⟩:=hf it (by simp)
    refine wpAny_pyNext_list_item st p.isList (x:=u) (by simpa using hu) fun h' st' sb=>?_
    have I1:Inv X pins σ H { s with heap:=h' }:=I.turned (t':=s.toks) (fun b o hb e=>(sb.2 b hb).trans e) f0 f1 f3 f4 f5
    obtain ⟨o,e,c,d⟩:=id st'
    exact ⟨u,rfl,go_of (s:={ s with heap:=h' }) e c d (by decide) ⟨x,H,I1,ru,⟨rfl,fun ys hy=>by rw [I.list_inj hy hq];exact hx⟩,st',fun b hb=>(hf b hb).1⟩⟩
  done:=by
    intro X hP hw hK hc i pins s σ H E I hf st hg
    subst hP hw hK
    obtain ⟨xs,hq,hx⟩:=hg
    obtain ⟨its,rv,p,hz⟩:=I.list hq
    obtain ⟨f0,f1,f2,f3,f4,f5⟩:=hf it (by simp)
    have hl:=rv.length
    exact wpAny_pyNext_list_end (I.ok.hd hc) st p.isList (by simp;omega) fun h' eb=>⟨rfl,I.turned (t':=s.toks) (fun b o hb e=>eb b o hb e) f0 f1 f3 f4 f5⟩
  self:=fun _ _ _ _ _ st h=>wpAny_pyIter_listiter st h
theorem turn_tuple {P:Program}{w:World}{K:PySem.W.Frag}{tg:Expr}(a it:Addr):Turn P w K tg (Itt K a) [it] it (fun i h=>h.IsTupleIter it a i) where
  mem:=by simp
  obj:=fun i h st b hb=>by
    have e:b=it:=by simpa using hb
    subst e
    obtain ⟨o,e,c,d⟩:=st
    exact ⟨o,e,fun v z=>by rw [d] at z;cases z⟩
  keep:=fun i h h' st k=>st.at fun o e=>k it (by simp) o e
  item:=by
    intro X hP hw hK hc i pins s σ H E I hf st hg
    subst hP hw hK
    obtain ⟨xs,x,hq,hx⟩:=hg
    obtain ⟨its,rv,p,hz⟩:=I.tuple hq
    obtain ⟨u,hu,ru⟩:=rv.get hx
    obtain ⟨f0,f1,f2,f3,f4,f5⟩:=hf it (by simp)
    refine wpAny_pyNext_tuple_item st (show s.heap.IsTuple a its.toArray from p) (x:=u) (by simpa using hu) fun h' st' sb=>?_
    have I1:Inv X pins σ H { s with heap:=h' }:=I.turned (t':=s.toks) (fun b o hb e=>(sb.2 b hb).trans e) f0 f1 f3 f4 f5
    obtain ⟨o,e,c,d⟩:=id st'
    exact ⟨u,rfl,go_of (s:={ s with heap:=h' }) e c d (by decide) ⟨x,H,I1,ru,⟨rfl,fun ys hy=>by rw [I.tuple_inj hy hq];exact hx⟩,st',fun b hb=>(hf b hb).1⟩⟩
  done:=by
    intro X hP hw hK hc i pins s σ H E I hf st hg
    subst hP hw hK
    obtain ⟨xs,hq,hx⟩:=hg
    obtain ⟨its,rv,p,hz⟩:=I.tuple hq
    obtain ⟨f0,f1,f2,f3,f4,f5⟩:=hf it (by simp)
    have hl:=rv.length
    exact wpAny_pyNext_tuple_end (I.ok.hd hc) st (show s.heap.IsTuple a its.toArray from p) (by simp;omega) fun h' eb=>⟨rfl,I.turned (t':=s.toks) (fun b o hb e=>eb b o hb e) f0 f1 f3 f4 f5⟩
  self:=fun _ _ _ _ _ st h=>wpAny_pyIter_tupleiter st h
theorem turn_range {P:Program}{w:World}{K:PySem.W.Frag}{tg:Expr}(it:Addr)(lo:Int)(n:Nat):Turn P w K tg (Itr lo n) [it] it (fun i h=>IsRangeIter h it (lo+(i:Nat)*1) ((n:Int)-(i:Nat)) 1) where
  mem:=by simp
  obj:=fun i h st b hb=>by
    have e:b=it:=by simpa using hb
    subst e
    exact ⟨_,st,fun v z=>by
      have z':Data.fields _=Data.cell v:=z
      cases z'⟩
  keep:=fun i h h' st k=>k it (by simp) _ st
  item:=by
    intro X hP hw hK hc i pins s σ H E I hf st hg
    subst hP hw hK
    obtain ⟨f0,f1,f2,f3,f4,f5⟩:=hf it (by simp)
    have W:=Walks.range (prog:=X.prog) (w:=X.w) (I.ok.hd hc) it lo 1 n
    refine W.item i s _ _ hg st fun v h' tk hv st' kk=>?_
    obtain ⟨t,rfl⟩:=hv
    have I1:Inv X pins σ H { s with heap:=h',toks:=tk }:=I.turned (fun b o hb e=>kk b o (by simpa using hb) e) f0 f1 f3 f4 f5
    refine ⟨_,rfl,go_of (s:={ s with heap:=h',toks:=tk }) (n:="range_iterator") st' rfl rfl (by decide) ⟨.int (lo+i),H,I1,⟨t,?_⟩,⟨rfl,rfl⟩,st',fun b hb=>(hf b hb).1⟩⟩
    rw [Int.mul_one]
  done:=by
    intro X hP hw hK hc i pins s σ H E I hf st hg
    subst hP hw hK
    obtain ⟨f0,f1,f2,f3,f4,f5⟩:=hf it (by simp)
    exact wpAny_pyNext_range_end (I.ok.hd hc) st (by have:n≤i:=hg;omega) fun h' eb=>⟨rfl,I.turned (t':=s.toks) (fun b o hb e=>eb b o hb e) f0 f1 f3 f4 f5⟩
  self:=fun _ _ _ _ _ st h=>wpAny_pyIter_rangeiter st h
end L2
namespace L2
open PySem PySem.Spec PyProof.Rows
section
variable {X:Cx}{tg:Expr}
def iList (K:PySem.W.Frag)(tl:TE):TI:=fun σ H R=>tl σ H fun x H1=>∃ a,x=.ref a∧(∃ xs,SqL K H1 a xs)∧R (Itl K a) H1
def iTup (K:PySem.W.Frag)(tl:TE):TI:=fun σ H R=>tl σ H fun x H1=>∃ a,x=.ref a∧(∃ xs,SqT K H1 a xs)∧R (Itt K a) H1
theorem pi_list {l:Expr}{tl:TE}(hl:PE X l tl):PI X tg l (iList X.K tl):=by
  intro pins s σ H R I h
  refine thn (hl pins s σ H _ I h) fun v s1 ⟨x,H1,I1,r1,q1⟩=>?_
  obtain ⟨a,e,⟨xs,hq⟩,q⟩:=q1
  subst e
  cases r1
  obtain ⟨its,rv,p,hz⟩:=I1.list hq
  refine wpAny_pyIter_list p.isList ?_
  refine ⟨s1.heap.objs.size,[s1.heap.objs.size],_,_,H1,rfl,I1.kept (t':=s1.toks) fun b o e=>Heap.get?_push_of_some _ e,turn_list a _,⟨_,Heap.get?_push_size _ rfl,rfl,rfl⟩,fun b hb=>?_,q⟩
  have e:b=s1.heap.objs.size:=by simpa using hb
  subst e
  exact I1.fpOk (Nat.le_refl _) (I1.hok.fresh (Nat.le_refl _))
theorem pi_tup {l:Expr}{tl:TE}(hl:PE X l tl):PI X tg l (iTup X.K tl):=by
  intro pins s σ H R I h
  refine thn (hl pins s σ H _ I h) fun v s1 ⟨x,H1,I1,r1,q1⟩=>?_
  obtain ⟨a,e,⟨xs,hq⟩,q⟩:=q1
  subst e
  cases r1
  obtain ⟨its,rv,p,hz⟩:=I1.tuple hq
  refine wpAny_pyIter_tuple (show s1.heap.IsTuple a its.toArray from p) ?_
  refine ⟨s1.heap.objs.size,[s1.heap.objs.size],_,_,H1,rfl,I1.kept (t':=s1.toks) fun b o e=>Heap.get?_push_of_some _ e,turn_tuple a _,⟨_,Heap.get?_push_size _ rfl,rfl,rfl⟩,fun b hb=>?_,q⟩
  have e:b=s1.heap.objs.size:=by simpa using hb
  subst e
  exact I1.fpOk (Nat.le_refl _) (I1.hok.fresh (Nat.le_refl _))
theorem range_it {pins:List (Addr×Obj)}{σ:St}{H:Hp}{s:Shared}{R:It→Hp→Prop}{E:Value→Shared→Prop}{lo hi:Int}{t u v:Tok}{tk:Nat}(I:Inv X pins σ H s)(h1:-(2 ^ 62)≤lo)(h2:lo<2 ^ 62)(h3:-(2 ^ 62)≤hi)(h4:hi<2 ^ 62)
    (q:R (Itr lo (hi-lo).toNat) H):wpAny (model X.prog X.w) X.A (pyIter (.ref s.heap.objs.size)) (PIE X pins σ tg R) E { s with heap:=s.heap.push { cls:=.type "range",data:=.fields #[.int lo t,.int hi u,.int 1 v] },toks:=tk }:=by
  refine wpAny_pyIter_range (IsRange.new ..) (small_one h1 h2 h3 h4) ?_
  have I1:Inv X pins σ H { s with heap:=s.heap.push { cls:=.type "range",data:=.fields #[.int lo t,.int hi u,.int 1 v] },toks:=tk }:=I.kept fun b o e=>Heap.get?_push_of_some _ e
  refine ⟨(s.heap.push { cls:=.type "range",data:=.fields #[.int lo t,.int hi u,.int 1 v] }).objs.size,[(s.heap.push { cls:=.type "range",data:=.fields #[.int lo t,.int hi u,.int 1 v] }).objs.size],_,_,H,rfl,
    I1.kept (t':=tk) fun b o e=>Heap.get?_push_of_some _ e,turn_range _ lo (hi-lo).toNat,?_,fun b hb=>?_,q⟩
  · have e1:lo+((0:Nat):Int)*1=lo:=by simp
    have e2:(((hi-lo).toNat:Nat):Int)-((0:Nat):Int)=Builtin.Range.rangeSize lo hi 1:=by rw [rangeSize_one];split <;> omega
    show IsRangeIter _ _ (lo+((0:Nat):Int)*1) ((((hi-lo).toNat:Nat):Int)-((0:Nat):Int)) 1
    rw [e1,e2]
    exact Heap.get?_push_size _ rfl
  · have e:b=(s.heap.push { cls:=.type "range",data:=.fields #[.int lo t,.int hi u,.int 1 v] }).objs.size:=by simpa using hb
    subst e
    exact I1.fpOk (Nat.le_refl _) (I1.hok.fresh (Nat.le_refl _))
def iRng1 (ta:TA):TI:=fun σ H R=>ta σ H fun vs H1=>∃ j:Int,vs=[.int j]∧-(2 ^ 62)≤j∧j<2 ^ 62∧R (Itr 0 j.toNat) H1
def iRng2 (ta:TA):TI:=fun σ H R=>ta σ H fun vs H1=>∃ i j:Int,vs=[.int i,.int j]∧(-(2 ^ 62)≤i∧i<2 ^ 62∧-(2 ^ 62)≤j∧j<2 ^ 62)∧R (Itr i (j-i).toNat) H1
theorem pi_range1 {a:Expr}{ta:TA}{p pos:Pos}(hg:Gl X "range")(hm:X.mg "range"=none)(ha:PA X [a] ta)(hs:starEach [a] X.env=[(false,eval a X.env)]:=by rfl):PI X tg (.Call (.Name "range" p) [a] [] pos) (iRng1 ta):=by
  intro pins s σ H R I h
  refine Call_ (ld_blt I hg hm boot_range (PyProof.Rows.callWith_type1 (thn (ha pos pins s σ H _ I h) fun us s1 ⟨vs,H1,I1,r1,q1⟩=>?_) hs rfl))
  obtain ⟨j,e,q1,q2,q⟩:=q1
  subst e
  cases r1 with
  | cons r rr=>
    cases rr
    obtain ⟨t,rfl⟩:=r
    exact call_range_1 (range_it I1 (by omega) (by omega) q1 q2 (by simpa using q))
theorem pi_range2 {a b:Expr}{ta:TA}{p pos:Pos}(hg:Gl X "range")(hm:X.mg "range"=none)(ha:PA X [a,b] ta)(hs:starEach [a,b] X.env=[(false,eval a X.env),(false,eval b X.env)]:=by rfl)(hs2:starEach [b] X.env=[(false,eval b X.env)]:=by rfl):
    PI X tg (.Call (.Name "range" p) [a,b] [] pos) (iRng2 ta):=by
  intro pins s σ H R I h
  refine Call_ (ld_blt I hg hm boot_range (PyProof.Rows.callWith_type1 (thn (ha pos pins s σ H _ I h) fun us s1 ⟨vs,H1,I1,r1,q1⟩=>?_) (by rw [hs,hs2]) (by rw [hs2];rfl)))
  obtain ⟨i,j,e,⟨q1,q2,q3,q4⟩,q⟩:=q1
  subst e
  cases r1 with
  | cons r rr=>
    cases rr with
    | cons r' rr=>
      cases rr
      obtain ⟨t,rfl⟩:=r
      obtain ⟨t',rfl⟩:=r'
      exact call_range_2 (range_it I1 q1 q2 q3 q4 q)
def tFor (wi:TI)(g:TG)(tb:TS):TS:=fun D σ H=>wi σ H fun J H1=>∃ W:Nat→Nat→St→Hp→Prop,(∃ m,W 0 m σ H1)∧∀ i m σ H,W i m σ H→
  (J.stop i H∧D.nx σ H)∨(J.go i H∧∃ N:St→Hp→Prop,(∀ σ' H',N σ' H'→∃ m',m'<m∧W (i+1) m' σ' H')∧∀ x H',J.yld i H x H'→g x σ H' fun σ2 H2=>tb { D with nx:=N,ct:=N,bk:=D.nx } σ2 H2)
def pinsAt (fp:List Addr)(h:Heap):List (Addr×Obj):=fp.filterMap fun b=>(h.get? b).map fun o=>(b,o)
theorem mem_pinsAt {fp:List Addr}{h:Heap}{b:Addr}{o:Obj}(hb:b∈fp)(e:h.get? b=some o):(b,o)∈pinsAt fp h:=List.mem_filterMap.mpr ⟨b,hb,by rw [e];rfl⟩
theorem of_pinsAt {fp:List Addr}{h:Heap}{p:Addr×Obj}(hp:p∈pinsAt fp h):p.1∈fp∧h.get? p.1=some p.2:=by
  obtain ⟨b,hb,e⟩:=List.mem_filterMap.mp hp
  cases q:h.get? b with
  | none=>rw [q] at e;cases e
  | some o=>
    rw [q] at e
    have e':(b,o)=p:=Option.some.inj e
    subst e'
    exact ⟨hb,q⟩
theorem Inv.pinned {pins:List (Addr×Obj)}{σ:St}{H:Hp}{s:Shared}{fp:List Addr}(I:Inv X pins σ H s)(hf:∀ b∈fp,FpOk X pins H b)(ho:∀ b∈fp,∃ o,s.heap.get? b=some o∧∀ v,o.data≠.cell v):Inv X (pins++pinsAt fp s.heap) σ H s:=
  I.pins_of fun p hp=>(List.mem_append.mp hp).elim (fun z=>I.pin p (List.mem_append_right _ z)) fun z=>by
    obtain ⟨hb,e⟩:=of_pinsAt z
    obtain ⟨f0,f1,f2,_⟩:=hf p.1 hb
    obtain ⟨o,e',d⟩:=ho p.1 hb
    rw [e] at e';cases e'
    exact ⟨e,f0,f1,f2,d⟩
theorem Inv.unpinned {pins pl:List (Addr×Obj)}{σ:St}{H:Hp}{s:Shared}(I:Inv X (pins++pl) σ H s):Inv X pins σ H s:=I.pins_of fun p hp=>I.pin p (List.mem_append_right _ (List.mem_append_left _ hp))
theorem ps_for {iter:Expr}{body:List Stmt}{wi:TI}{g:TG}{tb:TS}{pos:Pos}(hp:PassesOwn (model X.prog X.w) X.A X.env X.xe)(hc:X.calm=true)(hi:PI X tg iter wi)(hg:PG X tg g)(hb:PSs X body tb)
    (hs:∀ x,foldedSetIterable iter X.env x=pure x:=by intro _;rfl):PS X (.For tg iter body [] pos) (tFor wi g tb):=by
  intro pins s σ H D I h
  refine wpAny_For (thn (hi pins s σ H _ I h) fun v s1 h1=>thn h1 fun itv s2 h2=>?_) hs
  obtain ⟨it,fp,tn,J,H2,e,I2,T,st2,f2,W,⟨m0,w0⟩,turn⟩:=h2
  subst e
  have stat:∀ {H':Hp},(∀ b∈fp,H' b=none)→∀ b∈fp,FpOk X pins H' b:=fun hn b hb=>⟨hn b hb,(f2 b hb).2⟩
  refine codeAny_forLoop_any (fun n s'=>∃ i σ' H',Inv X pins σ' H' s'∧tn i s'.heap∧(∀ b∈fp,H' b=none)∧W i n σ' H') ?_ m0 ⟨0,σ,H2,I2,st2,fun b hb=>(f2 b hb).1,w0⟩
  rintro n s3 ⟨i,σ3,H3,I3,st3,fr3,w3⟩
  rcases turn i n σ3 H3 w3 with ⟨stop,qn⟩ | ⟨go,N,hN,step⟩
  · refine wpAny_passesOwn hp (thn (T.done X rfl rfl rfl hc i pins s3 σ3 H3 X.xe I3 (stat fr3) st3 stop) fun r s4 ⟨hr,I4⟩=>?_)
    subst hr
    exact wpAny_execs_nil ⟨σ3,H3,I4,qn⟩
  · refine wpAny_passesOwn hp (thn (T.item X rfl rfl rfl hc i pins s3 σ3 H3 X.xe I3 (stat fr3) st3 go) fun r s4 ⟨u,hr,h4⟩=>?_)
    subst hr
    refine wpAny_passesOwn hp (thn h4 fun _ s5 ⟨x,H5,I5,r5,y5,st5,fr5⟩=>?_)
    have I5':=I5.pinned (stat fr5) (T.obj _ _ st5)
    refine wpAny_passesOwn hp (thn (hg _ s5 σ3 H5 x u _ I5' r5 (step x H5 y5)) fun _ s6 ⟨σ6,H6,I6,q6⟩=>?_)
    refine wpAny_passesOwn hp (thn (hb _ s6 σ6 H6 _ I6 q6) fun f s7 q7=>?_)
    have again:∀ {σ7:St} {H7:Hp},Inv X (pins++pinsAt fp s5.heap) σ7 H7 s7→N σ7 H7→∃ m,m<n∧∃ i σ' H',Inv X pins σ' H' s7∧tn i s7.heap∧(∀ b∈fp,H' b=none)∧W i m σ' H':=fun {σ7 H7} I7 n7=>by
      obtain ⟨m',hm,w7⟩:=hN σ7 H7 n7
      refine ⟨m',hm,i+1,σ7,H7,I7.unpinned,T.keep _ _ _ st5 fun b hb o e=>(I7.pin (b,o) (List.mem_append_right _ (List.mem_append_right _ (mem_pinsAt hb e)))).1,fun b hb=>?_,w7⟩
      obtain ⟨o,e,d⟩:=T.obj _ _ st5 b hb
      exact (I7.pin (b,o) (List.mem_append_right _ (List.mem_append_right _ (mem_pinsAt hb e)))).2.1
    cases f with
    | next=>obtain ⟨σ7,H7,I7,n7⟩:=q7;exact again I7 n7
    | cont=>obtain ⟨σ7,H7,I7,n7⟩:=q7;exact again I7 n7
    | brk=>obtain ⟨σ7,H7,I7,q7⟩:=q7;exact ⟨σ7,H7,I7.unpinned,q7⟩
    | ret v=>obtain ⟨x7,σ7,H7,I7,r7,q7⟩:=q7;exact ⟨x7,σ7,H7,I7.unpinned,r7,q7⟩
end
theorem for_list {K:PySem.W.Frag}{a:Addr}{xs:List V}{g:TG}{tb:TS}{D:Ends}{σ:St}{H:Hp}(Pv:Nat→St→Hp→Prop)(h0:Pv 0 σ H)(hl:∀ i σ H,i≤xs.length→Pv i σ H→SqL K H a xs)
    (hs:∀ i x σ H,xs[i]?=some x→Pv i σ H→g x σ H fun σ2 H2=>tb { D with nx:=Pv (i+1),ct:=Pv (i+1),bk:=D.nx } σ2 H2) (hd:∀ σ H,Pv xs.length σ H→D.nx σ H):
    ∃ W:Nat→Nat→St→Hp→Prop,(∃ m,W 0 m σ H)∧∀ i m σ H,W i m σ H→
      ((Itl K a).stop i H∧D.nx σ H)∨((Itl K a).go i H∧∃ N:St→Hp→Prop,(∀ σ' H',N σ' H'→∃ m',m'<m∧W (i+1) m' σ' H')∧∀ x H',(Itl K a).yld i H x H'→g x σ H' fun σ2 H2=>tb { D with nx:=N,ct:=N,bk:=D.nx } σ2 H2):=by
  refine ⟨fun i m σ H=>m=xs.length-i∧i≤xs.length∧Pv i σ H,⟨xs.length,by simp,Nat.zero_le _,h0⟩,?_⟩
  rintro i m σ H ⟨rfl,hi,p⟩
  have q:=hl i σ H hi p
  by_cases hlt:i<xs.length
  · refine .inr ⟨⟨xs,xs[i],q,by simp [hlt]⟩,Pv (i+1),fun σ' H' p'=>⟨xs.length-(i+1),by omega,rfl,hlt,p'⟩,fun x H' y=>?_⟩
    obtain ⟨e,y⟩:=y
    subst e
    exact hs i x σ _ (y xs q) p
  · have e:i=xs.length:=by omega
    subst e
    exact .inl ⟨⟨xs,q,Nat.le_refl _⟩,hd σ H p⟩
theorem for_tup {K:PySem.W.Frag}{a:Addr}{xs:List V}{g:TG}{tb:TS}{D:Ends}{σ:St}{H:Hp}(Pv:Nat→St→Hp→Prop)(h0:Pv 0 σ H)(hl:∀ i σ H,i≤xs.length→Pv i σ H→SqT K H a xs)
    (hs:∀ i x σ H,xs[i]?=some x→Pv i σ H→g x σ H fun σ2 H2=>tb { D with nx:=Pv (i+1),ct:=Pv (i+1),bk:=D.nx } σ2 H2) (hd:∀ σ H,Pv xs.length σ H→D.nx σ H):
    ∃ W:Nat→Nat→St→Hp→Prop,(∃ m,W 0 m σ H)∧∀ i m σ H,W i m σ H→
      ((Itt K a).stop i H∧D.nx σ H)∨((Itt K a).go i H∧∃ N:St→Hp→Prop,(∀ σ' H',N σ' H'→∃ m',m'<m∧W (i+1) m' σ' H')∧∀ x H',(Itt K a).yld i H x H'→g x σ H' fun σ2 H2=>tb { D with nx:=N,ct:=N,bk:=D.nx } σ2 H2):=by
  refine ⟨fun i m σ H=>m=xs.length-i∧i≤xs.length∧Pv i σ H,⟨xs.length,by simp,Nat.zero_le _,h0⟩,?_⟩
  rintro i m σ H ⟨rfl,hi,p⟩
  have q:=hl i σ H hi p
  by_cases hlt:i<xs.length
  · refine .inr ⟨⟨xs,xs[i],q,by simp [hlt]⟩,Pv (i+1),fun σ' H' p'=>⟨xs.length-(i+1),by omega,rfl,hlt,p'⟩,fun x H' y=>?_⟩
    obtain ⟨e,y⟩:=y
    subst e
    exact hs i x σ _ (y xs q) p
  · have e:i=xs.length:=by omega
    subst e
    exact .inl ⟨⟨xs,q,Nat.le_refl _⟩,hd σ H p⟩
theorem for_range {lo:Int}{n:Nat}{g:TG}{tb:TS}{D:Ends}{σ:St}{H:Hp}(Pv:Nat→St→Hp→Prop)(h0:Pv 0 σ H)
    (hs:∀ i σ H,i<n→Pv i σ H→g (.int (lo+i)) σ H fun σ2 H2=>tb { D with nx:=Pv (i+1),ct:=Pv (i+1),bk:=D.nx } σ2 H2) (hd:∀ σ H,Pv n σ H→D.nx σ H):
    ∃ W:Nat→Nat→St→Hp→Prop,(∃ m,W 0 m σ H)∧∀ i m σ H,W i m σ H→
      ((Itr lo n).stop i H∧D.nx σ H)∨((Itr lo n).go i H∧∃ N:St→Hp→Prop,(∀ σ' H',N σ' H'→∃ m',m'<m∧W (i+1) m' σ' H')∧∀ x H',(Itr lo n).yld i H x H'→g x σ H' fun σ2 H2=>tb { D with nx:=N,ct:=N,bk:=D.nx } σ2 H2):=by
  refine ⟨fun i m σ H=>m=n-i∧i≤n∧Pv i σ H,⟨n,by simp,Nat.zero_le _,h0⟩,?_⟩
  rintro i m σ H ⟨rfl,hi,p⟩
  by_cases hlt:i<n
  · refine .inr ⟨hlt,Pv (i+1),fun σ' H' p'=>⟨n-(i+1),by omega,rfl,hlt,p'⟩,fun x H' y=>?_⟩
    obtain ⟨e,y⟩:=y
    subst e y
    exact hs i σ _ hlt p
  · have e:i=n:=by omega
    subst e
    exact .inl ⟨Nat.le_refl _,hd σ H p⟩
theorem while_by {c:TT}{tb:TS}{D:Ends}{σ:St}{H:Hp}(Pv:St→Hp→Prop)(μ:St→Hp→Nat)(h0:Pv σ H)
    (hs:∀ σ H,Pv σ H→c σ H fun b H1=>if b=true then tb { D with nx:=fun σ' H'=>Pv σ' H'∧μ σ' H'<μ σ H,ct:=fun σ' H'=>Pv σ' H'∧μ σ' H'<μ σ H,bk:=D.nx } σ H1 else D.nx σ H1)
    (mono:∀ σ H Q Q',(∀ b H1,Q b H1→Q' b H1)→c σ H Q→c σ H Q'):tWhile c tb D σ H:=by
  refine ⟨fun m σ H=>m=μ σ H∧Pv σ H,⟨_,rfl,h0⟩,?_⟩
  rintro m σ H ⟨rfl,p⟩
  refine mono σ H _ _ (fun b H1 q=>?_) (hs σ H p)
  cases b with
  | true=>exact ⟨_,fun σ' H' ⟨p',l⟩=>⟨_,l,rfl,p'⟩,q⟩
  | false=>exact q
end L2
namespace L2
open PySem PySem.Spec PyProof.Rows
abbrev R2:=V→V→Hp→VK→Prop
def OpR (X:Cx)(f:Value→Value→Sem Value)(r:R2):Prop:=
  ∀ (pins:List (Addr×Obj)) (s:Shared) (σ:St) (H:Hp) (x y:V) (v u:Value) (Q:VK),Inv X pins σ H s→RelV x v→RelV y u→r x y H Q→
    wpAny (model X.prog X.w) X.A (f v u) (EP X pins σ Q) X.xe s
def UnR (X:Cx)(f:Value→Sem Value)(r:V→Hp→VK→Prop):Prop:=
  ∀ (pins:List (Addr×Obj)) (s:Shared) (σ:St) (H:Hp) (x:V) (v:Value) (Q:VK),Inv X pins σ H s→RelV x v→r x H Q→
    wpAny (model X.prog X.w) X.A (f v) (EP X pins σ Q) X.xe s
def CallR (X:Cx)(f:Value)(r:List V→Hp→VK→Prop):Prop:=
  ∀ (pins:List (Addr×Obj)) (s:Shared) (σ:St) (H:Hp) (xs:List V) (us:List Value) (Q:VK),Inv X pins σ H s→Vals xs us→r xs H Q→
    wpAny (model X.prog X.w) X.A (call f us) (EP X pins σ Q) X.xe s
def TruR (X:Cx)(r:V→Hp→(Bool→Hp→Prop)→Prop):Prop:=
  ∀ (pins:List (Addr×Obj)) (s:Shared) (σ:St) (H:Hp) (x:V) (v:Value) (Q:Bool→Hp→Prop),Inv X pins σ H s→RelV x v→r x H Q→
    wpAny (model X.prog X.w) X.A (truthy v) (TP X pins σ Q) X.xe s
def tOp (r:R2)(ta tb:TE):TE:=fun σ H Q=>ta σ H fun x H1=>tb σ H1 fun y H2=>r x y H2 Q
def tUn (r:V→Hp→VK→Prop)(ta:TE):TE:=fun σ H Q=>ta σ H fun x H1=>r x H1 Q
def rI (C:Int→Int→Prop)(g:Int→Int→V):R2:=fun x y H Q=>∃ i j,x=.int i∧y=.int j∧C i j∧Q (g i j) H
def rI0 (g:Int→Int→V):R2:=fun x y H Q=>∃ i j,x=.int i∧y=.int j∧Q (g i j) H
def rU (g:Int→V):V→Hp→VK→Prop:=fun x H Q=>∃ i,x=.int i∧Q (g i) H
section
variable {X:Cx}{a b c:Expr}{ta tb tc:TE}{pos:Pos}
theorem binT (ha:PE X a ta)(hb:PE X b tb){pins:List (Addr×Obj)}{s:Shared}{σ:St}{H:Hp}{R:V→V→Hp→Prop}(I:Inv X pins σ H s)
    (h:ta σ H fun x H1=>tb σ H1 fun y H2=>R x y H2) {Q:Value→Shared→Prop} {f:Value→Value→Sem Value}
    (hf:∀ v u s2 x y H2,Inv X pins σ H2 s2→RelV x v→RelV y u→R x y H2→wpAny (model X.prog X.w) X.A (f v u) Q X.xe s2):
    wpAny (model X.prog X.w) X.A (eval a X.env) (fun v s₁=>wpAny (model X.prog X.w) X.A (eval b X.env) (fun u s₂=>wpAny (model X.prog X.w) X.A (f v u) Q X.xe s₂) X.xe s₁) X.xe s:=by
  refine thn (ha pins s σ H _ I h) fun v s1 ⟨x,H1,I1,r1,q1⟩=>?_
  refine thn (hb pins s1 σ H1 _ I1 q1) fun u s2 ⟨y,H2,I2,r2,q2⟩=>?_
  exact hf v u s2 x y H2 I2 r1 r2 q2
theorem pe_op {op:Operator}{r:R2}(ho:OpR X (binaryOp op) r)(ha:PE X a ta)(hb:PE X b tb):PE X (.BinOp a op b pos) (tOp r ta tb):=by
  intro pins s σ H Q I h
  exact wpAny_BinOp (binT ha hb I h fun v u s2 x y H2 I2 rx ry q=>ho pins s2 σ H2 x y v u Q I2 rx ry q)
theorem pe_un {op:UnaryOp}{r:V→Hp→VK→Prop}(ho:UnR X (unaryOp op) r)(ha:PE X a ta):PE X (.UnaryOp op a pos) (tUn r ta):=by
  intro pins s σ H Q I h
  exact UnaryOp_ (thn (ha pins s σ H _ I h) fun v s1 ⟨x,H1,I1,r1,q1⟩=>ho pins s1 σ H1 x v Q I1 r1 q1)
theorem opI {f:Value→Value→Sem Value}{C:Int→Int→Prop}{g:Int→Int→Int}
    (rule:∀ (i j:Int) (t u:Tok) (s:Shared) (Q:Value→Shared→Prop) (E:Value→Shared→Prop),C i j→Q (.int (g i j) s.toks) { s with toks:=s.toks+1 }→wpAny (model X.prog X.w) X.A (f (.int i t) (.int j u)) Q E s):
    OpR X f (rI C fun i j=>.int (g i j)):=by
  intro pins s σ H x y v u Q I rx ry h
  obtain ⟨i,j,rfl,rfl,hc,q⟩:=h
  obtain ⟨t,rfl⟩:=rx
  obtain ⟨t',rfl⟩:=ry
  exact rule i j t t' s _ _ hc ⟨.int (g i j),H,I.tok _,⟨_,rfl⟩,q⟩
theorem opI0 {f:Value→Value→Sem Value}{g:Int→Int→Int}
    (rule:∀ (i j:Int) (t u:Tok) (s:Shared) (Q:Value→Shared→Prop) (E:Value→Shared→Prop),Q (.int (g i j) s.toks) { s with toks:=s.toks+1 }→wpAny (model X.prog X.w) X.A (f (.int i t) (.int j u)) Q E s):
    OpR X f (rI0 fun i j=>.int (g i j)):=by
  intro pins s σ H x y v u Q I rx ry h
  obtain ⟨i,j,rfl,rfl,q⟩:=h
  obtain ⟨t,rfl⟩:=rx
  obtain ⟨t',rfl⟩:=ry
  exact rule i j t t' s _ _ ⟨.int (g i j),H,I.tok _,⟨_,rfl⟩,q⟩
theorem opB0 {f:Value→Value→Sem Value}{g:Int→Int→Bool}
    (rule:∀ (i j:Int) (t u:Tok) (s:Shared) (Q:Value→Shared→Prop) (E:Value→Shared→Prop),Q (.bool (g i j)) s→wpAny (model X.prog X.w) X.A (f (.int i t) (.int j u)) Q E s):
    OpR X f (rI0 fun i j=>.bl (g i j)):=by
  intro pins s σ H x y v u Q I rx ry h
  obtain ⟨i,j,rfl,rfl,q⟩:=h
  obtain ⟨t,rfl⟩:=rx
  obtain ⟨t',rfl⟩:=ry
  exact rule i j t t' s _ _ ⟨.bl (g i j),H,I,rfl,q⟩
def CDiv (i j:Int):Prop:=0<j∧j<1073741824
def CDivN (i j:Int):Prop:=j≠0∧j.natAbs<1073741824
def CPow (i j:Int):Prop:=0≤j∧j≤1000000∧i.natAbs<2 ^ 64
def CMul (i j:Int):Prop:=(-(2 ^ 64)<i∧i<2 ^ 64)∨(-(2 ^ 64)<j∧j<2 ^ 64)
theorem CMul.ok {i j:Int}(h:CMul i j):IntMulOk i j:=by
  rcases h with ⟨h1,h2⟩ | ⟨h1,h2⟩
  · exact .of_left (intBits_le_64 h1 h2)
  · exact .of_right (intBits_le_64 h1 h2)
theorem op_add:OpR X (binaryOp .Add) (rI0 fun i j=>.int (i+j)):=opI0 fun _ _ _ _ _ _ _ q=>add_int q
theorem op_sub:OpR X (binaryOp .Sub) (rI0 fun i j=>.int (i-j)):=opI0 fun _ _ _ _ _ _ _ q=>sub_int q
theorem op_fdiv:OpR X (binaryOp .FloorDiv) (rI CDiv fun i j=>.int (i / j)):=opI fun i j _ _ _ _ _ hc q=>by
  have h1:(0:Int)<j:=hc.1
  have h2:j<1073741824:=hc.2
  exact floordiv_int (by omega) (by rw [Int.fdiv_eq_ediv_of_nonneg i (by omega)];exact q) (.inl (PyProof.noPylong_small (by omega)))
theorem op_mod:OpR X (binaryOp .Mod) (rI (fun _ j=>0<j) fun i j=>.int (i%j)):=opI fun i j _ _ _ _ _ hc q=>by
  have h1:(0:Int)<j:=hc
  exact mod_int' (by omega) (by rw [Int.fmod_eq_emod_of_nonneg i (by omega)];exact q)
theorem op_pow:OpR X (binaryOp .Pow) (rI CPow fun i j=>.int (i ^ j.toNat)):=opI fun _ _ _ _ _ _ _ hc q=>pow_int_small hc.1 hc.2.1 hc.2.2 q
theorem unI {f:Value→Sem Value}{g:Int→Int}
    (rule:∀ (i:Int) (t:Tok) (s:Shared) (Q:Value→Shared→Prop) (E:Value→Shared→Prop),Q (.int (g i) s.toks) { s with toks:=s.toks+1 }→wpAny (model X.prog X.w) X.A (f (.int i t)) Q E s):
    UnR X f (rU fun i=>.int (g i)):=by
  intro pins s σ H x v Q I rx h
  obtain ⟨i,rfl,q⟩:=h
  obtain ⟨t,rfl⟩:=rx
  exact rule i t s _ _ ⟨.int (g i),H,I.tok _,⟨_,rfl⟩,q⟩
theorem un_neg:UnR X (unaryOp .USub) (rU fun i=>.int (-i)):=unI fun _ _ _ _ _ q=>neg_int q
end
def scal:V→V→Bool
  | .non,.non=>true | .non,.int _=>true | .int _,.non=>true | .non,.bl _=>true | .bl _,.non=>true | .non,.str _=>true | .str _,.non=>true
  | .int _,.int _=>true | .bl _,.bl _=>true | .str _,.str _=>true | .byt _,.byt _=>true
  | .int _,.str _=>true | .str _,.int _=>true | .bl _,.str _=>true | .str _,.bl _=>true
  | _,_=>false
def rEq:R2:=fun x y H Q=>scal x y=true∧Q (.bl (decide (x=y))) H
def rNe:R2:=fun x y H Q=>scal x y=true∧Q (.bl (!decide (x=y))) H
theorem dec_int {i j:Int}:decide (V.int i=V.int j)=(i==j):=by
  rw [Bool.eq_iff_iff]
  simp
theorem dec_bl {i j:Bool}:decide (V.bl i=V.bl j)=(i==j):=by
  rw [Bool.eq_iff_iff]
  simp
theorem dec_str {i j:Str}:decide (V.str i=V.str j)=(i==j):=by
  rw [Bool.eq_iff_iff]
  simp
theorem dec_byt {i j:Array UInt8}:decide (V.byt i=V.byt j)=(i.toList==j.toList):=by
  rw [Bool.eq_iff_iff]
  cases i
  cases j
  simp
section
variable {X:Cx}{a b c:Expr}{ta tb tc:TE}{pos:Pos}
theorem fin_bl {pins:List (Addr×Obj)}{σ:St}{H:Hp}{s:Shared}{Q:VK}{k k':Bool}(I:Inv X pins σ H s)(q:Q (.bl k) H)(e:k=k'):EP X pins σ Q (.bool k') s:=by
  subst e
  exact ⟨.bl k,H,I,rfl,q⟩
theorem op_eq:OpR X (compareOp .Eq) rEq:=by
  intro pins s σ H x y v u Q I rx ry h
  obtain ⟨hs,q⟩:=h
  cases x with
  | non=>
    cases rx
    cases y with
    | non=>cases ry;exact PySem.EqNone.eq_none_none (fin_bl I q (by simp))
    | bl j=>cases ry;exact PySem.EqNone.eq_none_bool (fin_bl I q (by simp))
    | int j=>obtain ⟨t',rfl⟩:=ry;exact PySem.EqNone.eq_none_int (fin_bl I q (by simp))
    | str j=>obtain ⟨t',rfl⟩:=ry;exact PySem.EqNone.eq_none_str (fin_bl I q (by simp))
    | _=>exact absurd (show false=true from hs) Bool.false_ne_true
  | bl i=>
    cases rx
    cases y with
    | non=>cases ry;exact PySem.EqNone.eq_bool_none (fin_bl I q (by simp))
    | bl j=>cases ry;exact eq_bool (fin_bl I q dec_bl)
    | str j=>obtain ⟨t',rfl⟩:=ry;exact PySem.EqMixed.eq_bool_str (fin_bl I q (by simp))
    | _=>exact absurd (show false=true from hs) Bool.false_ne_true
  | int i=>
    obtain ⟨t,rfl⟩:=rx
    cases y with
    | non=>cases ry;exact PySem.EqNone.eq_int_none (fin_bl I q (by simp))
    | int j=>obtain ⟨t',rfl⟩:=ry;exact eq_int (fin_bl I q dec_int)
    | str j=>obtain ⟨t',rfl⟩:=ry;exact PySem.EqMixed.eq_int_str (fin_bl I q (by simp))
    | _=>exact absurd (show false=true from hs) Bool.false_ne_true
  | str i=>
    obtain ⟨t,rfl⟩:=rx
    cases y with
    | non=>cases ry;exact PySem.EqNone.eq_str_none (fin_bl I q (by simp))
    | bl j=>cases ry;exact PySem.EqMixed.eq_str_bool (fin_bl I q (by simp))
    | int j=>obtain ⟨t',rfl⟩:=ry;exact PySem.EqMixed.eq_str_int (fin_bl I q (by simp))
    | str j=>obtain ⟨t',rfl⟩:=ry;exact eq_str (fin_bl I q dec_str)
    | _=>exact absurd (show false=true from hs) Bool.false_ne_true
  | byt i=>
    obtain ⟨t,rfl⟩:=rx
    cases y with
    | byt j=>obtain ⟨t',rfl⟩:=ry;exact PySem.W.eq_bytes (fin_bl I q dec_byt)
    | _=>exact absurd (show false=true from hs) Bool.false_ne_true
  | _=>cases y <;> exact absurd (show false=true from hs) Bool.false_ne_true
theorem op_ne:OpR X (compareOp .NotEq) rNe:=by
  intro pins s σ H x y v u Q I rx ry h
  obtain ⟨hs,q⟩:=h
  cases x with
  | non=>
    cases rx
    cases y with
    | non=>cases ry;exact PySem.EqNone.ne_none_none (fin_bl I q (by simp))
    | bl j=>cases ry;exact PySem.EqNone.ne_none_bool (fin_bl I q (by simp))
    | int j=>obtain ⟨t',rfl⟩:=ry;exact PySem.EqNone.ne_none_int (fin_bl I q (by simp))
    | str j=>obtain ⟨t',rfl⟩:=ry;exact PySem.EqNone.ne_none_str (fin_bl I q (by simp))
    | _=>exact absurd (show false=true from hs) Bool.false_ne_true
  | bl i=>
    cases rx
    cases y with
    | non=>cases ry;exact PySem.EqNone.ne_bool_none (fin_bl I q (by simp))
    | bl j=>cases ry;exact ne_bool (fin_bl I q (congrArg not dec_bl))
    | str j=>obtain ⟨t',rfl⟩:=ry;exact PySem.EqMixed.ne_bool_str (fin_bl I q (by simp))
    | _=>exact absurd (show false=true from hs) Bool.false_ne_true
  | int i=>
    obtain ⟨t,rfl⟩:=rx
    cases y with
    | non=>cases ry;exact PySem.EqNone.ne_int_none (fin_bl I q (by simp))
    | int j=>obtain ⟨t',rfl⟩:=ry;exact ne_int (fin_bl I q (congrArg not dec_int))
    | str j=>obtain ⟨t',rfl⟩:=ry;exact PySem.EqMixed.ne_int_str (fin_bl I q (by simp))
    | _=>exact absurd (show false=true from hs) Bool.false_ne_true
  | str i=>
    obtain ⟨t,rfl⟩:=rx
    cases y with
    | non=>cases ry;exact PySem.EqNone.ne_str_none (fin_bl I q (by simp))
    | bl j=>cases ry;exact PySem.EqMixed.ne_str_bool (fin_bl I q (by simp))
    | int j=>obtain ⟨t',rfl⟩:=ry;exact PySem.EqMixed.ne_str_int (fin_bl I q (by simp))
    | str j=>obtain ⟨t',rfl⟩:=ry;exact ne_str (fin_bl I q (congrArg not dec_str))
    | _=>exact absurd (show false=true from hs) Bool.false_ne_true
  | byt i=>
    obtain ⟨t,rfl⟩:=rx
    cases y with
    | byt j=>obtain ⟨t',rfl⟩:=ry;exact PySem.W.ne_bytes (fin_bl I q (congrArg not dec_byt))
    | _=>exact absurd (show false=true from hs) Bool.false_ne_true
  | _=>cases y <;> exact absurd (show false=true from hs) Bool.false_ne_true
theorem op_lt:OpR X (compareOp .Lt) (rI0 fun i j=>.bl (decide (i<j))):=opB0 fun _ _ _ _ _ _ _ q=>lt_int q
theorem op_le:OpR X (compareOp .LtE) (rI0 fun i j=>.bl (decide (i≤j))):=opB0 fun _ _ _ _ _ _ _ q=>le_int q
theorem op_gt:OpR X (compareOp .Gt) (rI0 fun i j=>.bl (decide (j<i))):=opB0 fun _ _ _ _ _ _ _ q=>gt_int q
theorem op_ge:OpR X (compareOp .GtE) (rI0 fun i j=>.bl (decide (j≤i))):=opB0 fun _ _ _ _ _ _ _ q=>ge_int q
theorem op_isN:OpR X (compareOp .Is) (fun x y H Q=>y=.non∧Q (.bl (decide (x=.non))) H):=by
  intro pins s σ H x y v u Q I rx ry h
  obtain ⟨rfl,q⟩:=h
  cases ry
  refine is_none_gen (fin_bl I q ?_)
  cases x <;> first
    | (cases rx;rfl)
    | (obtain ⟨t,rfl⟩:=rx;rfl)
theorem op_notN:OpR X (compareOp .IsNot) (fun x y H Q=>y=.non∧Q (.bl (!decide (x=.non))) H):=by
  intro pins s σ H x y v u Q I rx ry h
  obtain ⟨rfl,q⟩:=h
  cases ry
  refine isnot_none_gen (fin_bl I q ?_)
  cases x <;> first
    | (cases rx;rfl)
    | (obtain ⟨t,rfl⟩:=rx;rfl)
def isObj:HO→Bool
  | .lst _=>true
  | .ins _ _ _=>true
  | _=>false
theorem OpR.or {f:Value→Value→Sem Value}{r r':R2}(h:OpR X f r)(h':OpR X f r'):OpR X f (fun x y H Q=>r x y H Q∨r' x y H Q):=by
  intro pins s σ H x y v u Q I rx ry q
  rcases q with q | q
  · exact h pins s σ H x y v u Q I rx ry q
  · exact h' pins s σ H x y v u Q I rx ry q
theorem nomark (b:Expr){op:CmpOp}(h:op≠.In:=by decide)(h2:op≠.NotIn:=by decide):behindInMarks op b=false:=by
  have e1:(op==CmpOp.In)=false:=by cases op <;> first | rfl | exact absurd rfl h
  have e2:(op==CmpOp.NotIn)=false:=by cases op <;> first | rfl | exact absurd rfl h2
  cases b <;> simp [behindInMarks,e1,e2]
theorem pe_cmpR {op:CmpOp}{r:R2}(ho:OpR X (compareOp op) r)(ha:PE X a ta)(hb:PE X b tb)(hm:behindInMarks op b=false):PE X (.Compare a [op] [b] pos) (tOp r ta tb):=by
  intro pins s σ H Q I h
  exact wpAny_Compare1 (binT ha hb I h fun v u s2 x y H2 I2 rx ry q=>ho pins s2 σ H2 x y v u Q I2 rx ry q) hm
def tTest (t:TE):TT:=fun σ H Q=>t σ H fun x H'=>∃ k,x=.bl k∧Q k H'
theorem pt_cmpR {op:CmpOp}{r:R2}(ho:OpR X (compareOp op) r)(ha:PE X a ta)(hb:PE X b tb)(hm:behindInMarks op b=false):PT X (.Compare a [op] [b] pos) (tTest (tOp r ta tb)):=by
  intro pins s σ H Q I h
  refine wpAny_isTrue_Compare1 (thn (ha pins s σ H _ I h) fun v s1 ⟨x,H1,I1,r1,q1⟩=>thn (hb pins s1 σ H1 _ I1 q1) fun u s2 ⟨y,H2,I2,r2,q2⟩=>
    thn (ho pins s2 σ H2 x y v u _ I2 r1 r2 q2) fun c s3 ⟨z,H3,I3,r3,k,e,q3⟩=>?_) hm
  subst e
  cases r3
  exact wpAny_truthy_bool ⟨H3,I3,q3⟩
def tChain (r r':R2)(ta tb tc:TE):TE:=fun σ H Q=>ta σ H fun x H1=>tb σ H1 fun y H2=>r x y H2 fun z H3=>∃ k,z=.bl k∧
  (if k=true then tc σ H3 fun w' H4=>r' y w' H4 Q else Q (.bl false) H3)
def TruV (K:PySem.W.Frag)(x:V)(H:Hp)(k:Bool):Prop:=
  match x with
  | .non=>k=false
  | .bl b=>k=b
  | .int i=>k=(i != 0)
  | .str y=>y.length≤sizeLine∧k=((y.length:Int) != 0)
  | .byt y=>y.size≤sizeLine∧k=((y.size:Int) != 0)
  | .ref p=>(∃ xs,SqL K H p xs∧k=!xs.isEmpty)∨(∃ xs,SqT K H p xs∧k=!xs.isEmpty)∨∃ kvs,H p=some (.dK kvs)∧k=!kvs.isEmpty
  | _=>False
theorem line63:(sizeLine:Nat)<2 ^ 63:=by rw [sizeLine_eq];decide
def PlainIxT (b:Expr):Prop:=∀ o i,subscripted b false o i=operate [o,i] (getItem o i)
theorem vals1 {x:V}{us:List Value}(r:Vals [x] us):∃ u,us=[u]∧RelV x u:=by
  cases r with
  | cons r1 r2=>cases r2;exact ⟨_,rfl,r1⟩
theorem vals2 {x y:V}{us:List Value}(r:Vals [x,y] us):∃ u w',us=[u,w']∧RelV x u∧RelV y w':=by
  cases r with
  | cons r1 r2=>
    cases r2 with
    | cons r3 r4=>cases r4;exact ⟨_,_,rfl,r1,r3⟩
theorem call_abs:CallR X (.builtin "abs") (fun xs H Q=>∃ i,xs=[.int i]∧Q (.int (if i<0 then -i else i)) H):=by
  intro pins s σ H xs us Q I r h
  obtain ⟨i,rfl,q⟩:=h
  obtain ⟨u,rfl,t,rfl⟩:=vals1 r
  exact call_abs_int fun u tk=>⟨.int (if i<0 then -i else i),H,I.tok _,⟨_,rfl⟩,q⟩
theorem call_max2 (hc:X.calm=true):CallR X (.builtin "max") (fun xs H Q=>∃ i j,xs=[.int i,.int j]∧Q (.int (if j>i then j else i)) H):=by
  intro pins s σ H xs us Q I r h
  obtain ⟨i,j,rfl,q⟩:=h
  obtain ⟨u,w',rfl,⟨t,rfl⟩,⟨t',rfl⟩⟩:=vals2 r
  refine max_two_ints (I.ok.hd hc) fun h' tk k=>⟨_,H,I.kept k,?_,q⟩
  by_cases hj:j>i
  · rw [if_pos hj,if_pos hj];exact ⟨_,rfl⟩
  · rw [if_neg hj,if_neg hj];exact ⟨_,rfl⟩
theorem call_int1:CallR X (.type "int") (fun xs H Q=>(∃ i,xs=[.int i]∧Q (.int i) H)∨∃ k,xs=[.bl k]∧Q (.int (if k then 1 else 0)) H):=by
  intro pins s σ H xs us Q I r h
  rcases h with ⟨i,rfl,q⟩ | ⟨k,rfl,q⟩
  · obtain ⟨u,rfl,t,rfl⟩:=vals1 r
    exact call_int_int ⟨.int i,H,I,⟨_,rfl⟩,q⟩
  · obtain ⟨u,rfl,r1⟩:=vals1 r
    cases r1
    exact call_int_bool ⟨.int (if k then 1 else 0),H,I.tok _,⟨_,rfl⟩,q⟩
def LenV (K:PySem.W.Frag)(x:V)(H:Hp)(n:Nat):Prop:=
  match x with
  | .str y=>y.length≤sizeLine∧n=y.length
  | .byt y=>y.size≤sizeLine∧n=y.size
  | .ref p=>(∃ xs,SqL K H p xs∧n=xs.length)∨∃ xs,SqT K H p xs∧n=xs.length
  | _=>False
end
end L2
namespace L2
open PySem PySem.Spec PyProof.Rows
structure ObjM (h:Heap)(x dx C:Addr)(mA:Str→Option Value):Prop where
  obj:h.get? x=some (PySem.W.instObj C dx)
  ns:h.Ns1 dx mA
  ne:dx≠x
theorem lookIn_ns {h:Heap}{dx:Addr}{mA:Str→Option Value}(n:h.Ns1 dx mA):∃ od,h.get? dx=some od∧∀ name,PySem.W.lookIn name od=some (mA name):=by
  obtain ⟨o,es,ep,ho,hd,hk,_,hm⟩:=n
  refine ⟨o,ho,fun name=>?_⟩
  have e:=hm name
  unfold nsFind findBy at e
  rw [← Array.find?_toList] at e
  unfold PySem.W.lookIn
  rw [hd]
  dsimp only
  split
  · rename_i y q
    rw [q] at e
    exact congrArg some e
  · rename_i q
    rw [q] at e
    have a:es.toList.any (·.refKey)=false:=by
      rw [List.any_eq_false]
      intro y hy
      obtain ⟨z,t,hkey⟩:=hk y (Array.mem_toList_iff.mp hy)
      simp [DictEntry.refKey,hkey]
    have a':¬ es.toList.any (·.refKey)=true:=by rw [a];exact Bool.false_ne_true
    rw [if_neg a']
    exact congrArg some e
theorem ObjM.look {h:Heap}{x dx C:Addr}{mA:Str→Option Value}(I:ObjM h x dx C mA):∃ od,PySem.W.InstAt h x (PySem.W.instObj C dx) C (some od)∧∀ name,PySem.W.lookIn name od=some (mA name):=
  let ⟨od,ho,hl⟩:=lookIn_ns I.ns
  ⟨od,⟨I.obj,rfl,rfl,ho⟩,hl⟩
section
variable {prog:Program}{w:World}{A:Around}{E:Value→Shared→Prop}{s:Shared}{K:PySem.W.Frag}{x dx C f:Addr}{mA:Str→Option Value}{name:Str}{v:Value}
end
def putF (f:Str)(v:V):List (Str×V)→List (Str×V)
  | []=>[(f,v)]
  | (g,x)::r=>if g=f then (g,v)::r else (g,x)::putF f v r
theorem RelO.some_of {v:V}{o:Option Value}(r:RelO (some v) o):∃ u,o=some u∧RelV v u:=by
  cases o with
  | none=>exact (show False from r).elim
  | some u=>exact ⟨u,rfl,r⟩
section
variable {P:Program}{w:World}{H H':Hp}{h h':Heap}{a C dx:Addr}{fs fs':List (Str×V)}
theorem ins_get (hok:HOk P w H h)(e:H a=some (.ins C dx fs)):∃ mA,ObjM h a dx C mA∧(∀ f,RelO (fs.lookup f) (mA f))∧PySem.Within mA (fs.map (·.1))∧fs.length≤1000∧H dx=some (.own a):=by
  obtain ⟨d,z,ne,ob,mA,n,r,q⟩:=(show ObjOk P w H h a (.ins C dx fs) from hok a _ e)
  exact ⟨mA,⟨ob,n,ne⟩,r,q,z,d⟩
end
structure Cls (K:PySem.W.Frag)(C:Addr):Prop where
  pg:PySem.W.plainGet K C Str.empty=true
  hd:PySem.W.hasDictIn K C=true
  po:PySem.W.plainOver K C=true
  sa:PySem.W.findIn K (.ref C) "__setattr__"=some (some (.builtin "object.__setattr__"))
theorem Cls.get {K:PySem.W.Frag}{C:Addr}(c:Cls K C)(f:Str):PySem.W.plainGet K C f=true:=c.pg
def NoAttr (K:PySem.W.Frag)(C:Addr)(f:Str):Prop:=PySem.W.findIn K (.ref C) f=some none
structure Con (K:PySem.W.Frag)(C:Addr)(f:Str)(v:V)(u:Value):Prop where
  at_:PySem.W.findIn K (.ref C) f=some (some u)
  rel:RelV v u
  get:PySem.W.specialIn K u "__get__"=some none
  cp:PySem.W.copiedNames.contains f=false
structure Meth (K:PySem.W.Frag)(C:Addr)(m:Str)(f:Addr):Prop where
  at_:PySem.W.findIn K (.ref C) m=some (some (.ref f))
  fn:PySem.W.isFn K (.ref f)=true
  kp:PySem.W.keepIn K (.ref f)=true
section
variable {X:Cx}{pins:List (Addr×Obj)}{σ:St}{H:Hp}{s:Shared}{a C dx:Addr}{fs:List (Str×V)}{f:Str}{v:V}{A:Around}{E:Value→Shared→Prop}
theorem Inv.made (I:Inv X pins σ H s):Inv X pins σ (upd (upd H s.heap.objs.size (.own (s.heap.objs.size+1))) (s.heap.objs.size+1) (.ins C s.heap.objs.size []))
    { s with heap:=(s.heap.push PySem.W.emptyDict).push (PySem.W.instObj C s.heap.objs.size) }:=by
  have e1:(s.heap.push PySem.W.emptyDict).get? s.heap.objs.size=some PySem.W.emptyDict:=Heap.get?_push_size s.heap rfl
  have e2:((s.heap.push PySem.W.emptyDict).push (PySem.W.instObj C s.heap.objs.size)).get? (s.heap.objs.size+1)=some (PySem.W.instObj C s.heap.objs.size):=by
    have:=Heap.get?_push_size (s.heap.push PySem.W.emptyDict) (o:=PySem.W.instObj C s.heap.objs.size) rfl
    rwa [Heap.size_push] at this
  have e3:(s.heap.push PySem.W.emptyDict).Ns s.heap.objs.size (fun _=>none):=⟨PySem.W.emptyDict,#[],_,e1,rfl,(fun e he=>absurd he (by simp)),fun _=>rfl⟩
  have I1:=I.laid (a:=s.heap.objs.size) (o:=.own (s.heap.objs.size+1)) (h':=s.heap.push PySem.W.emptyDict) (t':=s.toks) (fun b u q=>Heap.get?_push_of_some _ q) (Nat.le_refl _) ⟨_,e1⟩
  refine I1.laid (a:=s.heap.objs.size+1) (o:=.ins C s.heap.objs.size []) (t':=s.toks) (fun b u q=>Heap.get?_push_of_some _ q) (Nat.le_of_eq (Heap.size_push _ _)) ?_
  have ne:s.heap.objs.size≠s.heap.objs.size+1:=Nat.ne_of_lt (Nat.lt_succ_self _)
  refine ⟨by rw [upd_ne ne,upd_same],Nat.zero_le _,ne,e2,fun _=>none,(Heap.Ns1.of_empty e3).at fun o q=>Heap.get?_push_of_some _ q,fun _=>True.intro,fun y hy=>absurd rfl hy⟩
end
def tFld (K:PySem.W.Frag)(ta:TE)(f:Str):TE:=fun σ H Q=>ta σ H fun x H1=>∃ a C dx fs v,x=.ref a∧H1 a=some (.ins C dx fs)∧Cls K C∧NoAttr K C f∧fs.lookup f=some v∧Q v H1
def tCon (K:PySem.W.Frag)(ta:TE)(f:Str):TE:=fun σ H Q=>ta σ H fun x H1=>∃ a C dx fs v u,x=.ref a∧H1 a=some (.ins C dx fs)∧Cls K C∧Con K C f v u∧fs.lookup f=none∧Q v H1
def sFld (K:PySem.W.Frag)(ta tv:TE)(f:Str):TS:=fun D σ H=>tv σ H fun y H1=>ta σ H1 fun x H2=>∃ a C dx fs,x=.ref a∧H2 a=some (.ins C dx fs)∧Cls K C∧NoAttr K C f∧fs.length<1000∧
  D.nx σ (upd H2 a (.ins C dx (putF f y fs)))
def InOp (X:Cx)(op:Operator)(rd:V→V→Hp→VK→Prop):Prop:=
  ∀ (pins:List (Addr×Obj)) (s:Shared) (σ:St) (H:Hp) (x y:V) (u v:Value) (Q:VK),Inv X pins σ H s→RelV x u→RelV y v→rd x y H Q→wpAny (model X.prog X.w) X.A (inplaceOp op u v) (EP X pins σ Q) X.xe s
def sFldAug (K:PySem.W.Frag)(ta tv:TE)(rd:V→V→Hp→VK→Prop)(f:Str):TS:=fun D σ H=>ta σ H fun x H1=>∃ a C dx fs v,x=.ref a∧H1 a=some (.ins C dx fs)∧Cls K C∧NoAttr K C f∧fs.lookup f=some v∧
  tv σ H1 fun y H2=>rd v y H2 fun z H3=>∃ dx' fs',H3 a=some (.ins C dx' fs')∧fs'.length<1000∧D.nx σ (upd H3 a (.ins C dx' (putF f z fs')))
section
variable {X:Cx}{o e value:Expr}{f:Str}{pos pos' tpos:Pos}{ta tv:TE}
def rAdd:V→V→Hp→VK→Prop:=fun x y H Q=>∃ i j,x=.int i∧y=.int j∧Q (.int (i+j)) H
def rSub:V→V→Hp→VK→Prop:=fun x y H Q=>∃ i j,x=.int i∧y=.int j∧Q (.int (i-j)) H
end
section
variable {X:Cx}{pins:List (Addr×Obj)}{σ:St}{H:Hp}{s:Shared}{A:Around}{E:Value→Shared→Prop}{Q:Value→Shared→Prop}{c:Value}{b:Bool}
inductive TyOf (K:PySem.W.Frag)(H:Hp):V→Value→Prop where
  | non:TyOf K H .non (.type "NoneType")
  | bl (x:Bool):TyOf K H (.bl x) (.type "bool")
  | int (i:Int):TyOf K H (.int i) (.type "int")
  | str (x:Str):TyOf K H (.str x) (.type "str")
  | flt (x:UInt64):TyOf K H (.flt x) (.type "float")
  | lst {a:Addr} {xs:List V} (e:H a=some (.lst xs)):TyOf K H (.ref a) (.type "list")
  | frz {a:Addr} {o:Obj} {xs:List V} (e:H a=some (.frz o (.lst xs))):TyOf K H (.ref a) (.type "list")
  | tup {a:Addr} {xs:List V} (e:H a=some (.tup xs)):TyOf K H (.ref a) (.type "tuple")
  | dK {a:Addr} {kvs:List (Key×V)} (e:H a=some (.dK kvs)):TyOf K H (.ref a) (.type "dict")
  | dT {a:Addr} {kvs:List (List Key×V)} (e:H a=some (.dT kvs)):TyOf K H (.ref a) (.type "dict")
  | ins {a C dx:Addr} {fs:List (Str×V)} (e:H a=some (.ins C dx fs)) (cl:Cls K C) (ha:PySem.W.findIn K (.ref C) "__class__"=some (some (.builtin "object.__class__")))
      (hn:PySem.W.specialIn K (.builtin "object.__class__") "__get__"=some (some (.builtin "getset_descriptor.__get__"))) (htk:PySem.W.takesIn K (.builtin "object.__class__")=some true)
      (hm:PySem.W.mroIn K C (.type "object")=some true):TyOf K H (.ref a) (.ref C)
theorem isinst_ok {x:V}{u t:Value}(I:Inv X pins σ H s)(rx:RelV x u)(ty:TyOf X.K H x t)(e:PySem.W.kitOne X.K t c=some b)(h:∀ tk,Q (.bool b) { s with toks:=tk }):
    wpAny (model X.prog X.w) A (call (.builtin "isinstance") [u,c]) Q E s:=by
  cases ty with
  | non=>cases (show u=Value.none from rx);exact PySem.W.kia_one PySem.W.kitx_none I.kIn True.intro e (fun z=>nomatch z) h
  | bl y=>cases (show u=Value.bool y from rx);exact PySem.W.kia_one PySem.W.kitx_bool I.kIn True.intro e (fun z=>nomatch z) h
  | int i=>obtain ⟨t,q⟩:=(show ∃ t,u=Value.int i t from rx);cases q;exact PySem.W.kia_one PySem.W.kitx_int I.kIn True.intro e (fun z=>nomatch z) h
  | str y=>obtain ⟨t,q⟩:=(show ∃ t,u=Value.str y t from rx);cases q;exact PySem.W.kia_one PySem.W.kitx_str I.kIn True.intro e (fun z=>nomatch z) h
  | flt y=>obtain ⟨t,q⟩:=(show ∃ t,u=Value.float y t from rx);cases q;exact PySem.W.kia_one PySem.W.kitx_float I.kIn True.intro e (fun z=>nomatch z) h
  | @lst a xs ea=>
    cases (show u=Value.ref a from rx)
    obtain ⟨_,_,n,_,h1⟩:=(show ObjOk X.prog X.w H s.heap a (.lst xs) from I.hok a _ ea)
    exact PySem.W.kia_one PySem.W.kitx_list I.kIn ⟨_,h1,rfl⟩ e (fun z=>nomatch z) h
  | @frz a ob xs ea=>
    cases (show u=Value.ref a from rx)
    obtain ⟨_,_,_,n,_,h1⟩:=(show ObjOk X.prog X.w H s.heap a (.frz ob (.lst xs)) from I.hok a _ ea)
    exact PySem.W.kia_one PySem.W.kitx_list I.kIn ⟨_,h1,rfl⟩ e (fun z=>nomatch z) h
  | @tup a xs ea=>
    cases (show u=Value.ref a from rx)
    obtain ⟨_,_,_,p⟩:=(show ObjOk X.prog X.w H s.heap a (.tup xs) from I.hok a _ ea)
    obtain ⟨o,h1,h2,_⟩:=p
    exact PySem.W.kia_one PySem.W.kitx_tuple I.kIn ⟨o,h1,h2⟩ e (fun z=>nomatch z) h
  | @dK a kvs ea=>
    cases (show u=Value.ref a from rx)
    obtain ⟨_,_,vs,_,p⟩:=(show ObjOk X.prog X.w H s.heap a (.dK kvs) from I.hok a _ ea)
    obtain ⟨o,es,ep,h1,h2,_⟩:=p
    exact PySem.W.kia_one PySem.W.kitx_dict I.kIn ⟨o,h1,h2.1⟩ e (fun z=>nomatch z) h
  | @dT a kvs ea=>
    cases (show u=Value.ref a from rx)
    obtain ⟨_,_,xs,_,o,es,ep,h1,h2,_⟩:=(show ObjOk X.prog X.w H s.heap a (.dT kvs) from I.hok a _ ea)
    exact PySem.W.kia_one PySem.W.kitx_dict I.kIn ⟨o,h1,h2.1⟩ e (fun z=>nomatch z) h
  | @ins a C dx fs ea cl ha hn htk hm=>
    cases (show u=Value.ref a from rx)
    obtain ⟨mA,O,_⟩:=ins_get I.hok ea
    obtain ⟨od,J,_⟩:=O.look
    exact PySem.W.kia_one (PySem.W.kitx_own (cl.get _) cl.hd ha hn htk hm) I.kIn J e (fun z=>nomatch z) h
end
end L2
namespace L2
open PySem PySem.Spec PyProof.Rows
structure Room (k:Nat)(A:Around):Prop where
  hd:A.handled=none
  dp:A.depth+3*k+5<recursionLimit
  un:A.units+16*k+200<cLine
theorem Room.mono {j k:Nat}{A:Around}(r:Room k A)(h:j≤k):Room j A:=⟨r.hd,by have:=r.dp;omega,by have:=r.un;omega⟩
theorem Room.deeper {k:Nat}{A:Around}(r:Room (k+1) A)(env:Env):Room k (A.deeper env):=
  ⟨r.hd,by have:=r.dp;show A.depth+1+3*k+5<_;omega,by have:=r.un;show A.units+3+16*k+200<_;omega⟩
theorem Room.in1 {k:Nat}{A:Around}(r:Room (k+1) A):Room k A.in1:=
  ⟨r.hd,by have:=r.dp;show A.depth+3*k+5<_;omega,by have:=r.un;show A.units+1+16*k+200<_;omega⟩
theorem Room.depth {k:Nat}{A:Around}(r:Room k A):A.depth<recursionLimit:=by have:=r.dp;omega
theorem Room.units {k:Nat}{A:Around}(r:Room k A):A.units+64<cLine:=by have:=r.un;omega
theorem Room.units0 {k:Nat}{A:Around}(r:Room k A):A.units<cLine:=by have:=r.un;omega
def tNil:TA:=fun _ H Q=>Q [] H
def tCons (ta:TE)(tr:TA):TA:=fun σ H Q=>ta σ H fun x H1=>tr σ H1 fun xs H2=>Q (x::xs) H2
section
variable {X:Cx}{e:Expr}{es:List Expr}{te:TE}{t:TA}{pos:Pos}
theorem pa_nil:PA X [] tNil:=fun _ _ _ _ H Q I h=>Calls.spliced_nil ⟨[],H,I,.nil,h⟩
theorem pa_cons (ha:PE X e te)(hr:PA X es t)(hs:starEach (e::es) X.env=(false,eval e X.env)::starEach es X.env:=by rfl):PA X (e::es) (tCons te t):=by
  intro pos pins s σ H Q I h
  rw [hs]
  show wpAny _ _ (spliced ((false,eval e X.env)::backTo pos (starEach es X.env))) _ _ s
  refine Calls.spliced_cons (thn (ha pins s σ H _ I h) fun u s1 ⟨x,H1,I1,r1,q1⟩=>?_)
  exact thn (hr pos pins s1 σ H1 _ I1 q1) fun us s2 ⟨xs,H2,I2,r2,q2⟩=>⟨x::xs,H2,I2,.cons r1 r2,q2⟩
def tTup (t:TA):TE:=fun σ H Q=>t σ H fun xs H1=>xs.length≤sizeLine∧∀ p,H1 p=none→Q (.ref p) (upd H1 p (.tup xs))
def tLst (t:TA):TE:=fun σ H Q=>t σ H fun xs H1=>xs.length≤sizeLine∧∀ p,H1 p=none→Q (.ref p) (upd H1 p (.lst xs))
theorem pe_tup {x1}(h:PA X es t):PE X (.Tuple es x1 pos) (tTup t):=by
  intro pins s σ H Q I hq
  refine wpAny_Tuple_spliced (thn (h pos pins s σ H _ I hq) fun us s1 ⟨xs,H1,I1,r,z,q⟩=>⟨by rw [← r.length];exact z,?_⟩)
  have hf:H1 s1.heap.objs.size=none:=I1.hok.fresh (Nat.le_refl _)
  refine ⟨.ref s1.heap.objs.size,upd H1 s1.heap.objs.size (.tup xs),I1.laid (t':=s1.toks) (fun b u e=>Heap.get?_push_of_some _ e) (Nat.le_refl _) ?_,rfl,q _ hf⟩
  exact ⟨z,us,r,⟨_,Heap.get?_push_size _ rfl,rfl,_,rfl⟩⟩
theorem pe_lst (h:PA X es t):PE X (.List es pos) (tLst t):=by
  intro pins s σ H Q I hq
  refine wpAny_List_spliced (thn (h pos pins s σ H _ I hq) fun us s1 ⟨xs,H1,I1,r,z,q⟩=>⟨by rw [← r.length];exact z,?_⟩)
  have hf:H1 s1.heap.objs.size=none:=I1.hok.fresh (Nat.le_refl _)
  refine ⟨.ref s1.heap.objs.size,upd H1 s1.heap.objs.size (.lst xs),I1.laid (t':=s1.toks) (fun b u e=>Heap.get?_push_of_some _ e) (Nat.le_refl _) ?_,rfl,q _ hf⟩
  exact ⟨z,us,0,r,Heap.get?_push_size _ rfl⟩
end
abbrev Sp:=List V→Hp→VK→XK→Prop
abbrev CXT:=List Env→Hp→Shared→XK→Value→Shared→Prop
structure Env0 (P:Program)(w:World)(K:PySem.W.Frag)(mg:Str→Option Value)(base:Heap)(A:Around)(outer:List Env)(s:Shared)(H:Hp):Prop where
  frames:A.frames=some outer
  mod:Mod K mg base
  bs:∀ b o,base.get? b=some o→s.heap.get? b=some o∧H b=none
  bsz:base.objs.size≤s.heap.objs.size
  funs:s.heap.FunFrames base outer
  frf:∀ b∈frs outer,H b=none
  hok:HOk P w H s.heap
  bare:AllBare s.gens
def CE (outer:List Env)(P:Program)(w:World)(H:Hp)(s:Shared)(Q:VK)(u:Value)(s':Shared):Prop:=
  ∃ v H',s'.os=s.os∧AllBare s'.gens∧Un (frs outer) [] H H' s.heap s'.heap∧HOk P w H' s'.heap∧RelV v u∧Q v H'
def CR (CX:CXT)(outer:List Env)(P:Program)(w:World)(H:Hp)(s:Shared)(Q:VK)(E:XK)(r:Result)(s':Shared):Prop:=
  match r with
  | .ok (.ret u)=>CE outer P w H s Q u s'
  | .ok _=>False
  | .error e=>CX outer H s E e s'
structure FnOk (P:Program)(w:World)(K:PySem.W.Frag)(mg:Str→Option Value)(base:Heap)(CX:CXT)(k:Nat)(f:Addr)(fd:FuncData)(ps:List Str)(sp:Sp):Prop where
  len:∀ vs H Q E,sp vs H Q E→vs.length=ps.length
  run:∀ (A:Around) (outer:List Env) (s:Shared) (H:Hp) (args:Args) (us:List Value) (vs:List V) (Q:VK) (E:XK),Room k A→Env0 P w K mg base A outer s H→BindsTo s fd args (ps.zip us)→Vals vs us→sp vs H Q E→
    codeAny (model P w) A (.call (.ref f) args) (CR CX outer P w H s Q E) s
theorem FnOk.mono {P:Program}{w:World}{K:PySem.W.Frag}{mg:Str→Option Value}{base:Heap}{CX:CXT}{j k:Nat}{f:Addr}{fd:FuncData}{ps:List Str}{sp:Sp}(F:FnOk P w K mg base CX j f fd ps sp)(h:j≤k):
    FnOk P w K mg base CX k f fd ps sp:=⟨F.len,fun A outer s H args us vs Q E hr=>F.run A outer s H args us vs Q E (hr.mono h)⟩
theorem FnOk.imp {P:Program}{w:World}{K:PySem.W.Frag}{mg:Str→Option Value}{base:Heap}{CX:CXT}{k:Nat}{f:Addr}{fd:FuncData}{ps:List Str}{sp sp':Sp}(F:FnOk P w K mg base CX k f fd ps sp)
    (h:∀ vs H Q E,sp' vs H Q E→sp vs H Q E):FnOk P w K mg base CX k f fd ps sp':=
  ⟨fun vs H Q E q=>F.len vs H Q E (h _ _ _ _ q),fun A outer s H args us vs Q E hr he hb hv hs=>F.run A outer s H args us vs Q E hr he hb hv (h _ _ _ _ hs)⟩
theorem Env0.in1 {P:Program}{w:World}{K:PySem.W.Frag}{mg:Str→Option Value}{base:Heap}{A:Around}{outer:List Env}{s:Shared}{H:Hp}(e:Env0 P w K mg base A outer s H):
    Env0 P w K mg base A.in1 outer s H:=⟨e.frames,e.mod,e.bs,e.bsz,e.funs,e.frf,e.hok,e.bare⟩
section
variable {X:Cx}{pins:List (Addr×Obj)}{σ:St}{H:Hp}{s s':Shared}
theorem Inv.env0 (I:Inv X pins σ H s):Env0 X.prog X.w X.K X.mg X.base X.A X.stack s H:=
  ⟨I.ok.frames,I.ok.mod,I.bs,Nat.le_trans I.ok.bsz I.sz,I.stack,I.stkFree,I.hok,I.bare⟩
theorem Inv.after {Q:VK}{u:Value}(I:Inv X pins σ H s)(h:CE X.stack X.prog X.w H s Q u s'):EP X pins σ Q u s':=by
  obtain ⟨v,H',os,bare,un,hok,r,q⟩:=h
  obtain ⟨hh,g,d,t,os'⟩:=s'
  obtain rfl:os'=s.os:=os
  exact ⟨v,H',I.call (h':=hh) (g':=g) (d':=d) (t':=t) (ch:=[]) un hok bare (fun b z=>absurd z (by simp)),r,q⟩
end
def tCall (sp:Sp)(dvs:List V)(E:XK)(t:TA):TE:=fun σ H Q=>t σ H fun vs H1=>sp (vs++dvs) H1 Q E
def tMeth (C:Addr)(m:Str)(sp:Sp)(dvs:List V)(E:XK)(ta:TE)(t:TA):TE:=fun σ H Q=>ta σ H fun x H1=>∃ a dx fs,x=.ref a∧H1 a=some (.ins C dx fs)∧fs.lookup m=none∧
  t σ H1 fun vs H2=>sp (x::(vs++dvs)) H2 Q E
def tMake (C:Addr)(sp:Sp)(dvs:List V)(E:XK)(t:TA):TE:=fun σ H Q=>t σ H fun vs H1=>∀ x dx,H1 x=none→H1 dx=none→dx≠x→
  sp (.ref x::(vs++dvs)) (upd (upd H1 dx (.own x)) x (.ins C dx [])) (fun v H2=>v=.non∧Q (.ref x) H2) E
def Binds (K:PySem.W.Frag)(fd:FuncData)(ps:List Str)(ds:List Value):Prop:=
  ∀ (s:Shared) (us:List Value),K.In s.heap→(us++ds).length=ps.length→BindsTo s fd ⟨us,[]⟩ (ps.zip (us++ds))
theorem Binds.all {K:PySem.W.Frag}{fd:FuncData}{ps:List Str}(h:∀ us:List Value,us.length=ps.length→bindArgs fd ⟨us,[]⟩=pure (ps.zip us)):Binds K fd ps []:=fun s us _ hl=>by
  rw [List.append_nil] at hl ⊢
  exact .of_eq (h us hl)
def Passes (CX:CXT)(X:Cx)(E:XK):Prop:=∀ (pins:List (Addr×Obj)) (σ:St) (H:Hp) (s:Shared) (e:Value) (s':Shared),Inv X pins σ H s→CX X.stack H s E e s'→X.xe e s'
section
variable {X:Cx}{CX:CXT}{k:Nat}{f C:Addr}{fd:FuncData}{ps:List Str}{sp:Sp}{dvs:List V}{ds:List Value}{E:XK}{x m:Str}{p pos apos:Pos}{e o:Expr}{es:List Expr}{ta:TE}{t:TA}
theorem run_fn {pins:List (Addr×Obj)}{σ:St}{H:Hp}{s:Shared}{Q:VK}{us:List Value}{vs:List V}(F:FnOk X.prog X.w X.K X.mg X.base CX k f fd ps sp)(hr:Room k X.A)(hb:Binds X.K fd ps ds)(hd:Vals dvs ds)(hx:Passes CX X E)
    (I:Inv X pins σ H s) (r:Vals vs us) (h:sp (vs++dvs) H Q E):wpAny (model X.prog X.w) X.A (call (.ref f) us) (EP X pins σ Q) X.xe s:=by
  have r2:Vals (vs++dvs) (us++ds):=r.append hd
  have hl:(us++ds).length=ps.length:=by rw [← r2.length];exact F.len _ _ _ _ h
  refine wpAny_call (codeAny_mono (F.run X.A X.stack s H ⟨us,[]⟩ (us++ds) (vs++dvs) Q E hr I.env0 (hb s us I.kIn hl) r2 h) fun r s' hq=>?_)
  cases r with
  | error e=>exact hx pins σ H s e s' I hq
  | ok fl=>
    cases fl with
    | ret u=>exact I.after hq
    | next=>exact False.elim hq
    | brk=>exact False.elim hq
    | cont=>exact False.elim hq
theorem pe_call (F:FnOk X.prog X.w X.K X.mg X.base CX k f fd ps sp)(hr:Room k X.A)(hg:Gl X x)(hm:X.mg x=some (.ref f))(hk:PySem.W.keepIn X.K (.ref f)=true)(hb:Binds X.K fd ps ds)(hd:Vals dvs ds)(hx:Passes CX X E)
    (ha:PA X (e::es) t) (hdb:(x==("__debug__":Str))=false:=by decide) (he:starEach (e::es) X.env=(false,eval e X.env)::starEach es X.env:=by rfl) (hpl:(backTo pos (starEach es X.env)).any (·.1)=false:=by rfl):
    PE X (.Call (.Name x p) (e::es) [] pos) (tCall sp dvs E t):=by
  intro pins s σ H Q I h
  refine wpAny_Call_Name_kw (ld_glob I hg hm ?_ hdb)
  refine PySem.W.callWith_K (h₀:=X.base) I.ok.mod.kin hk (thn (ha pos pins s σ H _ I h) fun us s1 ⟨vs,H1,I1,r,q⟩=>⟨I1.kIn,?_⟩) he hpl
  exact run_fn F hr hb hd hx I1 r q
structure Mk (K:PySem.W.Frag)(C f:Addr):Prop where
  makes:PySem.W.makesIn K C=true
  init:PySem.W.findIn K (.ref C) "__init__"=some (some (.ref f))
  fn:PySem.W.isFn K (.ref f)=true
  kp:PySem.W.keepIn K (.ref C)=true
end
def PK (X:Cx)(kws:List Keyword)(t:TA):Prop:=
  ∀ (pos:Pos) (pins:List (Addr×Obj)) (s:Shared) (σ:St) (H:Hp) (Q:List V→Hp→Prop),Inv X pins σ H s→t σ H Q→wpAny (model X.prog X.w) X.A (evalAll ((backToKw pos (keywordEach kws X.env)).map (·.2))) (AP X pins σ Q) X.xe s
section
variable {X:Cx}{CX:CXT}{k:Nat}{f C:Addr}{fd:FuncData}{ps ks:List Str}{sp:Sp}{E:XK}{x m:Str}{p pos apos kpos:Pos}{e o:Expr}{es:List Expr}{kws:List Keyword}{te ta:TE}{t tk:TA}{nm:Option Str}
structure KBinds (K:PySem.W.Frag)(fd:FuncData)(ps ks:List Str)(g:List Value→List Value→List Value)(gV:List V→List V→List V):Prop where
  to:∀ (s:Shared) (us ws:List Value),K.In s.heap→(g us ws).length=ps.length→BindsTo s fd ⟨us,ks.zip ws⟩ (ps.zip (g us ws))
  rel:∀ {vs:List V} {us:List Value} {zs:List V} {ws:List Value},Vals vs us→Vals zs ws→Vals (gV vs zs) (g us ws)
def tCallK (sp:Sp)(gV:List V→List V→List V)(E:XK)(t tk:TA):TE:=fun σ H Q=>t σ H fun vs H1=>tk σ H1 fun zs H2=>sp (gV vs zs) H2 Q E
variable {g:List Value→List Value→List Value}{gV:List V→List V→List V}
end
structure FnScope (N P:List Str)(sc:Scope):Prop where
  kind:sc.kind=.function
  co:sc.isCoroutine=false
  gen:sc.isGenerator=false
  nd:N.Nodup
  pre:N.take P.length=P
  par:∀ x∈P,sc.names.lookup x=some .local∨sc.names.lookup x=some .cell
  nofree:∀ y∈sc.names,y.2≠.free
theorem bindL_out {kindOf:Str→Option NameKind}{x:Str}:∀ {binds:List (Str×Value)} {m:Str→Option Value},(∀ v,(x,v)∉binds)→bindL kindOf binds m x=m x
  | [],_,_=>rfl
  | (n,v)::r,m,h=>by
    unfold bindL
    rw [bindL_out fun w hw=>h w (List.mem_cons_of_mem _ hw)]
    split
    · have:x≠n:=by rintro rfl;exact h v List.mem_cons_self
      simp [this]
    · rfl
theorem bindC_out {kindOf:Str→Option NameKind}{x:Str}:∀ {binds:List (Str×Value)} {m:Str→Option Value},(∀ v,(x,v)∉binds)→bindC kindOf binds m x=m x
  | [],_,_=>rfl
  | (n,v)::r,m,h=>by
    unfold bindC
    rw [bindC_out fun w hw=>h w (List.mem_cons_of_mem _ hw)]
    split
    · rfl
    · have:x≠n:=by rintro rfl;exact h v List.mem_cons_self
      simp [this]
theorem bindL_get {kindOf:Str→Option NameKind}{x:Str}{v:Value}:∀ {P:List Str} {vs:List Value} {i:Nat} {m:Str→Option Value},P.Nodup→P[i]?=some x→vs[i]?=some v→kindOf x=some .local→
    bindL kindOf (P.zip vs) m x=some v
  | [],_,_,_,_,h,_,_=>by simp at h
  | _::_,[],_,_,_,_,h,_=>by simp at h
  | p::P,w::vs,0,m,nd,h1,h2,hk=>by
    simp at h1 h2;subst h1;subst h2
    show bindL kindOf ((p,w)::P.zip vs) m p=_
    unfold bindL
    rw [bindL_out fun v hv=>(List.nodup_cons.mp nd).1 (List.of_mem_zip hv).1,if_pos hk]
    simp
  | p::P,w::vs,i+1,m,nd,h1,h2,hk=>by
    show bindL kindOf ((p,w)::P.zip vs) m x=_
    unfold bindL
    exact bindL_get (i:=i) (List.nodup_cons.mp nd).2 (by simpa using h1) (by simpa using h2) hk
theorem bindC_get {kindOf:Str→Option NameKind}{x:Str}{v:Value}:∀ {P:List Str} {vs:List Value} {i:Nat} {m:Str→Option Value},P.Nodup→P[i]?=some x→vs[i]?=some v→kindOf x≠some .local→
    bindC kindOf (P.zip vs) m x=some v
  | [],_,_,_,_,h,_,_=>by simp at h
  | _::_,[],_,_,_,_,h,_=>by simp at h
  | p::P,w::vs,0,m,nd,h1,h2,hk=>by
    simp at h1 h2;subst h1;subst h2
    show bindC kindOf ((p,w)::P.zip vs) m p=_
    unfold bindC
    rw [bindC_out fun v hv=>(List.nodup_cons.mp nd).1 (List.of_mem_zip hv).1,if_neg hk]
    simp
  | p::P,w::vs,i+1,m,nd,h1,h2,hk=>by
    show bindC kindOf ((p,w)::P.zip vs) m x=_
    unfold bindC
    exact bindC_get (i:=i) (List.nodup_cons.mp nd).2 (by simpa using h1) (by simpa using h2) hk
def start (N:List Str)(vs:List V):St:=vs.map some++List.replicate (N.length-vs.length) none
def cxOf (CX:CXT)(P:Program)(w:World)(K:PySem.W.Frag)(mg:Str→Option Value)(base:Heap)(N:List Str)(qual:Str)(scope:Scope)(f:Addr)(cd:Value)(A:Around)(outer:List Env)(s:Shared)(H:Hp)(E:XK):Cx where
  prog:=P
  w:=w
  K:=K
  mg:=mg
  base:=base
  A:=A.deeper (envOfC qual scope s.heap.objs.size f cd)
  N:=N
  s₀:=s
  H₀:=H
  env:=envOfC qual scope s.heap.objs.size f cd
  outer:=outer
  stack:=envOfC qual scope s.heap.objs.size f cd::outer
  ex:=[]
  calm:=true
  fn:=fun _=>true
  pn:=[]
  xe:=fun e s'=>wpAny (model P w) (A.deeper (envOfC qual scope s.heap.objs.size f cd)) (leaving (envOfC qual scope s.heap.objs.size f cd) e) (fun _ s''=>CX outer H s E e s'') (fun e' s''=>CX outer H s E e' s'') s'
theorem cell_has {sc:Scope}{n:Nat}{x:Str}(h:sc.names.lookup x=some .cell):∃ c,(cellsFrom n sc.names []).lookup x=some c:=by
  have q:=PySem.W.cellsFrom_some sc.names n [] (.inl h)
  exact Option.isSome_iff_exists.mp q
theorem inv_start {CX:CXT}{P:Program}{w:World}{K:PySem.W.Frag}{mg:Str→Option Value}{base:Heap}{N ps:List Str}{qual:Str}{scope:Scope}{f:Addr}{cd:Value}{A:Around}{outer:List Env}{s s1:Shared}{H:Hp}{E:XK}{us:List Value}{vs:List V}
    (S:FnScope N ps scope) (hd:A.handled=none) (e0:Env0 P w K mg base A outer s H) (hl:vs.length=ps.length) (r:Vals vs us)
    (x:InCallC s s.heap.objs.size (bindL (envOfC qual scope s.heap.objs.size f cd).kindOf (ps.zip us) fun _=>none) (cellsFrom (s.heap.objs.size+1) scope.names []) (bindC (envOfC qual scope s.heap.objs.size f cd).kindOf (ps.zip us) fun _=>none) s1):
    Inv (cxOf CX P w K mg base N qual scope f cd A outer s H E) [] (start N vs) H s1:=by
  have hpl:ps.length≤N.length:=by have:=congrArg List.length S.pre;rw [List.length_take] at this;omega
  obtain ⟨h1,tk,rfl,hk⟩:=x.done
  have noA:∀ b:Addr,b∉(cxOf CX P w K mg base N qual scope f cd A outer s H E).ex:=fun b z=>absurd (show b∈([]:List Addr) from z) (by simp)
  refine ⟨⟨e0.mod,S.kind,rfl,rfl,Nat.le_refl _,fun y z c h1 h2=>?_,fun y hy=>?_,fun y c _ h=>?_,fun _=>hd,Around.frames_deeper e0.frames,.inr ⟨rfl,rfl⟩,fun b z=>absurd z (noA b),e0.bs,e0.bsz,fun b _ _=>noA b,fun b z=>absurd z (noA b),e0.funs,e0.frf⟩,
    rfl,e0.bare,Un.kept hk,⟨_,x.toInCall.ns,fun i y v h1 h2 h3=>?_⟩,fun y c h=>⟨_,x.cell y c h⟩,e0.hok.fresh (Nat.le_refl _),fun y c h=>?_,fun p hp=>absurd (show p∈([]:List (Addr×Obj)) from hp) (by simp),e0.hok.kept hk,?_⟩
  · exact name_of_addr x.apart (PySem.mem_of_lookup h1) (PySem.mem_of_lookup h2)
  · have hy:scope.names.lookup y=some .cell∨scope.names.lookup y=some .free:=hy
    rcases hy with hy | hy
    · exact cell_has hy
    · exact absurd rfl (S.nofree _ (PySem.mem_of_lookup hy))
  · exact Nat.le_of_lt (x.above y c (PySem.mem_of_lookup h))
  · have hi:i<vs.length:=by
      unfold start at h2
      by_cases hi:i<vs.length
      · exact hi
      · rw [List.getElem?_append_right (by simpa using hi)] at h2
        rw [List.getElem?_replicate] at h2
        split at h2 <;> cases h2
    have ha:vs[i]?=some v:=by
      unfold start at h2
      rw [List.getElem?_append_left (by simpa using hi),List.getElem?_map] at h2
      cases e:vs[i]? with
      | none=>rw [e] at h2;cases h2
      | some a=>rw [e] at h2;cases h2;rfl
    obtain ⟨u,hu,rv⟩:=r.get ha
    have hp:ps[i]?=some y:=by
      rw [← S.pre,List.getElem?_take_of_lt (by omega)];exact h1
    have ndP:ps.Nodup:=by rw [← S.pre];exact S.nd.sublist (List.take_sublist _ _)
    refine ⟨u,rv,?_⟩
    rcases S.par y (List.mem_of_getElem? hp) with k | k
    · exact .inl ⟨k,bindL_get ndP hp hu k⟩
    · obtain ⟨c,e⟩:=cell_has (n:=s.heap.objs.size+1) k
      refine .inr ⟨.inl k,c,e,?_⟩
      have q:=x.cell y c e
      rw [bindC_get ndP hp hu (by show scope.names.lookup y≠_;rw [k];decide)] at q
      exact q
  · exact e0.hok.fresh (Nat.le_of_lt (x.above y c (PySem.mem_of_lookup h)))
  · unfold start
    show _=N.length
    rw [List.length_append,List.length_map,List.length_replicate]
    omega
theorem fn_of {CX:CXT}{P:Program}{w:World}{K:PySem.W.Frag}{mg:Str→Option Value}{base:Heap}{k:Nat}{f:Addr}{name qual:Str}{params:Arguments}{body:List Stmt}{scope:Scope}{dV kV doc pm cdv ct oc:Value}{an od:Option Addr}
    {osl:Array (Option Value)} {N ps:List Str} {sp:Sp} (lk:K.lookup f=some ⟨oc,od,.func (PySem.W.fnOf name qual params body scope dV kV doc pm an cdv ct),osl⟩) (hcd:PySem.W.codeIn K cdv qual=true) (S:FnScope N ps scope)
    (len:∀ vs H Q E,sp vs H Q E→vs.length=ps.length)
    (hbody:∀ (A:Around) (outer:List Env) (s:Shared) (H:Hp) (vs:List V) (Q:VK) (E:XK),Room k (A.deeper (envOfC qual scope s.heap.objs.size f cdv))→sp vs H Q E→
      ∃ t,PSs (cxOf CX P w K mg base N qual scope f cdv A outer s H E) body t∧t { nx:=fun _ H'=>Q .non H',rt:=Q } (start N vs) H):
    FnOk P w K mg base CX (k+1) f (PySem.W.fnOf name qual params body scope dV kV doc pm an cdv ct) ps sp:=by
  refine ⟨len,fun A outer s H args us vs Q E hr e0 hb r hsp=>?_⟩
  have hl:=len _ _ _ _ hsp
  have KX:K.In s.heap:=e0.mod.kin.keeps fun b o e=>(e0.bs b o e).1
  have lim:s.heap.NoLimit:=e0.mod.nolimit.keeps fun b o e=>(e0.bs b o e).1
  have hkind:∀ y∈ps.zip us,scope.names.lookup y.1=some .local∨(scope.names.lookup y.1=some .cell∧((cellsFrom (s.heap.objs.size+1) scope.names []).lookup y.1).isSome=true):=fun ⟨n,v⟩ hy=>by
    rcases S.par n (List.of_mem_zip hy).1 with q | q
    · exact .inl q
    · exact .inr ⟨q,PySem.W.cellsFrom_some _ _ _ (.inl q)⟩
  refine codeAny_call_function hr.depth (KX _ _ lk) rfl S.co S.gen rfl (PySem.W.codeRec_of KX hcd) (hb _ _ _ _ ?_)
  refine wpAny_newFunctionEnv_cells S.kind hkind fun env he s1 x=>?_
  subst he
  refine ⟨lim.keeps x.toInCall.keep,codeAny_func ?_⟩
  obtain ⟨t,ht,hq⟩:=hbody A outer s H vs Q E (hr.deeper _) hsp
  have I:Inv (cxOf CX P w K mg base N qual scope f cdv A outer s H E) [] (start N vs) H s1:=inv_start S hr.hd e0 hl r x
  refine wpAny_mono (ht [] s1 (start N vs) H _ I hq) (fun fl s' hs=>?_) fun e s' hs=>hs
  have fin:∀ {σ':St} {H':Hp} {v:V} {u:Value},Inv (cxOf CX P w K mg base N qual scope f cdv A outer s H E) [] σ' H' s'→RelV v u→Q v H'→CE outer P w H s Q u s':=
    fun {σ' H' v u} J rv q=>⟨v,H',J.os,J.bare,J.base,J.hok,rv,q⟩
  cases fl with
  | ret u=>
    obtain ⟨v,σ',H',J,rv,q⟩:=hs
    exact fin J rv q
  | next=>
    obtain ⟨σ',H',J,q⟩:=hs
    exact fin (v:=V.non) (u:=Value.none) J rfl q
  | brk=>
    obtain ⟨_,_,_,q⟩:=hs
    exact False.elim q
  | cont=>
    obtain ⟨_,_,_,q⟩:=hs
    exact False.elim q
end L2
namespace L2
open PySem PySem.Spec PyProof.Rows
section
variable {X:Cx}{x:Str}{p pos:Pos}{e:Expr}{es:List Expr}{t:TA}{id T:String}{r:List V→Hp→VK→Prop}
def tCB (r:List V→Hp→VK→Prop)(t:TA):TE:=fun σ H Q=>t σ H fun vs H1=>r vs H1 Q
theorem pe_callB (hc:CallR X (.builtin id) r)(hg:Gl X x)(hm:X.mg x=none)(hv:bootBuiltins x=some (.builtin id))(ha:PA X (e::es) t)(hn:x≠"__name__":=by decide)(hdb:(x==("__debug__":Str))=false:=by decide)
    (he:starEach (e::es) X.env=(false,eval e X.env)::starEach es X.env:=by rfl) (hpl:(backTo pos (starEach es X.env)).any (·.1)=false:=by rfl):PE X (.Call (.Name x p) (e::es) [] pos) (tCB r t):=by
  intro pins s σ H Q I h
  refine wpAny_Call_Name_kw (ld_blt I hg hm hv ?_ hn hdb)
  exact PyProof.Rows.callWith_builtin1 (thn (ha pos pins s σ H _ I h) fun us s1 ⟨vs,H1,I1,r1,q1⟩=>hc pins s1 σ H1 vs us Q I1 r1 q1) he hpl
theorem pe_callTy (hc:CallR X (.type T) r)(hg:Gl X x)(hm:X.mg x=none)(hv:bootBuiltins x=some (.type T))(ha:PA X (e::es) t)(hn:x≠"__name__":=by decide)(hdb:(x==("__debug__":Str))=false:=by decide)
    (he:starEach (e::es) X.env=(false,eval e X.env)::starEach es X.env:=by rfl) (hpl:(backTo pos (starEach es X.env)).any (·.1)=false:=by rfl):PE X (.Call (.Name x p) (e::es) [] pos) (tCB r t):=by
  intro pins s σ H Q I h
  refine wpAny_Call_Name_kw (ld_blt I hg hm hv ?_ hn hdb)
  exact PyProof.Rows.callWith_type1 (thn (ha pos pins s σ H _ I h) fun us s1 ⟨vs,H1,I1,r1,q1⟩=>hc pins s1 σ H1 vs us Q I1 r1 q1) he hpl
end
end L2
namespace HT
open PySem PyProof.Rows
def lexLt:List Int→List Int→Bool
  | [],[]=>false
  | [],_::_=>true
  | _::_,[]=>false
  | x::xs,y::ys=>if x=y then lexLt xs ys else decide (x<y)
section
open PySem.SeqAt
open PySem.AutoSeq1 (wpAny_loadPart')
open PySem.MeetsSeq PySem.MeetsSeq2 PySem.MeetsSeq3
end
section
variable {prog:Program}{w:World}{A:Around}{E:Value→Shared→Prop}{s:Shared}
def sIx (n d:Nat):Option Int→Nat
  | none=>d
  | some v=>if v<0 then (v+(n:Int)).toNat else min v.toNat n
end
end HT
namespace L2
open PySem PySem.Spec PyProof.Rows
abbrev TO:=St→Hp→(Option Int→Hp→Prop)→Prop
def PO (X:Cx)(e:Option Expr)(t:TO):Prop:=
  ∀ (pins:List (Addr×Obj)) (s:Shared) (σ:St) (H:Hp) (Q:Option Int→Hp→Prop),Inv X pins σ H s→t σ H Q→
    wpAny (model X.prog X.w) X.A (evalPart e X.env) (fun u s'=>∃ o H',Inv X pins σ H' s'∧IsPart u o∧Q o H') X.xe s
def tNoPart:TO:=fun _ H Q=>Q none H
def tPart (t:TE):TO:=fun σ H Q=>t σ H fun x H1=>∃ i,x=.int i∧Q (some i) H1
section
variable {X:Cx}{e:Expr}{te:TE}{lo hi:Option Expr}{tl th:TO}{pos p2:Pos}
theorem po_none:PO X none tNoPart:=by
  intro pins s σ H Q I h
  rw [evalPart_none]
  exact wpAny_pure ⟨none,H,I,.none,h⟩
theorem po_some (h:PE X e te):PO X (some e) (tPart te):=by
  intro pins s σ H Q I hw
  rw [evalPart_some]
  refine thn (h pins s σ H _ I hw) fun u s1 ⟨x,H1,I1,r1,q1⟩=>?_
  obtain ⟨i,rfl,q⟩:=q1
  obtain ⟨t,rfl⟩:=r1
  exact ⟨some i,H1,I1,.int i t,q⟩
def SlR (X:Cx)(r:V→Option Int→Option Int→Hp→VK→Prop):Prop:=
  ∀ (pins:List (Addr×Obj)) (s:Shared) (σ:St) (H:Hp) (x:V) (v vl vu:Value) (lo hi:Option Int) (sl:Addr) (Q:VK),Inv X pins σ H s→RelV x v→s.heap.IsSliceOf sl vl vu .none→IsPart vl lo→IsPart vu hi→r x lo hi H Q→
    ∃ T id,typeLookup (.type T) "__getitem__"=pure (some (.builtin id))∧s.TypeIs v T∧wpAny (model X.prog X.w) X.A (getItem v (.ref sl)) (EP X pins σ Q) X.xe s
theorem SlR.or {r r':V→Option Int→Option Int→Hp→VK→Prop}(h:SlR X r)(h':SlR X r'):SlR X (fun x lo hi H Q=>r x lo hi H Q∨r' x lo hi H Q):=by
  intro pins s σ H x v vl vu lo hi sl Q I rx hs pl pu q
  rcases q with q | q
  · exact h pins s σ H x v vl vu lo hi sl Q I rx hs pl pu q
  · exact h' pins s σ H x v vl vu lo hi sl Q I rx hs pl pu q
def tSl (r:V→Option Int→Option Int→Hp→VK→Prop)(te:TE)(tl th:TO):TE:=fun σ H Q=>te σ H fun x H1=>tl σ H1 fun l H2=>th σ H2 fun u H3=>r x l u H3 Q
theorem pe_slice {r:V→Option Int→Option Int→Hp→VK→Prop}(hr:SlR X r)(he:PE X e te)(hl:PO X lo tl)(hu:PO X hi th):PE X (.Subscript e (.Slice lo hi none p2) pos) (tSl r te tl th):=by
  intro pins s σ H Q I h
  refine Subscript_ (thn (he pins s σ H _ I h) fun v s1 ⟨x,H1,I1,r1,q1⟩=>?_)
  refine wpAny_Slice (thn (hl pins s1 σ H1 _ I1 q1) fun vl s2 ⟨l,H2,I2,pl,q2⟩=>thn (hu pins s2 σ H2 _ I2 q2) fun vu s3 ⟨u,H3,I3,pu,q3⟩=>?_)
  rw [evalPart_none]
  refine wpAny_pure ?_
  have I4:Inv X pins σ H3 { s3 with heap:=s3.heap.push { cls:=.type "slice",data:=.fields #[vl,vu,.none] } }:=I3.kept (t':=s3.toks) fun b ob q=>Heap.get?_push_of_some _ q
  obtain ⟨T,id,hT,ht,hg⟩:=hr pins { s3 with heap:=s3.heap.push { cls:=.type "slice",data:=.fields #[vl,vu,.none] } } σ H3 x v vl vu l u s3.heap.objs.size Q I4 r1 (Heap.IsSliceOf.new ..) pl pu q3
  show wpAny (model X.prog X.w) X.A (subscriptTail e (.Slice lo hi none p2) v (.ref s3.heap.objs.size)) (EP X pins σ Q) X.xe { s3 with heap:=s3.heap.push { cls:=.type "slice",data:=.fields #[vl,vu,.none] } }
  exact tail_any (ops:=[.ref s3.heap.objs.size,v]) ht hT hg (by with_unfolding_all rfl)
def cutV (xs:List V)(lo hi:Option Int):List V:=(xs.drop (HT.sIx xs.length 0 lo)).take (HT.sIx xs.length xs.length hi-HT.sIx xs.length 0 lo)
theorem cutV_length (xs:List V)(lo hi:Option Int):(cutV xs lo hi).length≤xs.length:=by
  unfold cutV
  rw [List.length_take,List.length_drop]
  omega
def rSlT (K:PySem.W.Frag):V→Option Int→Option Int→Hp→VK→Prop:=fun x lo hi H Q=>∃ a xs,x=.ref a∧SqT K H a xs∧
  ¬ (HT.sIx xs.length 0 lo=0∧HT.sIx xs.length xs.length hi=xs.length)∧∀ p,H p=none→Q (.ref p) (upd H p (.tup (cutV xs lo hi)))
def rLtT (K:PySem.W.Frag):R2:=fun x y H Q=>∃ a b ns ms,x=.ref a∧y=.ref b∧SqT K H a (ns.map V.int)∧SqT K H b (ms.map V.int)∧Q (.bl (HT.lexLt ns ms)) H
def rCatT (K:PySem.W.Frag):R2:=fun x y H Q=>∃ a b xs ys,x=.ref a∧y=.ref b∧SqT K H a xs∧SqT K H b ys∧xs≠[]∧xs.length+ys.length≤sizeLine∧
  (ys=[]→Q (.ref a) H)∧(ys≠[]→∀ p,H p=none→Q (.ref p) (upd H p (.tup (xs++ys))))
end
end L2
namespace L2
open PySem PySem.Spec PyProof.Rows
def ixN (n:Nat)(i:Int):Option Nat:=if 0≤i then (if i<n then some i.toNat else none) else if -(n:Int)≤i then some (i+n).toNat else none
def atI {α:Type}(xs:List α)(i:Int):Option α:=(ixN xs.length i).bind fun j=>xs[j]?
theorem ixN_seq {n:Nat}{i:Int}{j:Nat}(h:ixN n i=some j):seqIndex? i n=some j∧j<n∧-(n:Int)≤i∧i<n:=by
  unfold ixN at h
  by_cases h0:0≤i
  · rw [if_pos h0] at h
    by_cases h1:i<n
    · rw [if_pos h1] at h
      have e:i.toNat=j:=Option.some.inj h
      exact ⟨by rw [seqIndex_of h0 h1,e],by omega,by omega,h1⟩
    · rw [if_neg h1] at h;cases h
  · rw [if_neg h0] at h
    by_cases h1:-(n:Int)≤i
    · rw [if_pos h1] at h
      have e:(i+n).toNat=j:=Option.some.inj h
      exact ⟨by rw [seqIndex_neg (by omega) h1,e],by omega,h1,by omega⟩
    · rw [if_neg h1] at h;cases h
theorem atI_get {α:Type}{xs:List α}{i:Int}{v:α}(h:atI xs i=some v):∃ j,seqIndex? i xs.length=some j∧xs[j]?=some v∧j<xs.length∧-(xs.length:Int)≤i∧i<xs.length:=by
  unfold atI at h
  cases e:ixN xs.length i with
  | none=>rw [e] at h;cases h
  | some j=>
    rw [e] at h
    obtain ⟨h1,h2,h3,h4⟩:=ixN_seq e
    exact ⟨j,h1,h,h2,h3,h4⟩
theorem atI_nat {α:Type}{xs:List α}{j:Nat}{v:α}(h:xs[j]?=some v):atI xs (j:Int)=some v:=by
  have hj:j<xs.length:=(List.getElem?_eq_some_iff.mp h).1
  have e:ixN xs.length (j:Int)=some j:=by
    unfold ixN
    rw [if_pos (by omega),if_pos (by omega)];simp
  unfold atI;rw [e];exact h
def PlainIx (b:Expr):Prop:=∀ o i,subscripted b false o i=operate [o,i] (getItem o i)
def IxR (X:Cx)(r:R2):Prop:=
  ∀ (value slice:Expr) (pins:List (Addr×Obj)) (s:Shared) (σ:St) (H:Hp) (x y:V) (v u:Value) (Q:VK),Inv X pins σ H s→RelV x v→RelV y u→r x y H Q→
    subscripted slice false v u=operate [v,u] (getItem v u)→wpAny (model X.prog X.w) X.A (subscriptTail value slice v u) (EP X pins σ Q) X.xe s
def MtR (X:Cx)(id:String)(r:V→List V→Hp→VK→Prop):Prop:=
  ∀ (pins:List (Addr×Obj)) (s:Shared) (σ:St) (H:Hp) (x:V) (xs:List V) (v:Value) (us:List Value) (Q:VK),Inv X pins σ H s→RelV x v→Vals xs us→r x xs H Q→
    wpAny (model X.prog X.w) X.A (call (.builtin id) (v::us)) (EP X pins σ Q) X.xe s
section
variable {X:Cx}{a b:Expr}{ta tb:TE}{pos:Pos}
theorem IxR.or {r r':R2}(h:IxR X r)(h':IxR X r'):IxR X (fun x y H Q=>r x y H Q∨r' x y H Q):=by
  intro value slice pins s σ H x y v u Q I rx ry q hs
  rcases q with q | q
  · exact h value slice pins s σ H x y v u Q I rx ry q hs
  · exact h' value slice pins s σ H x y v u Q I rx ry q hs
theorem MtR.or {id:String}{r r':V→List V→Hp→VK→Prop}(h:MtR X id r)(h':MtR X id r'):MtR X id (fun x xs H Q=>r x xs H Q∨r' x xs H Q):=by
  intro pins s σ H x xs v us Q I rx rs q
  rcases q with q | q
  · exact h pins s σ H x xs v us Q I rx rs q
  · exact h' pins s σ H x xs v us Q I rx rs q
theorem pe_ix {r:R2}(hr:IxR X r)(ha:PE X a ta)(hb:PE X b tb)(hs:PlainIx b):PE X (.Subscript a b pos) (tOp r ta tb):=by
  intro pins s σ H Q I h
  exact Subscript_ (binT ha hb I h fun v u s2 x y H2 I2 rx ry q=>hr a b pins s2 σ H2 x y v u Q I2 rx ry q (hs _ _))
def rIxL (K:PySem.W.Frag):R2:=fun x y H Q=>∃ p xs i v,x=.ref p∧y=.int i∧SqL K H p xs∧atI xs i=some v∧Q v H
def rIxT (K:PySem.W.Frag):R2:=fun x y H Q=>∃ p xs i v,x=.ref p∧y=.int i∧SqT K H p xs∧atI xs i=some v∧Q v H
def rIxS:R2:=fun x y H Q=>∃ z i c,x=.str z∧y=.int i∧z.length≤sizeLine∧atI z.cps.toList i=some c∧Q (.str ⟨#[c]⟩) H
theorem ix_list:IxR X (rIxL X.K):=by
  intro value slice pins s σ H x y v u Q I rx ry h hs
  obtain ⟨p,xs,i,z,rfl,rfl,hq,he,q⟩:=h
  cases rx
  obtain ⟨t,rfl⟩:=ry
  obtain ⟨its,r,pl,hz⟩:=I.list hq
  obtain ⟨j,h1,h2,h3,h4,h5⟩:=atI_get he
  obtain ⟨w,ew,rw'⟩:=r.get h2
  have hl:=r.length
  have hn:=line63
  have fin:EP X pins σ Q w s:=⟨z,H,I,rw',q⟩
  by_cases h0:0≤i
  · have hj:i.toNat=j:=by
      rw [seqIndex_of h0 h5] at h1
      exact Option.some.inj h1
    exact item_listR pl.isList h0 (by omega) (by rw [hj];simpa using ew) fin hs
  · have hj:(i+(its.toArray.size:Int)).toNat=j:=by
      rw [seqIndex_neg (by omega) h4] at h1
      rw [List.size_toArray,← hl]
      exact Option.some.inj h1
    exact subscriptTail_builtinR (x:=w) pl.isList.typeIs slot_list_getitem.lookup
      (wpAny_getItem_list_neg (Q:=fun r s'=>r=w∧EP X pins σ Q r s') pl.isList (by omega) (by rw [List.size_toArray] <;> omega) (by omega) (by rw [hj];simpa using ew) ⟨rfl,fin⟩) hs
theorem ix_tup:IxR X (rIxT X.K):=by
  intro value slice pins s σ H x y v u Q I rx ry h hs
  obtain ⟨p,xs,i,z,rfl,rfl,hq,he,q⟩:=h
  cases rx
  obtain ⟨t,rfl⟩:=ry
  obtain ⟨its,r,pl,hz⟩:=I.tuple hq
  obtain ⟨j,h1,h2,h3,h4,h5⟩:=atI_get he
  obtain ⟨w,ew,rw'⟩:=r.get h2
  have hl:=r.length
  have hn:=line63
  have fin:EP X pins σ Q w s:=⟨z,H,I,rw',q⟩
  exact subscriptTail_builtinR (x:=w) pl.typeIs slot_tuple_getitem.lookup
    (getItem_tuple (j:=j) (Q:=fun r s'=>r=w∧EP X pins σ Q r s') pl (by omega) (by omega) (by rw [List.size_toArray,← hl];exact h1) (by simpa using ew) ⟨rfl,fin⟩) hs
def rIx (K:PySem.W.Frag):R2:=fun x y H Q=>rIxL K x y H Q∨rIxT K x y H Q∨rIxS x y H Q
theorem mapSeq_set (its:List Value)(n j:Nat)(u:Value):Obj.mapSeq (·.setIfInBounds j u) { cls:=.type "list",data:=.seq its.toArray n }={ cls:=.type "list",data:=.seq (its.set j u).toArray n }:=by
  simp [Obj.mapSeq]
theorem Inv.lst {pins:List (Addr×Obj)}{σ:St}{H:Hp}{s:Shared}{p:Addr}{xs:List V}(I:Inv X pins σ H s)(h:H p=some (.lst xs)):
    ∃ (its:List Value) (n:Nat),Vals xs its∧s.heap.get? p=some { cls:=.type "list",data:=.seq its.toArray n }∧xs.length≤sizeLine:=by
  obtain ⟨z,its,n,r,e⟩:=I.hok p _ h
  exact ⟨its,n,r,e,z⟩
theorem Inv.lstUpd {pins:List (Addr×Obj)}{σ:St}{H:Hp}{s:Shared}{p:Addr}{xs ys:List V}{its its':List Value}{n n':Nat}{f:Obj→Obj}(I:Inv X pins σ H s)(h:H p=some (.lst xs))
    (ho:s.heap.get? p=some { cls:=.type "list",data:=.seq its.toArray n }) (hf:f { cls:=.type "list",data:=.seq its.toArray n }={ cls:=.type "list",data:=.seq its'.toArray n' }) (r:Vals ys its') (hz:ys.length≤sizeLine) (t:Nat):
    Inv X pins σ (upd H p (.lst ys)) { s with heap:=s.heap.update p f,toks:=t }:=by
  have e:(s.heap.update p f).get? p=some { cls:=.type "list",data:=.seq its'.toArray n' }:=by
    rw [Heap.get?_update_self f ho (by rw [hf] <;> rfl),hf]
  refine I.write (x:=p) (e:=p) (by rw [h];trivial) (.inl rfl) (fun b u hb q=>(Heap.get?_update_other _ _ (Ne.symm hb)).trans q) ⟨_,e⟩ ?_
  exact ⟨hz,its',n',r,e⟩
def rSetL:V→V→V→Hp→(Hp→Prop)→Prop:=fun o i v H Q=>∃ p xs k j,o=.ref p∧i=.int k∧H p=some (.lst xs)∧ixN xs.length k=some j∧Q (upd H p (.lst (xs.set j v)))
theorem set_list:PSet X rSetL:=by
  intro pins s σ H o i v ov iv u Q I ro ri rv h
  obtain ⟨p,xs,k,j,rfl,rfl,hp,hj,q⟩:=h
  cases ro
  obtain ⟨t,rfl⟩:=ri
  obtain ⟨its,n,r,ho,hz⟩:=I.lst hp
  obtain ⟨h1,h2,h3,h4⟩:=ixN_seq hj
  have hl:=r.length
  have hn:=line63
  have I':Inv X pins σ (upd H p (.lst (xs.set j v))) { s with heap:=s.heap.update p (Obj.mapSeq (·.setIfInBounds j u)) }:=
    I.lstUpd hp ho (mapSeq_set its n j u) (r.set rv j) (by rw [List.length_set];exact hz) s.toks
  by_cases h0:0≤k
  · have hk:k.toNat=j:=by
      rw [seqIndex_of h0 h4] at h1
      exact Option.some.inj h1
    exact PySem.W.ki_setAt ho h0 (by omega) (by rw [List.size_toArray,← hl];exact h4) (by rw [hk];exact ⟨_,I',q⟩)
  · have hk:(k+(its.toArray.size:Int)).toNat=j:=by
      rw [seqIndex_neg (by omega) h3] at h1
      rw [List.size_toArray,← hl]
      exact Option.some.inj h1
    exact PySem.W.ki_setBack ho (by omega) (by rw [List.size_toArray,← hl];exact h3) (by omega) (by rw [hk];exact ⟨_,I',q⟩)
theorem slice_bounds (lo hi:Option Int)(n:Nat):(sliceBounds lo hi none n).1=((HT.sIx n 0 lo:Nat):Int)∧(sliceBounds lo hi none n).2.1=((HT.sIx n n hi:Nat):Int)∧(sliceBounds lo hi none n).2.2=1:=by
  refine ⟨?_,?_,rfl⟩
  · cases lo with
    | none=>simp [sliceBounds,HT.sIx]
    | some i=>
      simp only [sliceBounds,HT.sIx,Option.getD_none,show (1:Int)>0 by decide,if_true]
      by_cases h:i<0
      · simp only [h,if_true] <;> omega
      · simp only [h,if_false] <;> omega
  · cases hi with
    | none=>simp [sliceBounds,HT.sIx]
    | some i=>
      simp only [sliceBounds,HT.sIx,Option.getD_none,show (1:Int)>0 by decide,if_true]
      by_cases h:i<0
      · simp only [h,if_true] <;> omega
      · simp only [h,if_false] <;> omega
theorem slicePick_cut (its:List Value)(lo hi:Option Int):slicePick its.toArray lo hi none=((its.drop (HT.sIx its.length 0 lo)).take (HT.sIx its.length its.length hi-HT.sIx its.length 0 lo)).toArray:=by
  obtain ⟨h1,h2,h3⟩:=slice_bounds lo hi its.toArray.size
  unfold slicePick
  rw [h1,h2,h3]
  simp only [sliceRange_one,pick_run,List.size_toArray] <;> rfl
def rSlL (K:PySem.W.Frag):V→Option Int→Option Int→Hp→VK→Prop:=fun x lo hi H Q=>∃ a xs,x=.ref a∧SqL K H a xs∧∀ p,H p=none→Q (.ref p) (upd H p (.lst (cutV xs lo hi)))
theorem sl_list:SlR X (rSlL X.K):=by
  intro pins s σ H x v vl vu lo hi sl Q I rx hs pl pu h
  obtain ⟨a,xs,rfl,hx,q⟩:=h
  cases rx
  obtain ⟨its,r,ht,hz⟩:=I.list hx
  have hlen:=r.length
  refine ⟨"list",_,slot_list_getitem.lookup,ht.isList.typeIs,?_⟩
  refine wpAny_getItem_list_slice ht.isList hs pl pu .none (by simp) ?_ (by rw [List.size_toArray] <;> omega)
  rw [slicePick_cut,← hlen]
  refine ⟨.ref s.heap.objs.size,_,I.laid (t':=s.toks) (o:=.lst (cutV xs lo hi)) (fun b ob q=>Heap.get?_push_of_some _ q) (Nat.le_refl _) ?_,rfl,q _ (I.hok.fresh (Nat.le_refl _))⟩
  exact ⟨Nat.le_trans (cutV_length xs lo hi) hz,_,0,(r.drop (HT.sIx xs.length 0 lo)).take (HT.sIx xs.length xs.length hi-HT.sIx xs.length 0 lo),Heap.get?_push_size _ rfl⟩
def flatV:V→Bool
  | .non=>true
  | .bl _=>true
  | .int _=>true
  | .str _=>true
  | _=>false
def eqV:V→V→Bool
  | .non,.non=>true
  | .bl a,.bl b=>a==b
  | .bl a,.int b=>(if a then 1 else 0)==b
  | .int a,.bl b=>a==(if b then 1 else 0)
  | .int a,.int b=>a==b
  | .str a,.str b=>a==b
  | _,_=>false
theorem eqAt_V {A:Around}{s:Shared}{y x:V}{u v:Value}(ry:RelV y u)(rx:RelV x v)(fy:flatV y=true)(fx:flatV x=true):SeqAt.EqAt A s u v (eqV y x):=by
  cases y with
  | non=>
    cases ry
    cases x with
    | non=>cases rx;exact SeqAt.EqAt.same _
    | bl b=>cases rx;exact SeqAt.EqAt.none_bool b
    | int b=>obtain ⟨t,rfl⟩:=rx;exact SeqAt.EqAt.none_int b t
    | str b=>obtain ⟨t,rfl⟩:=rx;exact SeqAt.EqAt.none_str b t
    | _=>exact absurd (show false=true from fx) Bool.false_ne_true
  | bl a=>
    cases ry
    cases x with
    | non=>cases rx;exact SeqAt.EqAt.bool_none a
    | bl b=>cases rx;exact SeqAt.EqAt.bool_bool a b
    | int b=>obtain ⟨t,rfl⟩:=rx;exact SeqAt.EqAt.bool_int a b t
    | str b=>obtain ⟨t,rfl⟩:=rx;exact SeqAt.EqAt.bool_str a b t
    | _=>exact absurd (show false=true from fx) Bool.false_ne_true
  | int a=>
    obtain ⟨t',rfl⟩:=ry
    cases x with
    | non=>cases rx;exact SeqAt.EqAt.int_none a t'
    | bl b=>cases rx;exact SeqAt.EqAt.int_bool a t' b
    | int b=>obtain ⟨t,rfl⟩:=rx;exact SeqAt.EqAt.int_int a t' b t
    | str b=>obtain ⟨t,rfl⟩:=rx;exact SeqAt.EqAt.int_str a t' b t
    | _=>exact absurd (show false=true from fx) Bool.false_ne_true
  | str a=>
    obtain ⟨t',rfl⟩:=ry
    cases x with
    | non=>cases rx;exact SeqAt.EqAt.str_none a t'
    | bl b=>cases rx;exact SeqAt.EqAt.str_bool a t' b
    | int b=>obtain ⟨t,rfl⟩:=rx;exact SeqAt.EqAt.str_int a t' b t
    | str b=>obtain ⟨t,rfl⟩:=rx;exact SeqAt.EqAt.str_str a t' b t
    | _=>exact absurd (show false=true from fx) Bool.false_ne_true
  | _=>exact absurd (show false=true from fy) Bool.false_ne_true
def eqU (x:V)(u:Value):Bool:=match u with
  | .none=>eqV .non x
  | .bool b=>eqV (.bl b) x
  | .int i _=>eqV (.int i) x
  | .str z _=>eqV (.str z) x
  | _=>false
theorem eqU_of {x y:V}{u:Value}(r:RelV y u)(f:flatV y=true):eqU x u=eqV y x:=by
  cases y with
  | non=>cases r;rfl
  | bl b=>cases r;rfl
  | int i=>obtain ⟨t,rfl⟩:=r;rfl
  | str z=>obtain ⟨t,rfl⟩:=r;rfl
  | _=>exact absurd (show false=true from f) Bool.false_ne_true
theorem any_eqU {x:V}:∀ {xs:List V} {us:List Value},Vals xs us→xs.all flatV=true→us.any (eqU x)=xs.any fun y=>eqV y x
  | _,_,.nil,_=>rfl
  | y::xs,u::us,.cons r t,f=>by
    rw [List.all_cons,Bool.and_eq_true] at f
    rw [List.any_cons,List.any_cons,eqU_of r f.1,any_eqU t f.2]
theorem mem_eqAt {A:Around}{s:Shared}{x:V}{v:Value}(rx:RelV x v)(fx:flatV x=true):∀ {xs:List V} {us:List Value},Vals xs us→xs.all flatV=true→∀ u∈us,SeqAt.EqAt A s u v (eqU x u)
  | _,_,.nil,_=>fun u hu=>by cases hu
  | y::xs,u::us,.cons r t,f=>fun u' hu=>by
    rw [List.all_cons,Bool.and_eq_true] at f
    rcases List.mem_cons.mp hu with rfl | hu
    · rw [eqU_of r f.1];exact eqAt_V r rx f.1 fx
    · exact mem_eqAt rx fx t f.2 u' hu
def inV (x:V)(xs:List V):Bool:=xs.any fun y=>eqV y x
def rIn (K:PySem.W.Frag)(neg:Bool):R2:=fun x y H Q=>∃ p xs,y=.ref p∧(SqL K H p xs∨SqT K H p xs)∧flatV x=true∧xs.all flatV=true∧Q (.bl (if neg then !inV x xs else inV x xs)) H
theorem op_in_seq:OpR X (compareOp .In) (rIn X.K false):=by
  intro pins s σ H x y v u Q I rx ry h
  obtain ⟨p,xs,rfl,hq,fx,fs,q⟩:=h
  cases ry
  rcases hq with hq | hq
  · obtain ⟨its,r,pl,hz⟩:=I.list hq
    refine SeqAt.in_listAt (eqU x) pl.isList (fun w hw=>mem_eqAt rx fx r fs w (by simpa using hw)) ⟨.bl _,H,I,rfl,?_⟩
    rw [show its.toArray.any (eqU x)=its.any (eqU x) by simp,any_eqU r fs]
    exact q
  · obtain ⟨its,r,pl,hz⟩:=I.tuple hq
    refine SeqAt.in_tupleAt (eqU x) pl (fun w hw=>mem_eqAt rx fx r fs w (by simpa using hw)) ⟨.bl _,H,I,rfl,?_⟩
    rw [show its.toArray.any (eqU x)=its.any (eqU x) by simp,any_eqU r fs]
    exact q
theorem call_len_seq:CallR X (.builtin "len") (fun xs H Q=>∃ p ys,xs=[.ref p]∧(SqL X.K H p ys∨SqT X.K H p ys)∧Q (.int ys.length) H):=by
  intro pins s σ H xs us Q I r h
  obtain ⟨p,ys,rfl,hq,q⟩:=h
  obtain ⟨u,rfl,rx⟩:=vals1 r
  cases rx
  have hn:=line63
  rcases hq with hq | hq
  · obtain ⟨its,r',pl,hz⟩:=I.list hq
    have hlen:=r'.length
    exact Calls.call_len_list pl.isList (by simp only [List.size_toArray] <;> omega) ⟨.int ys.length,H,I.tok _,⟨s.toks+1,by rw [List.size_toArray,hlen]⟩,q⟩
  · obtain ⟨its,r',pl,hz⟩:=I.tuple hq
    have hlen:=r'.length
    exact len_tuple pl (by simp only [List.size_toArray] <;> omega) ⟨.int ys.length,H,I.tok _,⟨s.toks+1,by rw [List.size_toArray,hlen]⟩,q⟩
theorem CallR.or {f:Value}{r r':List V→Hp→VK→Prop}(h:CallR X f r)(h':CallR X f r'):CallR X f (fun xs H Q=>r xs H Q∨r' xs H Q):=by
  intro pins s σ H xs us Q I rs q
  rcases q with q | q
  · exact h pins s σ H xs us Q I rs q
  · exact h' pins s σ H xs us Q I rs q
theorem call_list_of:CallR X (.type "list") (fun xs H Q=>∃ p ys,xs=[.ref p]∧(SqL X.K H p ys∨SqT X.K H p ys)∧∀ l,H l=none→Q (.ref l) (upd H l (.lst ys))):=by
  intro pins s σ H xs us Q I r h
  obtain ⟨p,ys,rfl,hq,q⟩:=h
  obtain ⟨u,rfl,rx⟩:=vals1 r
  cases rx
  have fin:∀ (its:List Value),Vals ys its→ys.length≤sizeLine→∀ (h':Heap) (c':Nat),(∀ b o',s.heap.get? b=some o'→h'.get? b=some o')→
      h'.get? s.heap.objs.size=some { cls:=.type "list",dict:=none,data:=.seq its.toArray c',slots:=#[] }→EP X pins σ Q (.ref s.heap.objs.size) { s with heap:=h' }:=fun its r' hz h' c' kp e=>
    ⟨.ref s.heap.objs.size,_,I.laid (t':=s.toks) kp (Nat.le_refl _) (show ObjOk X.prog X.w _ h' _ (.lst ys) from ⟨hz,its,c',r',e⟩),rfl,q _ (I.hok.fresh (Nat.le_refl _))⟩
  rcases hq with hq | hq
  · obtain ⟨its,r',pl,hz⟩:=I.list hq
    have hlen:=r'.length
    obtain ⟨o,ho,hc,n,hd⟩:=pl.isList
    exact call_list_seq p (.inl rfl) ho hc hd (fun h' c' kp e=>fin its r' hz h' c' kp e) (by simp only [List.size_toArray] <;> omega)
  · obtain ⟨its,r',pl,hz⟩:=I.tuple hq
    have hlen:=r'.length
    obtain ⟨o,ho,hc,n,hd⟩:=pl
    exact call_list_seq p (.inr rfl) ho hc hd (fun h' c' kp e=>fin its r' hz h' c' kp e) (by simp only [List.size_toArray] <;> omega)
theorem call_tuple_of:CallR X (.type "tuple") (fun xs H Q=>∃ p ys,xs=[.ref p]∧((SqL X.K H p ys∧∀ l,H l=none→Q (.ref l) (upd H l (.tup ys)))∨(SqT X.K H p ys∧Q (.ref p) H))):=by
  intro pins s σ H xs us Q I r h
  obtain ⟨p,ys,rfl,h⟩:=h
  obtain ⟨u,rfl,rx⟩:=vals1 r
  cases rx
  rcases h with ⟨hq,q⟩ | ⟨hq,q⟩
  · obtain ⟨its,r',pl,hz⟩:=I.list hq
    have hlen:=r'.length
    refine call_tuple_list pl.isList (fun h' kp=>?_) (by simp only [List.size_toArray] <;> omega)
    have I1:Inv X pins σ H { s with heap:=h' }:=I.kept (t':=s.toks) kp
    have I2:Inv X pins σ (upd H h'.objs.size (.tup ys)) { s with heap:=h'.push { cls:=.type "tuple",data:=.seq its.toArray } }:=
      I1.laid (t':=s.toks) (fun b o e=>Heap.get?_push_of_some _ e) (Nat.le_refl _) (show ObjOk X.prog X.w _ _ _ (.tup ys) from ⟨hz,its,r',IsTup.new _ _⟩)
    exact ⟨.ref h'.objs.size,_,I2,rfl,q _ (I1.hok.fresh (Nat.le_refl _))⟩
  · obtain ⟨its,r',pl,hz⟩:=I.tuple hq
    exact call_tuple_same pl ⟨.ref p,H,I,rfl,q⟩
def tyV (K:PySem.W.Frag)(T:String)(x:V)(H:Hp):Prop:=match x with
  | .str _=>T="str"
  | .int _=>T="int"
  | .ref p=>(T="list"∧∃ xs,SqL K H p xs)∨(T="tuple"∧∃ o,K.lookup p=some o∧o.cls=.type "tuple"∧o.dict=none)∨
      (T="dict"∧((∃ kvs,H p=some (.dK kvs))∨∃ kvs,H p=some (.dT kvs)))∨(T="set"∧∃ S n,H p=some (.set S n))
  | _=>False
theorem tyV_is {pins:List (Addr×Obj)}{σ:St}{H:Hp}{s:Shared}{T:String}{x:V}{v:Value}(I:Inv X pins σ H s)(r:RelV x v)(ty:tyV X.K T x H):
    s.TypeIs v T∧∀ a,v=.ref a→∃ ob,s.heap.get? a=some ob∧ob.dict=none:=by
  cases x with
  | str z=>
    obtain ⟨t,rfl⟩:=r
    cases (show T="str" from ty)
    exact ⟨typeIs_str s z t,fun _ e=>nomatch e⟩
  | int i=>
    obtain ⟨t,rfl⟩:=r
    cases (show T="int" from ty)
    exact ⟨typeIs_int s i t,fun _ e=>nomatch e⟩
  | ref p=>
    cases r
    rcases ty with ⟨rfl,xs,hq⟩ | ⟨rfl,o,hk,hc,hd⟩ | ⟨rfl,hk⟩ | ⟨rfl,S,n,hk⟩
    · obtain ⟨its,_,pl,_⟩:=I.list hq
      refine ⟨pl.isList.typeIs,fun a e=>?_⟩
      cases e
      obtain ⟨o,n,e,c,hd,_⟩:=pl
      exact ⟨o,e,hd⟩
    · refine ⟨⟨o,I.kIn p o hk,hc⟩,fun a e=>?_⟩
      cases e
      exact ⟨o,I.kIn _ o hk,hd⟩
    · have z:∃ o,s.heap.get? p=some o∧o.ExactDict:=by
        rcases hk with ⟨kvs,hk⟩ | ⟨kvs,hk⟩
        · obtain ⟨_,_,_,_,o,_,_,e,ex,_⟩:=I.hok p _ hk
          exact ⟨o,e,ex⟩
        · obtain ⟨_,_,_,_,o,_,_,e,ex,_⟩:=I.hok p _ hk
          exact ⟨o,e,ex⟩
      obtain ⟨o,e,ex⟩:=z
      refine ⟨⟨o,e,ex.1⟩,fun a e2=>?_⟩
      cases e2
      exact ⟨o,e,ex.2.1⟩
    · obtain ⟨o,_,_,_,e,ex,_⟩:=I.hok p _ hk
      refine ⟨⟨o,e,ex.1⟩,fun a e2=>?_⟩
      cases e2
      exact ⟨o,e,ex.2.1⟩
  | _=>exact False.elim ty
def tBM0 (K:PySem.W.Frag)(T:String)(r:V→List V→Hp→VK→Prop)(to:TE):TE:=fun σ H Q=>to σ H fun x H1=>tyV K T x H1∧r x [] H1 Q
def tBM (K:PySem.W.Frag)(T:String)(r:V→List V→Hp→VK→Prop)(to:TE)(t:TA):TE:=fun σ H Q=>to σ H fun x H1=>tyV K T x H1∧t σ H1 fun xs H2=>r x xs H2 Q
variable {o e:Expr}{es:List Expr}{to:TE}{t:TA}{name:Str}{apos cpos:Pos}{T id:String}{r:V→List V→Hp→VK→Prop}
theorem pe_bm0 (pa:PlainAttrs T)(slot:Slot T name id)(hty:typeOf (.builtin id)=pure (.type "method_descriptor"))(hm:MtR X id r)(ho:PE X o to)
    (hbase:attributeBase o name X.env (eval o X.env)=eval o X.env:=by rfl) (hline:(apos.endLine==cpos.line)=true:=by rfl):PE X (.Call (.Attribute o name apos) [] [] cpos) (tBM0 X.K T r to):=by
  intro pins s σ H Q I h
  refine wpAny_Call_method0_late hbase hline (thn (ho pins s σ H _ I h) fun v s1 ⟨x,H1,I1,r1,ty,q1⟩=>?_)
  obtain ⟨h1,h2⟩:=tyV_is I1 r1 ty
  exact ⟨T,id,pa,slot,hty,h1,h2,Calls.callWith_builtin rfl (PySem.evalArgs_none (hm pins s1 σ H1 x [] v [] Q I1 r1 .nil q1))⟩
theorem pe_bm (pa:PlainAttrs T)(slot:Slot T name id)(hty:typeOf (.builtin id)=pure (.type "method_descriptor"))(hm:MtR X id r)(ho:PE X o to)(ha:PA X (e::es) t)
    (hbase:attributeBase o name X.env (eval o X.env)=eval o X.env:=by rfl)
    (hfew:((backTo cpos (starEach (e::es) X.env)).all (fun x=>!x.1)&&(backToKw cpos (keywordEach [] X.env)).all (fun x=>x.1.isSome)
      && decide ((e::es).length+([]:List Keyword).length+(if ([]:List Keyword).isEmpty then 0 else 1)<30))=true:=by rfl)
    (hline:(apos.endLine==cpos.line)=true:=by rfl) (hs:starEach (e::es) X.env=(false,eval e X.env)::starEach es X.env:=by rfl) (hplain:(backTo cpos (starEach es X.env)).any (·.1)=false:=by rfl):
    PE X (.Call (.Attribute o name apos) (e::es) [] cpos) (tBM X.K T r to t):=by
  intro pins s σ H Q I h
  refine wpAny_Call_method_late hbase hfew hline rfl (thn (ho pins s σ H _ I h) fun v s1 ⟨x,H1,I1,r1,ty,q1⟩=>?_)
  obtain ⟨h1,h2⟩:=tyV_is I1 r1 ty
  refine ⟨T,id,pa,slot,hty,h1,h2,?_⟩
  have hA:=ha cpos pins s1 σ H1 _ I1 q1
  rw [hs] at hA ⊢
  refine Calls.callWith_builtin (by show (false||(backTo cpos (starEach es X.env)).any (·.1))=false;rw [hplain] <;> rfl) (Calls.evalArgs_plain ?_)
  exact thn hA fun us s2 ⟨vs,H2,I2,r2,q2⟩=>hm pins s2 σ H2 x vs v us Q I2 r1 r2 q2
/- xs.append(e),list.index on a module's tuple .. are MtR facts of 06m -/
end
end L2
namespace L2
open PySem PySem.Spec PyProof.Rows
def MtM (X:Cx)(id:String)(r:V→List V→Hp→VK→Prop):Prop:=
  ∀ (pins:List (Addr×Obj)) (s:Shared) (σ:St) (H:Hp) (x:V) (xs:List V) (v:Value) (us:List Value) (Q:VK),Inv X pins σ H s→RelV x v→Vals xs us→r x xs H Q→
    wpAny (model X.prog X.w) X.A (call (.builtin id) (v::us)) (EP X pins σ Q) X.xe s
theorem Vals.one:∀ {x:V} {us:List Value},Vals [x] us→∃ u,us=[u]∧RelV x u
  | _,_,.cons r .nil=>⟨_,rfl,r⟩
theorem Vals.two:∀ {x y:V} {us:List Value},Vals [x,y] us→∃ u v,us=[u,v]∧RelV x u∧RelV y v
  | _,_,_,.cons r (.cons q .nil)=>⟨_,_,rfl,r,q⟩
theorem Vals.zero:∀ {us:List Value},Vals [] us→us=[]
  | _,.nil=>rfl
theorem Vals.dropLast {xs:List V}{us:List Value}(h:Vals xs us):Vals xs.dropLast us.dropLast:=by
  induction h with
  | nil=>exact .nil
  | cons r t ih=>
    cases t with
    | nil=>exact .nil
    | cons q t'=>exact .cons r ih
theorem Vals.eraseIdx:∀ {xs:List V} {us:List Value} (i:Nat),Vals xs us→Vals (xs.eraseIdx i) (us.eraseIdx i)
  | _,_,_,.nil=>.nil
  | _,_,0,.cons _ t=>t
  | _,_,i+1,.cons r t=>.cons r (Vals.eraseIdx i t)
theorem Vals.reverse {xs:List V}{us:List Value}(h:Vals xs us):Vals xs.reverse us.reverse:=by
  induction h with
  | nil=>exact .nil
  | cons r t ih=>rw [List.reverse_cons,List.reverse_cons];exact Vals.append ih (.cons r .nil)
theorem Vals.rep {xs:List V}{us:List Value}(h:Vals xs us):∀ k:Nat,Vals (List.replicate k xs).flatten (List.replicate k us).flatten
  | 0=>.nil
  | k+1=>by
    rw [List.replicate_succ,List.replicate_succ,List.flatten_cons,List.flatten_cons]
    exact Vals.append h (Vals.rep h k)
theorem erase_last {α:Type}(l:List α):l.eraseIdx (l.length-1)=l.dropLast:=by
  induction l with
  | nil=>rfl
  | cons a r ih=>
    cases r with
    | nil=>rfl
    | cons b r=>
      have e:(a::b::r).length-1=((b::r).length-1)+1:=by
        have h1:(a::b::r).length=r.length+2:=rfl
        have h2:(b::r).length=r.length+1:=rfl
        omega
      rw [e,List.eraseIdx_cons_succ,ih]
      all_goals rfl
theorem foldl_rep (its:List Value):∀ (k:Nat) (acc:List Value),
    List.foldl (fun x1 x2=>x1++x2) acc.toArray (List.replicate k its.toArray)=(acc++(List.replicate k its).flatten).toArray
  | 0,acc=>by simp
  | k+1,acc=>by
    have e:acc.toArray++its.toArray=(acc++its).toArray:=by simp
    have e2:(acc++its)++(List.replicate k its).flatten=acc++(List.replicate (k+1) its).flatten:=by
      rw [List.replicate_succ,List.flatten_cons,List.append_assoc]
    rw [← e2,← foldl_rep its k (acc++its),← e,List.replicate_succ,List.foldl_cons]
section
variable {X:Cx}{pins:List (Addr×Obj)}{σ:St}{H:Hp}{s:Shared}{l b:Addr}{xs ys zs:List V}
theorem Inv.lset {its its':List Value}{n:Nat}{f:Array Value→Array Value}{t':Nat}(I:Inv X pins σ H s)(hH:H l=some (.lst xs))
    (e:s.heap.get? l=some { cls:=.type "list",data:=.seq its.toArray n }) (hf:f its.toArray=its'.toArray) (hv:Vals ys its') (hz:ys.length≤sizeLine):
    Inv X pins σ (upd H l (.lst ys)) { s with heap:=s.heap.update l (Obj.mapSeq f),toks:=t' }:=by
  have q:=PySem.IsL.update e f
  rw [hf] at q
  refine I.write (x:=l) (e:=l) (by rw [hH];exact trivial) (.inl rfl) (fun b' u hb hu=>(Heap.get?_update_other s.heap (Obj.mapSeq f) (Ne.symm hb)).trans hu) ⟨_,q⟩ ?_
  exact ⟨hz,its',_,hv,q⟩
theorem Inv.lnew {its:List Value}{t':Nat}(I:Inv X pins σ H s)(hv:Vals ys its)(hz:ys.length≤sizeLine):
    Inv X pins σ (upd H s.heap.objs.size (.lst ys)) { s with heap:=s.heap.push { cls:=.type "list",data:=.seq its.toArray },toks:=t' }:=
  I.laid (fun _ _ q=>Heap.get?_push_of_some _ q) (Nat.le_refl _) ⟨hz,its,0,hv,Heap.get?_push_size _ rfl⟩
theorem Inv.fresh (I:Inv X pins σ H s):H s.heap.objs.size=none:=I.hok.fresh (Nat.le_refl _)
theorem Inv.lstM (I:Inv X pins σ H s)(hH:H l=some (.lst xs)):xs.length≤sizeLine∧∃ (its:List Value) (n:Nat),Vals xs its∧xs.length=its.length∧s.heap.get? l=some { cls:=.type "list",data:=.seq its.toArray n }:=by
  obtain ⟨z,its,n,r,e⟩:=I.hok l _ hH
  exact ⟨z,its,n,r,r.length,e⟩
theorem notLongL {n:Nat}(h:n≤sizeLine):Builtin.List.listTooLong n=false:=by
  unfold Builtin.List.listTooLong
  exact decide_eq_false (by omega)
end
section
variable {X:Cx}
def rAppend:V→List V→Hp→VK→Prop:=fun x vs H Q=>∃ l xs y,x=.ref l∧vs=[y]∧H l=some (.lst xs)∧xs.length<sizeLine∧Q .non (upd H l (.lst (xs++[y])))
theorem mt_append:MtM X "list.append" rAppend:=by
  intro pins s σ H x vs v us Q I rx rv h
  obtain ⟨l,xs,y,rfl,rfl,hH,hz,q⟩:=h
  cases rx
  obtain ⟨u,rfl,ru⟩:=rv.one
  obtain ⟨z,its,n,r,hl,e⟩:=I.lstM hH
  refine call_meets F.slot_list_append ⟨_,e,rfl⟩ F.entry_list_append (F.args_list_append_2 _ _) (PySem.list_append l its.toArray n u (by rw [List.size_toArray];omega)) ⟨e,?_⟩
  refine ⟨.non,_,I.lset (its':=its++[u]) hH e (by simp) (r.append (.cons ru .nil)) ?_,rfl,q⟩
  rw [List.length_append,List.length_singleton]
  omega
def rExtend:V→List V→Hp→VK→Prop:=fun x vs H Q=>∃ l b xs zs,x=.ref l∧vs=[.ref b]∧H l=some (.lst xs)∧H b=some (.lst zs)∧xs.length+zs.length≤sizeLine∧Q .non (upd H l (.lst (xs++zs)))
theorem mt_extend:MtM X "list.extend" rExtend:=by
  intro pins s σ H x vs v us Q I rx rv h
  obtain ⟨l,b,xs,zs,rfl,rfl,hH,hB,hz,q⟩:=h
  cases rx
  obtain ⟨u,rfl,ru⟩:=rv.one
  cases ru
  obtain ⟨z,its,n,r,hl,e⟩:=I.lstM hH
  obtain ⟨z2,its2,n2,r2,hl2,e2⟩:=I.lstM hB
  have hsz:its.toArray.size+its2.toArray.size≤sizeLine:=by rw [List.size_toArray,List.size_toArray];omega
  have hlong:¬ (!its.toArray.isEmpty&&Builtin.List.listTooLong (its.toArray.size+its2.toArray.size))=true:=by
    rw [notLongL hsz,Bool.and_false]
    exact Bool.false_ne_true
  refine call_meets F.slot_list_extend ⟨_,e,rfl⟩ F.entry_list_extend (F.args_list_extend_2 _ _)
    (AutoSeq1.list_extend_list_list_0 l its.toArray n b its2.toArray n2 hlong (by rw [List.size_toArray];omega) (by omega)) ⟨e,e2,?_⟩
  refine ⟨.non,_,I.lset (its':=its++its2) hH e (by simp) (r.append r2) ?_,rfl,q⟩
  rw [List.length_append]
  omega
def rPop:V→List V→Hp→VK→Prop:=fun x vs H Q=>∃ l xs y,x=.ref l∧vs=[]∧H l=some (.lst xs)∧xs[xs.length-1]?=some y∧Q y (upd H l (.lst xs.dropLast))
theorem mt_pop:MtM X "list.pop" rPop:=by
  intro pins s σ H x vs v us Q I rx rv h
  obtain ⟨l,xs,y,rfl,rfl,hH,hy,q⟩:=h
  cases rx
  have hus:=rv.zero
  subst hus
  obtain ⟨z,its,n,r,hl,e⟩:=I.lstM hH
  obtain ⟨u,hu,ru⟩:=r.get hy
  have hy':its.toArray[its.toArray.size-1]?=some u:=by
    show its.toArray[its.length-1]?=some u
    rw [← Array.getElem?_toList,← hl]
    exact hu
  refine call_meets F.slot_list_pop ⟨_,e,rfl⟩ F.entry_list_pop (F.args_list_pop_1 _) (MeetsSeq.list_pop_last l its.toArray n u hy' (by rw [List.size_toArray];omega)) ⟨e,?_⟩
  refine ⟨y,_,I.lset (its':=its.dropLast) hH e ?_ r.dropLast ?_,ru,q⟩
  · show its.toArray.eraseIdxIfInBounds (its.toArray.size-1)=its.dropLast.toArray
    rw [List.size_toArray,List.eraseIdxIfInBounds_toArray,erase_last]
  · rw [List.length_dropLast]
    omega
def rPopAt:V→List V→Hp→VK→Prop:=fun x vs H Q=>∃ l xs i k y,x=.ref l∧vs=[.int i]∧H l=some (.lst xs)∧-(2 ^ 63)≤i∧i<2 ^ 63∧seqIndex? i xs.length=some k∧xs[k]?=some y∧Q y (upd H l (.lst (xs.eraseIdx k)))
def rReverse:V→List V→Hp→VK→Prop:=fun x vs H Q=>∃ l xs,x=.ref l∧vs=[]∧H l=some (.lst xs)∧Q .non (upd H l (.lst xs.reverse))
def rClear:V→List V→Hp→VK→Prop:=fun x vs H Q=>∃ l xs,x=.ref l∧vs=[]∧H l=some (.lst xs)∧Q .non (upd H l (.lst []))
def rCat:R2:=fun x y H Q=>∃ l b xs zs,x=.ref l∧y=.ref b∧H l=some (.lst xs)∧H b=some (.lst zs)∧xs.length+zs.length≤sizeLine∧∀ p,H p=none→Q (.ref p) (upd H p (.lst (xs++zs)))
def rRep:R2:=fun x y H Q=>∃ l k xs,x=.ref l∧y=.int k∧H l=some (.lst xs)∧-(2 ^ 63)≤k∧k<2 ^ 63∧xs.length*k.toNat≤sizeLine∧
  ∀ p,H p=none→Q (.ref p) (upd H p (.lst (List.replicate k.toNat xs).flatten))
theorem len_rep {α:Type}(xs:List α)(k:Nat):(List.replicate k xs).flatten.length=k*xs.length:=by
  induction k with
  | zero=>simp
  | succ k ih=>rw [List.replicate_succ,List.flatten_cons,List.length_append,ih,Nat.succ_mul,Nat.add_comm]
theorem op_rep:OpR X (binaryOp .Mult) rRep:=by
  intro pins s σ H x y v u Q I rx ry h
  obtain ⟨l,k,xs,rfl,rfl,hH,h1,h2,hz,q⟩:=h
  cases rx
  obtain ⟨t,rfl⟩:=ry
  obtain ⟨z,its,n,r,hl,e⟩:=I.lstM hH
  have hlen:its.toArray.size*k.toNat≤sizeLine:=by rw [List.size_toArray,← hl];exact hz
  have hcap:¬ its.toArray.size*k.toNat>(2 ^ 63-1) / 8:=by
    have:(sizeLine:Nat)≤(2 ^ 63-1) / 8:=by decide
    omega
  have hfit:¬ (!Builtin.List.listFitsIndex k)=true:=by
    rw [fitsIndex_both h1 h2]
    exact Bool.false_ne_true
  have hlong:¬ Builtin.List.listTooLong (its.toArray.size*k.toNat)=true:=by
    rw [notLongL hlen]
    exact Bool.false_ne_true
  have hnew:List.foldl (fun x1 x2=>x1++x2) #[] (List.replicate (if its.toArray.isEmpty=true then 0 else k.toNat) its.toArray)=(List.replicate k.toNat its).flatten.toArray:=by
    have f0:∀ m:Nat,List.foldl (fun x1 x2=>x1++x2) #[] (List.replicate m its.toArray)=(List.replicate m its).flatten.toArray:=fun m=>by
      have:=foldl_rep its m []
      rw [List.nil_append] at this
      exact this
    rw [f0]
    cases its with
    | nil=>simp
    | cons a r'=>rw [if_neg (by simp)]
  refine wpAny_binaryOp_repeat_ref (T:="list") (U:="int") (by decide) ⟨_,e,rfl⟩ (fun s'=>typeIs_int s' k t) noFill_list_mul F.fills_int_mul F.slot_int_rmul repeat_list F.slot_int_index.lookup
    (call_meets F.slot_int_rmul (typeIs_int s k t) F.entry_int_rmul (F.args_int_rmul_2 _ _) (int___rmul___int_list k t l its.toArray n)
      ⟨e,rfl,⟨_,e,rfl⟩,call_meets F.slot_list_mul ⟨_,e,rfl⟩ F.entry_list_mul (F.args_list_mul_2 _ _) (AutoListH.list___mul___list_int_3 l its.toArray n k t hfit hcap hlong) ⟨e,?_⟩⟩)
  rw [hnew]
  exact ⟨.ref _,_,I.lnew (t':=s.toks) (r.rep k.toNat) (by rw [len_rep,Nat.mul_comm];exact hz),rfl,q _ I.fresh⟩
end
section
variable {prog:Program}{w:World}{A:Around}{E:Value→Shared→Prop}{s:Shared}
end
section
variable {X:Cx}
end
end L2
namespace Att
open PySem PySem.W PySem.Calls PyProof.Rows
theorem ints_of_wellAll {P:Params}{h:Heap}:∀ (ns:List Int) (vs:List Value),WellAll P h vs (ns.map WData.int)→IntsAre vs ns:=by
  intro ns
  induction ns with
  | nil=>
    intro vs w
    rw [List.map_nil] at w
    cases w
    exact .nil
  | cons n ns ih=>
    intro vs w
    rw [List.map_cons] at w
    cases w with
    | cons a b=>
      cases a
      exact .cons _ _ (ih _ b)
theorem script_of {l:OpenLaw}{n:Nat}(hn:l.most=some n){P:Params}{h:Heap}{args:List WData}{vals:List Value}
    (hpre:l.row.toRowW.claim.pre args=true) (hwl:WellAll P h vals args):
    ∃ a vs ns,vals=[Value.ref a]∧args=[WData.list (ns.map WData.int)]∧h.get? a=some { cls:=.type "list",data:=.seq vs.toArray }∧IntsAre vs ns∧ns.length≤n:=by
  have hsh:WShape.hasAll [] args [.list .int]=true:=(pre_splitW hpre).1
  have hc:l.pre.holds [] { args:=args }=true:=(pre_splitW hpre).2
  obtain ⟨d,r,rfl,h1,h2⟩:=hasAllW_cons hsh
  obtain rfl:=hasAllW_nil h2
  obtain ⟨xs,rfl,h3⟩:=hasW_list h1
  obtain ⟨ns,rfl⟩:=items_int h3
  have hlen:ns.length≤n:=by
    unfold OpenLaw.pre at hc
    have h4:(WTm.not (.lt (.lit (.int (n:Int))) (.len (.arg 0)))).holds [] { args:=[.list (ns.map .int)] }=true:=by
      have h4:=(holds_andW hc).1
      rw [hn] at h4
      exact h4
    have h5:=condW_of h4 (w_not (w_lt w_lit (w_len_list (w_arg rfl))))
    rw [List.length_map] at h5
    refine Nat.le_of_not_lt fun q=>?_
    have q':(n:Int)<((ns.length:Nat):Int):=by omega
    first
      | (rw [decide_eq_true q'] at h5;exact absurd h5 (by decide))
      | (simp at h5;omega)
  cases hwl with
  | cons w1 w2=>
    cases w2
    cases w1 with
    | list ho hall=>exact ⟨_,_,ns,rfl,rfl,ho,ints_of_wellAll ns _ hall,hlen⟩
theorem post_true (l:OpenLaw)(args:List WData):l.row.toRowW.claim.post args (.bool true) args=true:=
  postW_of (r:=l.row.toRowW) (X:=(true==true))
    (show WShape.has [] (.bool true) .bool=true by first | rfl | decide | simp [WShape.has,WShape.arms,WShape.armsAll])
    (show (WTm.eq .res (.lit (.bool true))).value [] { args:=args,res:=some (.bool true),after:=args }=some (.bool (true==true)) from w_eq_bool (w_res rfl) w_lit) rfl
theorem attach_call {l:OpenLaw}{n:Nat}{q:Program}{loose:List Str}{XP:(Str→Option Value)→Heap→Prop}{YP:World→Heap→Prop}{d:DefRec}
    (hn:l.most=some n) (hdf:d.params.defaults=[])
    (call:∀ (w:World) (s₀ s₁:Shared) (mg mb:Str→Option Value) (fa:Addr) (o:Obj) (pm cd doc:Value) (a:Addr) (vs:List Value) (ns:List Int),
      Ground q loose [] XP w s₀ mg mb s₁.heap→YP w s₁.heap→
      s₁.heap.get? fa=some o→o.data=.func (docDef d.name d.params d.body d.scope pm cd doc)→s₁.heap.CodeRec cd d.name→mg d.name=some (.ref fa)→
      s₁.heap.get? a=some { cls:=.type "list",data:=.seq vs.toArray }→IntsAre vs ns→ns.length≤n→s₁.gens=#[]→
      codeAny (model l.prog w) callerA (.call (.ref fa) ⟨[.ref a],[]⟩) (fun r s'=>r=.ok (.ret (.bool true))∧OldK s₁.heap s'.heap∧s'.os=s₁.os∧AllBare s'.gens) s₁):
    WalkO q loose XP YP l.row.toRowW d [] (fun f vs=>PySem.call f vs):=by
  intro w s₀ s₁ mg mb G Y fa o pm cd doc dV kV ho hd hcd hD hmg hg args vals as hpre hlay hrd hwl hlo
  obtain rfl:dV=.none:=Dflts.none hD hdf
  obtain rfl:kV=.none:=Dflts.noKw hD
  obtain ⟨a,vs,ns,rfl,rfl,hobj,hints,hlen⟩:=script_of hn hpre hwl
  refine enter_call (codeAny_mono (call w s₀ s₁ mg mb fa o pm cd doc a vs ns G Y ho (fd_plain hd) hcd hmg hobj hints hlen hg) fun r s' hq=>?_)
  obtain ⟨rfl,h2,h3,h4⟩:=hq
  exact ⟨.inl ⟨.bool true,.bool true,[],rfl,fun _=>rfl,.bool true,post_true l _,fun _=>⟨List.Pairwise.nil,fun _ hm=>(nomatch hm)⟩⟩,h2,h3,h4⟩
section
variable {prog:Program}{w:World}{A:Around}{E:Value→Shared→Prop}{s:Shared}{K:Frag}
def noObjs (h:Heap):Heap:={ h with objs:=#[] }
def ledger (h:Heap)(L d:Addr):List (Addr×Obj):=(List.range h.objs.size).filterMap fun a=>if a=L∨a=d then none else (h.get? a).map fun o=>(a,o)
end
end Att
namespace L2
open PySem PySem.Spec PyProof.Rows
theorem vals_ints:∀ {vs:List Value} {ns:List Int},IntsAre vs ns→Vals (ns.map V.int) vs
  | _,_,.nil=>.nil
  | _,_,.cons n t h=>.cons ⟨t,rfl⟩ (vals_ints h)
def Only (H:Hp):Prop:=∀ b,H b=none∨∃ o xs,H b=some (.frz o (.lst xs))
theorem law_call {P:Program}{w:World}{K:PySem.W.Frag}{mg mb:Str→Option Value}{CX:CXT}{k:Nat}{fa a:Addr}{fd:FuncData}{x:Str}{sp:Sp}{s₁:Shared}{vs:List Value}{ns:List Int}
    (KX:K.In s₁.heap) (hns:s₁.heap.Ns mainGlobals mg) (hb:s₁.heap.Ns builtinsNs mb) (hbb:∀ x:Str,x≠"__name__"→mb x=bootBuiltins x) (hlim:s₁.heap.NoLimit) (hg:s₁.gens=#[])
    (ha:s₁.heap.get? a=some { cls:=.type "list",data:=.seq vs.toArray }) (hi:IntsAre vs ns) (hl:ns.length≤sizeLine) (hr:Room k callerA)
    (F:∀ base:Heap,K.In base→base.Ns mainGlobals mg→FnOk P w K mg base CX k fa fd [x] sp) (hbind:∀ (s:Shared) (u:Value),BindsTo s fd ⟨[u],[]⟩ [(x,u)])
    (hsp:∀ H:Hp,Only H→SqL K H a (ns.map V.int)→sp [.ref a] H (fun v _=>v=.bl true) fun _ _ _=>False)
    (hCX:∀ H e s',CX [] H s₁ (fun _ _ _=>False) e s'→False):
    codeAny (model P w) callerA (.call (.ref fa) ⟨[.ref a],[]⟩) (fun r s'=>r=.ok (.ret (.bool true))∧OldK s₁.heap s'.heap∧s'.os=s₁.os∧AllBare s'.gens) s₁:=by
  have rv:=vals_ints hi
  have lenV:=hi.length
  have core:∀ H:Hp,Only H→SqL K H a (ns.map V.int)→HOk P w H s₁.heap→(∀ b,H b≠none→b=a)→(H a≠none→K.lookup a=none)→
      codeAny (model P w) callerA (.call (.ref fa) ⟨[.ref a],[]⟩) (fun r s'=>r=.ok (.ret (.bool true))∧OldK s₁.heap s'.heap∧s'.os=s₁.os∧AllBare s'.gens) s₁:=by
    intro H hO hS hok hA hK
    have base_of:∀ {b:Addr} {o:Obj},s₁.heap.get? b=some o→H b=none→(hidT s₁.heap H).get? b=some o:=fun e n=>hidT_get e n
    have noA:∀ {b:Addr} {o:Obj} {es:Array DictEntry} {ep:Nat},s₁.heap.get? b=some o→o.data=.dict es ep→H b=none:=fun {b o es ep} e d=>by
      cases q:H b with
      | none=>rfl
      | some u=>
        have e':b=a:=hA b (by rw [q];simp)
        subst e'
        rw [ha] at e;cases e
        have d':Data.seq vs.toArray _=Data.dict es ep:=d
        cases d'
    have nsK:∀ {b:Addr} {m:Str→Option Value},s₁.heap.Ns b m→(hidT s₁.heap H).Ns b m:=fun {b m} ⟨o,es,ep,e,d,r⟩=>⟨o,es,ep,base_of e (noA e d),d,r⟩
    have hKb:K.In (hidT s₁.heap H):=fun b o e=>base_of (KX b o e) (by
      cases q:H b with
      | none=>rfl
      | some u=>
        have e':b=a:=hA b (by rw [q];simp)
        subst e'
        rw [hK (by rw [q];simp)] at e;cases e)
    have hM:Mod K mg (hidT s₁.heap H):=⟨hKb,nsK hns,⟨mb,nsK hb,hbb⟩,let ⟨mc,h1,h2⟩:=hlim;⟨mc,nsK h1,h2⟩⟩
    have e0:Env0 P w K mg (hidT s₁.heap H) callerA [] s₁ H:=⟨rfl,hM,fun b o e=>of_hidT e,Nat.le_of_eq (hidT_size _ _),trivial,fun b hb=>absurd (show b∈([]:List Addr) from hb) (by simp),hok,.of_eq hg⟩
    refine codeAny_mono ((F _ hKb (nsK hns)).run callerA [] s₁ H ⟨[.ref a],[]⟩ [.ref a] [.ref a] _ _ hr e0 (hbind s₁ (.ref a)) (.cons rfl .nil) (hsp H hO hS)) fun r s' h=>?_
    cases r with
    | error e=>exact (hCX H e s' h).elim
    | ok fl=>
      cases fl with
      | next=>exact False.elim h
      | brk=>exact False.elim h
      | cont=>exact False.elim h
      | ret u=>
        obtain ⟨v,H',os,bare,un,hok',r',q⟩:=h
        have q':v=.bl true:=q
        subst q'
        obtain rfl:u=Value.bool true:=r'
        refine ⟨rfl,OldK.of_keep fun b o e=>?_,os,bare⟩
        cases q:H b with
        | none=>exact un.keep b o e q (by intro z;exact absurd (show b∈([]:List Addr) from z) (by simp)) (by simp)
        | some u=>
          rcases hO b with z | ⟨ob,xs,z⟩
          · rw [q] at z;cases z
          · have z2:=un.frzs b ob _ z
            obtain ⟨e1,_⟩:=hok b _ z
            obtain ⟨e2,_⟩:=hok' b _ z2
            rw [e] at e1;cases e1
            exact e2
  cases hk:K.lookup a with
  | some o=>
    have e:=KX a o hk
    rw [ha] at e
    cases e
    refine core (fun _=>none) (fun _=>.inl rfl) (.inr ⟨_,vs.toArray,_,hk,rfl,rfl,rfl,by rw [List.size_toArray,lenV];exact hl,by simpa using rv⟩) (fun b u z=>by have z':(none:Option HO)=some u:=z;cases z') (fun b z=>absurd rfl z) fun z=>absurd rfl z
  | none=>
    refine core (fun b=>if b=a then some (.frz { cls:=.type "list",data:=.seq vs.toArray } (.lst (ns.map V.int))) else none) (fun b=>?_) (.inl (.inr ⟨{ cls:=.type "list",data:=.seq vs.toArray },if_pos rfl⟩)) (fun b u z=>?_) (fun b z=>?_) fun _=>hk
    · by_cases hb:b=a
      · exact .inr ⟨_,_,if_pos hb⟩
      · exact .inl (if_neg hb)
    · by_cases hb:b=a
      · have z':=(if_pos hb).symm.trans z
        cases z'
        subst hb
        exact ⟨ha,by rw [List.length_map];exact hl,vs,_,rv,ha⟩
      · have z':=(if_neg hb).symm.trans z
        cases z'
    · by_cases hb:b=a
      · exact hb
      · exact absurd (if_neg hb) z
end L2
namespace L2
open PySem PySem.Spec PyProof.Rows
abbrev KOf {K:PySem.W.Frag}{h:Heap}(_:K.In h):PySem.W.Frag:=K
theorem walk_of {l:PySem.W.OpenLaw}{n k:Nat}{q:Program}{loose:List Str}{XP:(Str→Option Value)→Heap→Prop}{YP:World→Heap→Prop}{d:DefRec}{K:Params→PySem.W.Frag}{CX:World→CXT}{sp:World→Sp}{x:Str}
    (hn:l.most=some n) (hn2:n≤sizeLine) (hdf:d.params.defaults=[]) (hr:Room k callerA)
    (hY:∀ (w:World) (h:Heap),YP w h→(K w.params).In h)
    (F:∀ (w:World) (mg:Str→Option Value) (fa:Addr) (h:Heap),(K w.params).In h→h.Ns mainGlobals mg→mg d.name=some (.ref fa)→
      ∃ fd:FuncData,(∀ (s:Shared) (u:Value),BindsTo s fd ⟨[u],[]⟩ [(x,u)])∧
        ∀ base:Heap,(K w.params).In base→base.Ns mainGlobals mg→FnOk l.prog w (K w.params) mg base (CX w) k fa fd [x] (sp w))
    (hsp:∀ (w:World) (H:Hp) (a:Addr) (ns:List Int),ns.length≤n→Only H→SqL (K w.params) H a (ns.map V.int)→sp w [.ref a] H (fun v _=>v=.bl true) fun _ _ _=>False)
    (hCX:∀ (w:World) (H:Hp) (s:Shared) (e:Value) (s':Shared),CX w [] H s (fun _ _ _=>False) e s'→False):
    PySem.W.WalkO q loose XP YP l.row.toRowW d [] (fun f vs=>PySem.call f vs):=by
  refine Att.attach_call hn hdf fun w s₀ s₁ mg mb fa o pm cd doc a vs ns G Y ho hd hcd hmg hobj hints hlen hg=>?_
  have KX:=hY w _ Y
  obtain ⟨fd,hb,hF⟩:=F w mg fa _ KX G.T.g hmg
  exact law_call KX G.T.g G.T.b G.T.builtins G.T.nolimit hg hobj hints (Nat.le_trans hlen hn2) hr hF hb (fun H hO hS=>hsp w H a ns hlen hO hS) fun H e s'=>hCX w H s₁ e s'
end L2
/- THE LAST THEOREM (shape;LID,My.* are yours):
   My.Adr: a structure of the addresses that your layer names (classes,functions);My.Txt K t: a structure (Prop) of the equations over K;
   My.txt_mk:{K} {implicit addresses ..} (e1:nsIn K mainGlobals "law"=some (some (.ref f))) (e2:K.lookup f=some ⟨oc,od,.func (fnOf "law" "law" params body scope dV kV doc pm an cdv ct),sl⟩) (e3:codeIn K cdv "law"=true) ..:∃ t,My.Txt K t
set_option maxRecDepth 100000 in
set_option maxHeartbeats 0 in
theorem PySem.Challenge.cw_LID_holds : PySem.Challenge.rw_LID.Holds := by
  w_on;o_law;k_head;(case hw=>w_witness2)
  k_fill
  refine L2.walk_of (l:=PySem.Challenge.rw_LID) (n:=63) (k:=40) (x:="script") (CX:=fun w=>..) (sp:=fun _=>My.sp_law) rfl (by decide) rfl ⟨rfl,by decide,by decide⟩ (fun w h Y=>PySem.W.kIn_of Y) ?F ?S ?C
  case F=>
    intro w mg fa h KX G hmg
    have T:∃ t,My.Txt (L2.KOf KX) t:=by
      dsimp only [L2.KOf]                          -- K must stand as «<heap const> w.params» for k_is
      refine' My.txt_mk ?e1 ?e2 ?e3 ..
      (case e1=>PySem.W.k_is)                    -- in the order: a name -> its address -> its object -> its parts
      (case e2=>PySem.W.k_is)
      ..
    obtain ⟨t,T⟩:=T
    have e0:=hmg.symm.trans (PySem.W.mg_of KX G T.law)
    cases e0                                       -- fa is the law's own address
    exact ⟨_,fun s u=>.of_eq rfl,fun base kb nb=>My.law_fn T kb nb⟩     -- if «.of_eq rfl» comes too early: refine' ⟨_,?b,fun base kb nb=>My.law_fn T kb nb⟩;exact fun s u=>.of_eq rfl
  case S=>exact fun w H a ns hl hO hS=>..
  case C=>exact ..
(the tactic k_is has no namespace: write k_is) -/
namespace L2
open PySem PySem.Spec PyProof.Rows
def inClass (s:Stmt)(j:Nat):Stmt:=match s with
  | .ClassDef _ _ _ body _ _ _ _ _ _ _=>body.getD j (.Pass ⟨0,0,0,0⟩)
  | _=>.Pass ⟨0,0,0,0⟩
def defArgs (s:Stmt):Arguments:=match s with
  | .FunctionDef _ a _ _ _ _ _ _ _ _=>a
  | _=>{ posonlyargs:=[],args:=[],vararg:=none,kwonlyargs:=[],kw_defaults:=[],kwarg:=none,defaults:=[] }
def defBody (s:Stmt):List Stmt:=match s with
  | .FunctionDef _ _ b _ _ _ _ _ _ _=>b
  | _=>[]
def defScope (s:Stmt):Scope:=match s with
  | .FunctionDef _ _ _ _ _ _ sc _ _ _=>sc
  | _=>{ kind:=.function,names:=[],isGenerator:=false,isCoroutine:=false }
abbrev CX0:CXT:=fun _ _ _ _ _ _=>False
abbrev E0:XK:=fun _ _ _=>False
theorem pass0 {X:Cx}:Passes CX0 X E0:=fun _ _ _ _ _ _ _ h=>h.elim
structure Fun (K:PySem.W.Frag)(x qual:Str)(st:Stmt)(f:Addr)(fd:FuncData):Prop where
  ex:∃ (oc:Value) (od:Option Addr) (kV doc pm:Value) (an:Option Addr) (cdv ct:Value) (osl:Array (Option Value)),
    fd=PySem.W.fnOf x qual (defArgs st) (defBody st) (defScope st) .none kV doc pm an cdv ct∧K.lookup f=some ⟨oc,od,.func fd,osl⟩∧PySem.W.codeIn K cdv qual=true
  kp:PySem.W.keepIn K (.ref f)=true
section
variable {P:Program}{w:World}{K:PySem.W.Frag}{mg:Str→Option Value}{base:Heap}
theorem Fun.ok {x qual:Str}{st:Stmt}{f:Addr}{fd:FuncData}{N ps:List Str}{k:Nat}{sp:Sp}(F:Fun K x qual st f fd)(S:FnScope N ps (defScope st))(len:∀ vs H Q E,sp vs H Q E→vs.length=ps.length)
    (hbody:∀ (cdv:Value) (A:Around) (outer:List Env) (s:Shared) (H:Hp) (vs:List V) (Q:VK) (E:XK),Room k (A.deeper (envOfC qual (defScope st) s.heap.objs.size f cdv))→sp vs H Q E→
      ∃ t,PSs (cxOf CX0 P w K mg base N qual (defScope st) f cdv A outer s H E).nox (defBody st) t∧t { nx:=fun _ H'=>Q .non H',rt:=Q } (start N vs) H):FnOk P w K mg base CX0 (k+1) f fd ps sp:=by
  obtain ⟨oc,od,kV,doc,pm,an,cdv,ct,osl,rfl,lk,hcd⟩:=F.ex
  refine fn_of lk hcd S len fun A outer s H vs Q E hr hsp=>?_
  obtain ⟨t,h,q⟩:=hbody cdv A outer s H vs Q E hr hsp
  exact ⟨t,h.nox,q⟩
theorem Fun.binds {x qual:Str}{st:Stmt}{f:Addr}{fd:FuncData}{ps:List Str}(F:Fun K x qual st f fd)
    (h:∀ (kV doc pm:Value) (an:Option Addr) (cdv ct:Value) (us:List Value),us.length=ps.length→bindArgs (PySem.W.fnOf x qual (defArgs st) (defBody st) (defScope st) .none kV doc pm an cdv ct) ⟨us,[]⟩=pure (ps.zip us)):Binds K fd ps []:=by
  obtain ⟨oc,od,kV,doc,pm,an,cdv,ct,osl,rfl,lk,hcd⟩:=F.ex
  exact .all (h kV doc pm an cdv ct)
theorem fun_mk {x qual:Str}{st:Stmt}{f:Addr}{oc:Value}{od an:Option Addr}{osl:Array (Option Value)}{kV doc pm cdv ct:Value}(l:K.lookup f=some ⟨oc,od,.func (PySem.W.fnOf x qual (defArgs st) (defBody st) (defScope st) .none kV doc pm an cdv ct),osl⟩)
    (c:PySem.W.codeIn K cdv qual=true) (k:PySem.W.keepIn K (.ref f)=true):Fun K x qual st f (PySem.W.fnOf x qual (defArgs st) (defBody st) (defScope st) .none kV doc pm an cdv ct):=⟨⟨oc,od,kV,doc,pm,an,cdv,ct,osl,rfl,l,c⟩,k⟩
end
theorem hu_of {A:Around}{k:Nat}(hr:Room k A):A.units+1<cLine:=Nat.lt_of_le_of_lt (Nat.add_le_add_left (by decide:1≤64) _) hr.units
theorem small1000 {n:Nat}(h:n≤1000):n<sizeLine:=Nat.lt_of_le_of_lt h (by decide)
section
variable {X:Cx}
theorem pv (i:Nat){x:Str}{pos:Pos}(hN:X.N[i]?=some x:=by rfl)(hv:Vis X.env.scope x:=by first | exact Or.inl rfl | exact Or.inr (Or.inl rfl) | exact Or.inr (Or.inr rfl))(hd:(x==("__debug__":Str))=false:=by decide)
    (hcd:(x==("__classdict__":Str))=false:=by decide):PE X (.Name x pos) (tVar i):=pe_var hN hv hd hcd
end
theorem iteF {A B:Prop}(h:B):if false=true then A else B:=by
  rw [if_neg Bool.false_ne_true]
  exact h
theorem iteT {A B:Prop}(h:A):if true=true then A else B:=by
  rw [if_pos rfl]
  exact h
theorem ite2 {c A B:Prop}[Decidable c](h1:c→A)(h2:¬ c→B):if c then A else B:=by
  by_cases h:c
  · rw [if_pos h]
    exact h1 h
  · rw [if_neg h]
    exact h2 h
def Same (H H':Hp):Prop:=∀ b o,H b=some o→H' b=some o
theorem Same.refl (H:Hp):Same H H:=fun _ _ h=>h
theorem Same.trans {H H1 H2:Hp}(a:Same H H1)(b:Same H1 H2):Same H H2:=fun c o h=>b c o (a c o h)
theorem Same.free {H H':Hp}(e:Same H H'){l:Addr}(h:H' l=Option.none):H l=Option.none:=by
  cases q:H l with
  | none=>rfl
  | some o=>
    rw [e l o q] at h
    cases h
theorem Same.seq {K:PySem.W.Frag}{H H':Hp}{a:Addr}{xs:List V}(e:Same H H')(h:SqL K H a xs):SqL K H' a xs:=by
  rcases h with (h | ⟨o,h⟩) | h
  · exact .inl (.inl (e _ _ h))
  · exact .inl (.inr ⟨o,e _ _ h⟩)
  · exact .inr h
end L2
namespace L2
open PySem PySem.Spec PyProof.Rows
def Sz (n:Nat)(x:Int):Prop:=x.natAbs<2 ^ n
theorem Sz.mono {m n:Nat}{x:Int}(h:Sz m x)(hn:m≤n):Sz n x:=Nat.lt_of_lt_of_le h (Nat.pow_le_pow_right (by decide) hn)
theorem Sz.mul {m n:Nat}{x y:Int}(h:Sz m x)(g:Sz n y):Sz (m+n) (x*y):=by
  unfold Sz at *
  rw [Int.natAbs_mul,Nat.pow_add]
  exact Nat.mul_lt_mul_of_lt_of_lt h g
theorem Sz.sub {n:Nat}{x y:Int}(h:Sz n x)(g:Sz n y):Sz (n+1) (x-y):=by
  unfold Sz at *
  rw [Nat.pow_succ]
  omega
theorem Sz.neg {n:Nat}{x:Int}(h:Sz n x):Sz n (-x):=by
  unfold Sz at *
  omega
theorem Sz.of_le {n:Nat}{x y:Int}(h:Sz n y)(g:x.natAbs≤y.natAbs):Sz n x:=Nat.lt_of_le_of_lt g h
section
variable {X:Cx}
def CMulW (i j:Int):Prop:=Sz 4000 i∧Sz 4000 j
theorem CMulW.ok {i j:Int}(h:CMulW i j):IntMulOk i j:=IntMulOk.of_le (m:=4000) (n:=4000) (intBits_le_iff.mpr h.1) (intBits_le_iff.mpr h.2) (by decide)
theorem op_mulW:OpR X (binaryOp .Mult) (rI CMulW fun i j=>.int (i*j)):=opI fun _ _ _ _ _ _ _ hc q=>mul_int q hc.ok
def CDivW (_ j:Int):Prop:=j≠0∧Sz 4000 j
theorem CDivW.ok {i j:Int}(h:CDivW i j):Builtin.divisionGoesByPylong i j=false:=by
  refine PyProof.noPylong_of_log2 ?_
  have h0:j.natAbs≠0:=by have:=h.1;omega
  exact Nat.lt_trans ((Nat.log2_lt h0).mpr h.2) (by decide)
theorem op_fdivW:OpR X (binaryOp .FloorDiv) (rI CDivW fun i j=>.int (i.fdiv j)):=opI fun _ _ _ _ _ _ _ hc q=>floordiv_int hc.1 q (.inl hc.ok)
def eqVs:List V→List V→Bool
  | [],[]=>true
  | x::xs,y::ys=>eqV x y&&eqVs xs ys
  | _,_=>false
theorem all_range_succ (n:Nat)(e:Nat→Bool):(List.range (n+1)).all e=(e 0&&(List.range n).all fun i=>e (i+1)):=by
  rw [List.range_succ_eq_map,List.all_cons,List.all_map]
  rfl
def eqAtI (xs ys:List V)(j:Nat):Bool:=match xs[j]?,ys[j]? with
  | some x,some y=>eqV x y
  | _,_=>false
theorem eqVs_range:∀ (xs ys:List V),((List.range (min xs.length ys.length)).all (eqAtI xs ys)&&xs.length==ys.length)=eqVs xs ys
  | [],[]=>by simp [eqVs]
  | [],y::ys=>by simp [eqVs]
  | x::xs,[]=>by simp [eqVs]
  | x::xs,y::ys=>by
    have ih:=eqVs_range xs ys
    have e:min (x::xs).length (y::ys).length=min xs.length ys.length+1:=by simp only [List.length_cons];omega
    rw [e,all_range_succ]
    have e2:(fun i=>eqAtI (x::xs) (y::ys) (i+1))=eqAtI xs ys:=by
      funext i;simp [eqAtI]
    rw [e2]
    have e3:((x::xs).length==(y::ys).length)=(xs.length==ys.length):=by simp
    have e4:eqAtI (x::xs) (y::ys) 0=eqV x y:=by simp [eqAtI]
    rw [e3,e4,Bool.and_assoc,ih,eqVs]
def rEqT (K:PySem.W.Frag)(neg:Bool):R2:=fun x y H Q=>∃ a b xs ys,x=.ref a∧y=.ref b∧SqT K H a xs∧SqT K H b ys∧xs.all flatV=true∧ys.all flatV=true∧Q (.bl (if neg then !eqVs xs ys else eqVs xs ys)) H
theorem tup_eqAt {pins:List (Addr×Obj)}{σ:St}{H:Hp}{s:Shared}{A:Around}{xs ys:List V}{us vs:List Value}(r1:Vals xs us)(r2:Vals ys vs)(f1:xs.all flatV=true)(f2:ys.all flatV=true):
    ∀ j (h1:j<us.toArray.size) (h2:j<vs.toArray.size),SeqAt.EqAt A s us.toArray[j] vs.toArray[j] (eqAtI xs ys j):=by
  intro j h1 h2
  have l1:=r1.length
  have l2:=r2.length
  rw [List.size_toArray] at h1 h2
  have hx:xs[j]?=some (xs[j]'(by omega)):=List.getElem?_eq_getElem _
  have hy:ys[j]?=some (ys[j]'(by omega)):=List.getElem?_eq_getElem _
  obtain ⟨u,hu,ru⟩:=r1.get hx
  obtain ⟨v,hv,rv⟩:=r2.get hy
  have eu:us.toArray[j]'(by simpa using h1)=u:=by
    rw [List.getElem?_eq_getElem h1] at hu
    simpa using Option.some.inj hu
  have ev:vs.toArray[j]'(by simpa using h2)=v:=by
    rw [List.getElem?_eq_getElem h2] at hv
    simpa using Option.some.inj hv
  rw [eu,ev]
  have e:eqAtI xs ys j=eqV (xs[j]'(by omega)) (ys[j]'(by omega)):=by unfold eqAtI;rw [hx,hy]
  rw [e]
  exact eqAt_V ru rv (List.all_eq_true.mp f1 _ (List.getElem_mem _)) (List.all_eq_true.mp f2 _ (List.getElem_mem _))
def gLst (K:PySem.W.Frag)(n:Nat)(t:TGs):TG:=fun v σ H Q=>∃ a xs,v=.ref a∧SqL K H a xs∧xs.length=n∧t xs σ H Q
def rIs (K:PySem.W.Frag):List V→Hp→VK→Prop:=fun xs H Q=>∃ x c t u b,xs=[x,c]∧TyOf K H x t∧RelV c u∧(∀ p,c≠.ref p∨True)∧PySem.W.kitOne K t u=some b∧Q (.bl b) H
theorem call_isinst:CallR X (.builtin "isinstance") (rIs X.K):=by
  intro pins s σ H xs us Q I r h
  obtain ⟨x,c,t,u',b,rfl,ty,rc,_,hk,q⟩:=h
  obtain ⟨u,w',rfl,r1,r2⟩:=vals2 r
  have e:w'=u'∨∃ T,c=.ty T:=by
    cases c with
    | non=>left;cases rc;cases r2;rfl
    | bl _=>left;cases rc;cases r2;rfl
    | int i=>obtain ⟨z,rfl⟩:=rc;exact absurd hk (by simp [PySem.W.kitOne,PySem.W.kitCls];cases ty <;> simp)
    | str i=>obtain ⟨z,rfl⟩:=rc;exact absurd hk (by simp [PySem.W.kitOne,PySem.W.kitCls];cases ty <;> simp)
    | byt i=>obtain ⟨z,rfl⟩:=rc;exact absurd hk (by simp [PySem.W.kitOne,PySem.W.kitCls];cases ty <;> simp)
    | flt i=>obtain ⟨z,rfl⟩:=rc;exact absurd hk (by simp [PySem.W.kitOne,PySem.W.kitCls];cases ty <;> simp)
    | ref _=>left;cases rc;cases r2;rfl
    | ty _=>left;cases rc;cases r2;rfl
  rcases e with rfl | ⟨T,rfl⟩
  · exact isinst_ok I r1 ty hk fun tk=>⟨.bl b,H,I.tok tk,rfl,q⟩
  · cases rc;cases r2
    exact isinst_ok I r1 ty hk fun tk=>⟨.bl b,H,I.tok tk,rfl,q⟩
end
end L2
namespace L2
open PySem PySem.Spec PyProof.Rows
def cxComp (X:Cx)(scope:Scope)(cl:List (Str×Addr))(C:Addr)(N:List Str)(s₀:Shared)(H₀:Hp)(ex:List Addr)(pn:List (Addr×Obj)):Cx where
  prog:=X.prog
  w:=X.w
  K:=X.K
  mg:=X.mg
  base:=X.base
  A:=X.A
  N:=N
  s₀:=s₀
  H₀:=H₀
  env:=compEnvC scope cl C X.env
  outer:=X.stack
  stack:=X.stack
  ex:=ex
  fn:=fun y=>(cl.lookup y).any fun c=>decide (C<c)
  calm:=X.calm
  pn:=pn
  xe:=fun _ _=>False
structure CompScope (X:Cx)(scope:Scope)(cl:List (Str×Addr))(x:Str)(fv:List Str)(js:List Nat):Prop where
  kind:scope.kind=.function
  nc:∀ y∈scope.names,y.2≠.cell
  nm:∀ y∈scope.names,y.2=.local→scope.names.lookup y.1=some .local
  hx:scope.names.lookup x=some .local
  fr:∀ y∈scope.names,y.2=.free→y.1∈fv
  nd:(x::fv).Nodup
  vis:∀ y∈fv,scope.names.lookup y=some .free∧X.env.scope.names.lookup y=some .cell∧(cl.lookup y).isSome=true
  cls:∀ p∈cl,X.env.cells.lookup p.1=some p.2
  sl:Paired (fun y j=>X.N[j]?=some y) fv js
def frv (js:List Nat)(σ:St):St:=js.map fun j=>(σ[j]?).getD none
theorem lookup_relabel_free {env:Env}(hk:env.scope.kind=.function):∀ {names:List (Str×NameKind)} {y:Str},names.lookup y=some .free→env.kindOf y=some .cell→
    (names.map fun (n,k)=>if (k==NameKind.free&&env.scope.kind==.function&&env.kindOf n==some .cell) then (n,NameKind.cell) else (n,k)).lookup y=some .cell
  | [],_,h,_=>by simp at h
  | (n,k)::r,y,h,hy=>by
    have ih:=@lookup_relabel_free env hk r y
    show List.lookup y ((if (k==NameKind.free&&env.scope.kind==.function&&env.kindOf n==some .cell)=true then (n,NameKind.cell) else (n,k))::_)=_
    cases hx:y==n with
    | true=>
      have e:y=n:=eq_of_beq hx
      subst e
      simp only [List.lookup_cons,hx] at h
      cases h
      rw [if_pos (by rw [hk,hy];rfl)]
      simp [List.lookup_cons]
    | false=>
      simp only [List.lookup_cons,hx] at h
      split
      · simp only [List.lookup_cons,hx];exact ih h hy
      · simp only [List.lookup_cons,hx];exact ih h hy
theorem lookup_relabel_back {env:Env}:∀ {names:List (Str×NameKind)} {y:Str} {k':NameKind},
    (names.map fun (n,k)=>if (k==NameKind.free&&env.scope.kind==.function&&env.kindOf n==some .cell) then (n,NameKind.cell) else (n,k)).lookup y=some k'→
    names.lookup y=some k'∨(names.lookup y=some .free∧k'=.cell)
  | [],_,_,h=>by simp at h
  | (n,k)::r,y,k',h=>by
    have ih:=@lookup_relabel_back env r y k'
    have h:List.lookup y ((if (k==NameKind.free&&env.scope.kind==.function&&env.kindOf n==some .cell)=true then (n,NameKind.cell) else (n,k))::(r.map fun (n,k)=>if (k==NameKind.free&&env.scope.kind==.function&&env.kindOf n==some .cell) then (n,NameKind.cell) else (n,k)))=some k':=h
    cases hx:y==n with
    | true=>
      by_cases hc:(k==NameKind.free&&env.scope.kind==.function&&env.kindOf n==some .cell)=true
      · rw [if_pos hc] at h
        simp only [List.lookup_cons,hx] at h
        cases h
        right
        have hk:k=.free:=by
          rw [Bool.and_eq_true,Bool.and_eq_true] at hc
          exact eq_of_beq hc.1.1
        subst hk
        exact ⟨by simp [List.lookup_cons,hx],rfl⟩
      · rw [if_neg hc] at h
        simp only [List.lookup_cons,hx] at h
        left
        simp only [List.lookup_cons,hx]
        exact h
    | false=>
      have h':(r.map fun (n,k)=>if (k==NameKind.free&&env.scope.kind==.function&&env.kindOf n==some .cell) then (n,NameKind.cell) else (n,k)).lookup y=some k':=by
        by_cases hc:(k==NameKind.free&&env.scope.kind==.function&&env.kindOf n==some .cell)=true
        · rw [if_pos hc] at h
          simp only [List.lookup_cons,hx] at h
          exact h
        · rw [if_neg hc] at h
          simp only [List.lookup_cons,hx] at h
          exact h
      simp only [List.lookup_cons,hx]
      exact ih h'
section
variable {X:Cx}{scope:Scope}{cl:List (Str×Addr)}{x:Str}{fv:List Str}{js:List Nat}
theorem CompScope.cell_of (S:CompScope X scope cl x fv js){y:Str}{c:Addr}(h:cl.lookup y=some c):X.env.cells.lookup y=some c:=S.cls (y,c) (PySem.mem_of_lookup h)
theorem CompScope.own (S:CompScope X scope cl x fv js){C:Addr}{y:Str}{k:NameKind}(h:(compEnvC scope cl C X.env).kindOf y=some k)(hk:k=.cell∨k=.free):y∈fv:=by
  have h':(scope.names.map fun (n,k)=>if (k==NameKind.free&&X.env.scope.kind==.function&&X.env.kindOf n==some .cell) then (n,NameKind.cell) else (n,k)).lookup y=some k:=h
  rcases lookup_relabel_back h' with q | ⟨q,_⟩
  · rcases hk with rfl | rfl
    · exact absurd rfl (S.nc _ (PySem.mem_of_lookup q))
    · exact S.fr _ (PySem.mem_of_lookup q) rfl
  · exact S.fr _ (PySem.mem_of_lookup q) rfl
theorem paired_get {F:Str→Nat→Prop}:∀ {ys:List Str} {js:List Nat} {i:Nat} {y:Str},Paired F ys js→ys[i]?=some y→∃ j,js[i]?=some j∧F y j
  | _,_,_,_,.nil,e=>by simp at e
  | _,_,0,_,.cons r _,e=>by simp at e;subst e;exact ⟨_,rfl,r⟩
  | _,_,i+1,y,.cons _ t,e=>by
    obtain ⟨j,h1,h2⟩:=paired_get (i:=i) (y:=y) t (by simpa using e)
    exact ⟨j,by simpa using h1,h2⟩
theorem comp_start {pins:List (Addr×Obj)}{σ:St}{H:Hp}{s:Shared}{h₁:Heap}{ex:List Addr}{tk:Nat}(S:CompScope X scope cl x fv js)(I:Inv X pins σ H s)
    (hf:∀ b∈ex,FpOk X pins H b) (hlt:∀ b∈ex,b<s.heap.objs.size) (hns:h₁.Ns s.heap.objs.size (fun _=>none)) (hk:∀ b o,s.heap.get? b=some o→h₁.get? b=some o):
    Inv (cxComp X scope cl s.heap.objs.size (x::fv) s H ex (X.pn++pins)) [] (none::frv js σ) H { s with heap:=h₁,toks:=tk }:=by
  have nstk:∀ b∈ex,b∉frs X.stack:=fun b hb z=>by
    rcases List.mem_cons.mp (I.stkSub b z) with e | e
    · exact (hf b hb).2.1 e
    · exact (hf b hb).2.2.1 e
  have ok:(cxComp X scope cl s.heap.objs.size (x::fv) s H ex (X.pn++pins)).Ok:=by
    refine ⟨I.ok.mod,S.kind,I.ok.glob,I.ok.blt,Nat.le_refl _,fun y z c h1 h2=>I.ok.inj y z c (S.cell_of h1) (S.cell_of h2),fun y hy=>?_,(fun y c h hc=>by
      have h':((cl.lookup y).any fun c=>decide (s.heap.objs.size<c))=true:=h
      rw [show cl.lookup y=some c from hc] at h'
      exact Nat.le_of_lt (of_decide_eq_true h')),I.ok.hd,I.ok.frames,.inl rfl,
      fun b hb=>⟨Nat.ne_of_lt (hlt b hb),fun y c h=>(hf b hb).2.2.2.2.1 y c (S.cell_of h)⟩,I.bs,Nat.le_trans I.ok.bsz I.sz,fun b o e hb=>?_,nstk,I.stack,I.stkFree⟩
    · have hm:y∈fv:=by
        rcases hy with hy | hy
        · exact S.own hy (.inl rfl)
        · exact S.own hy (.inr rfl)
      exact Option.isSome_iff_exists.mp (S.vis y hm).2.2
    · obtain ⟨f0,f1,f2,f3,f4,f5⟩:=hf b hb
      rcases f3 with z | z
      · exact I.ok.noex b o e z
      · exact absurd (Nat.lt_of_lt_of_le (Heap.lt_size e) (Nat.le_trans I.ok.bsz z)) (Nat.lt_irrefl _)
  refine ⟨ok,rfl,I.bare,Un.kept hk,⟨_,hns,fun i y v e1 e2 e3=>?_⟩,fun y c h=>?_,I.hok.fresh (Nat.le_refl _),fun y c h=>I.freeC y c (S.cell_of h),fun p hp=>?_,I.hok.kept hk,?_⟩
  · cases i with
    | zero=>have z:(some (none:Option V))=some (some v):=e2;cases z
    | succ i=>
      have hy:fv[i]?=some y:=by simpa [cxComp] using e1
      obtain ⟨j,hj,hN⟩:=paired_get S.sl hy
      have hv:σ[j]?=some (some v):=by
        have z:(frv js σ)[i]?=some (some v):=by simpa using e2
        unfold frv at z
        rw [List.getElem?_map,hj] at z
        have z':(σ[j]?).getD none=some v:=Option.some.inj z
        cases q:σ[j]? with
        | none=>rw [q] at z';cases z'
        | some o=>rw [q] at z';exact congrArg some z'
      obtain ⟨hfree,hcell,hsome⟩:=S.vis y (List.mem_of_getElem? hy)
      obtain ⟨m,hn,hl⟩:=I.loc
      obtain ⟨u,ru,look⟩:=hl j y v hN hv (.inr (.inl hcell))
      refine ⟨u,ru,.inr ⟨.inl (lookup_relabel_free I.ok.kind hfree hcell),?_⟩⟩
      obtain ⟨c',hc'⟩:=Option.isSome_iff_exists.mp hsome
      rcases look with ⟨k,_⟩ | ⟨_,c,ec,z⟩
      · have k':X.env.scope.names.lookup y=some .local:=k
        rw [hcell] at k';cases k'
      · have e:=S.cell_of hc'
        rw [ec] at e
        cases e
        exact ⟨_,hc',by obtain ⟨o,ho,hd⟩:=z;exact ⟨o,hk _ _ ho,hd⟩⟩
  · obtain ⟨v,o,ho,hd⟩:=I.cell y c (S.cell_of h)
    exact ⟨v,o,hk _ _ ho,hd⟩
  · have hp':p∈X.pn++pins:=by simpa [cxComp] using hp
    obtain ⟨e,n,ne,nf,d⟩:=I.pin p hp'
    refine ⟨hk _ _ e,n,Nat.ne_of_lt (Heap.lt_size e),fun z=>?_,d⟩
    rcases List.mem_cons.mp (I.stkSub p.1 z) with q | q
    · exact ne q
    · exact nf q
  · show (none::frv js σ).length=(x::fv).length
    have:fv.length=js.length:=Paired.length S.sl
    simp [frv,this]
theorem comp_end {pins pins':List (Addr×Obj)}{σ σ':St}{H H':Hp}{s s':Shared}{h'':Heap}{ex:List Addr}{N:List Str}{pn:List (Addr×Obj)}(I:Inv X pins σ H s)(hf:∀ b∈ex,FpOk X pins H b)
    (J:Inv (cxComp X scope cl s.heap.objs.size N s H ex pn) pins' σ' H' s') (sb:Heap.SameBut s.heap.objs.size s'.heap h''):Inv X pins σ H' { s' with heap:=h'' }:=by
  have neC:∀ b o,s.heap.get? b=some o→b≠s.heap.objs.size:=fun b o e=>Nat.ne_of_lt (Heap.lt_size e)
  have u:Un (frs X.stack) ex H H' s.heap s'.heap:=J.base
  have fr:H' s.heap.objs.size=none:=J.free
  refine I.call' (s':={ s' with heap:=h'' }) (ch:=ex) J.os ⟨fun b o e n hb hx=>?_,fun b o e n hb hx=>?_,u.free,fun b o e hx=>?_,u.tups,u.frzs,u.tbls⟩ (fun b o e=>?_) J.bare (fun b hb=>?_)
  · exact (sb.2 b (neC b o e)).trans (u.keep b o e n hb hx)
  · obtain ⟨sl,q⟩:=u.slot b o e n hb hx
    exact ⟨sl,(sb.2 b (neC b o e)).trans q⟩
  · obtain ⟨o',q⟩:=u.there b o e hx
    exact ⟨o',(sb.2 b (neC b o e)).trans q⟩
  · refine (J.hok b o e).stay (fun c v hc q=>(sb.2 c ?_).trans q) (fun _ q=>q) fun _ _ q=>q
    rcases hc with rfl | hc
    · intro z;rw [z,fr] at e;cases e
    · intro z;rw [z,fr] at hc;cases hc
  · obtain ⟨f0,f1,f2,f3,f4,f5⟩:=hf b hb
    exact ⟨f3,f1,f4,f5⟩
end
def PF (X:Cx)(ifs:List Expr)(t:TT):Prop:=
  ∀ (pins:List (Addr×Obj)) (s:Shared) (σ:St) (H:Hp) (Q:Bool→Hp→Prop),Inv X pins σ H s→t σ H Q→
    wpAny (model X.prog X.w) X.A (forIn ifs true fun c r=>if r=true then do let ok ← isTrue c X.env (eval c X.env);pure (ForInStep.yield ok) else pure (ForInStep.yield r)) (TP X pins σ Q) X.xe s
def tYes:TT:=fun _ H Q=>Q true H
theorem pf_nil {X:Cx}:PF X [] tYes:=by
  intro pins s σ H Q I h
  rw [List.forIn_nil]
  exact wpAny_pure ⟨H,I,h⟩
theorem pf_one {X:Cx}{c:Expr}{t:TT}(h:PT X c t):PF X [c] t:=by
  intro pins s σ H Q I hq
  rw [List.forIn_cons]
  refine wpAny_bind ?_
  rw [if_pos rfl]
  refine wpAny_bind (thn (h pins s σ H Q I hq) fun b s1 q=>wpAny_pure ?_)
  dsimp only
  rw [List.forIn_nil]
  exact wpAny_pure q
section
variable {prog:Program}{w:World}{A:Around}{R:Result→Shared→Prop}{s:Shared}
theorem compLoop_go {elt target iter:Expr}{ifs:List Expr}{scope:Scope}{pos:Pos}{it acc:Value}{env:Env}(I:Nat→Shared→Prop)
    (turn:∀ n s,I n s→wpAny (model prog w) A (pyNext it) (fun r s₁=>match r with
      | none=>R (.ok .next) s₁
      | some v=>wpAny (model prog w) A (letOwnedTupleGo target it v) (fun _ s₁'=>wpAny (model prog w) A (assign target env v) (fun _ s₂=>
          wpAny (model prog w) A (forIn ifs true fun c r=>if r=true then do let ok ← isTrue c env (eval c env);pure (ForInStep.yield ok) else pure (ForInStep.yield r)) (fun ok s₃=>
            if ok=true then wpAny (model prog w) A (eval elt env) (fun x s₄=>
              wpAny (model prog w) A (call (.builtin "list.append") [acc,x]) (fun _ s₅=>∃ m,m<n∧I m s₅) (fun _ _=>False) s₄) (fun _ _=>False) s₃
            else ∃ m,m<n∧I m s₃) (fun _ _=>False) s₂) (fun _ _=>False) s₁') (fun _ _=>False) s₁) (fun _ _=>False) s)
    (n:Nat) (h:I n s):
    codeAny (model prog w) A (.compLoop (.ListComp elt [⟨target,iter,ifs,0⟩] scope pos) 0 it acc env) R s:=by
  refine codeAny_loop rfl I (fun n s hI=>?_) n h
  show wpAny _ A ((compTurn (.ListComp elt [⟨target,iter,ifs,0⟩] scope pos) 0 it acc env).onRaise (fun x=>do noteFrame x env;theTreesLotGoes x)) _ _ s
  refine wpAny_noted ?_
  rw [compTurn_list]
  refine wpAny_bind (wpAny_standAt (wpAny_bind (wpAny_mono (turn n s hI) (fun r s₁ h₁=>?_) fun _ _ h'=>h'.elim)))
  cases r with
  | none=>exact wpAny_pure h₁
  | some v=>
    refine wpAny_bind (wpAny_mono h₁ (fun _ s₁' h₁'=>?_) fun _ _ h'=>h'.elim)
    refine wpAny_bind (wpAny_mono h₁' (fun _ s₂ h₂=>wpAny_bind (wpAny_mono h₂ (fun ok s₃ h₃=>?_) fun _ _ h'=>h'.elim)) fun _ _ h'=>h'.elim)
    cases ok with
    | false=>exact wpAny_pure ⟨rfl,h₃⟩
    | true=>
      exact wpAny_bind (wpAny_bind (wpAny_mono h₃ (fun x s₄ h₄=>wpAny_bind (wpAny_mono h₄ (fun _ s₅ h₅=>wpAny_pure (wpAny_pure ⟨rfl,h₅⟩)) fun _ _ h'=>h'.elim)) fun _ _ h'=>h'.elim))
end
def tComp (wi:TI)(js:List Nat)(tt:TT)(te:TE):TE:=fun σ H Q=>wi σ H fun J H1=>∀ D,H1 D=none→∃ W:Nat→Nat→Hp→Prop,(∃ m,W 0 m (upd H1 D (.lst [])))∧∀ i m H,W i m H→
  (J.stop i H∧Q (.ref D) H)∨(J.go i H∧∀ x H',J.yld i H x H'→tt (some x::frv js σ) H' fun b H2=>
    if b=true then te (some x::frv js σ) H2 fun v H3=>∃ xs,H3 D=some (.lst xs)∧xs.length<sizeLine∧∃ m',m'<m∧W (i+1) m' (upd H3 D (.lst (xs++[v])))
    else ∃ m',m'<m∧W (i+1) m' H2)
theorem pe_comp {X:Cx}{elt iter:Expr}{ifs:List Expr}{x:Str}{px pos:Pos}{scope:Scope}{cl:List (Str×Addr)}{fv:List Str}{js:List Nat}{wi:TI}{tt:TT}{te:TE}(hc:X.calm=true)(hclos:closureFor scope X.env=pure cl)
    (S:CompScope X scope cl x fv js) (hi:PI X (.Name x px) iter wi)
    (ht:∀ (C:Addr) (s₀:Shared) (H₀:Hp) (ex:List Addr) (pn:List (Addr×Obj)),PF (cxComp X scope cl C (x::fv) s₀ H₀ ex pn) ifs tt)
    (he:∀ (C:Addr) (s₀:Shared) (H₀:Hp) (ex:List Addr) (pn:List (Addr×Obj)),PE (cxComp X scope cl C (x::fv) s₀ H₀ ex pn) elt te)
    (hs:∀ x,foldedSetIterable iter X.env x=pure x:=by intro _;rfl):PE X (.ListComp elt [⟨.Name x px,iter,ifs,0⟩] scope pos) (tComp wi js tt te):=by
  intro pins s σ H Q I h
  rw [eval_ListComp]
  refine wpAny_comprehension_free (use:=none) rfl hs hclos S.kind S.nm (thn (hi pins s σ H _ I h) fun v s1 h1=>thn h1 fun itv s2 h2=>?_)
  obtain ⟨it,fp,tn,J,H2,e,I2,T,st2,f2,hW⟩:=h2
  subst e
  have hD:H2 s2.heap.objs.size=none:=I2.hok.fresh (Nat.le_refl _)
  obtain ⟨W,⟨m0,w0⟩,turn⟩:=hW s2.heap.objs.size hD
  have lt2:∀ b∈fp,b<s2.heap.objs.size:=fun b hb=>by
    obtain ⟨o,e,_⟩:=T.obj _ _ st2 b hb
    exact Heap.lt_size e
  refine wpAny_newObj_type (wpAny_newFunctionEnv S.nc (by intro y hy;simp at hy) (fun h₁ hns₁ hsb₁=>?_) S.kind)
  dsimp only at hns₁ hsb₁ ⊢
  have I3:Inv X pins σ (upd H2 s2.heap.objs.size (.lst [])) { s2 with heap:=s2.heap.push { cls:=.type "list",dict:=none,data:=.seq ([]:List Value).toArray } }:=I2.lnew (t':=s2.toks) .nil (Nat.zero_le _)
  generalize hS3:({ s2 with heap:=s2.heap.push { cls:=.type "list",dict:=none,data:=.seq ([]:List Value).toArray } }:Shared)=s3 at I3
  have eh:s3.heap=s2.heap.push { cls:=.type "list",dict:=none,data:=.seq ([]:List Value).toArray }:=by rw [← hS3]
  rw [← eh] at hns₁ hsb₁ ⊢
  have hsz:s3.heap.objs.size=s2.heap.objs.size+1:=by rw [eh,Heap.size_push]
  have k23:∀ b o,s2.heap.get? b=some o→s3.heap.get? b=some o:=fun b o e=>by rw [eh];exact Heap.get?_push_of_some _ e
  have k34:∀ b o,s3.heap.get? b=some o→h₁.get? b=some o:=fun b o e=>hsb₁.extBut b o (Nat.ne_of_lt (Heap.lt_size e)) (Heap.get?_push_of_some _ e)
  have f3:∀ b∈fp,FpOk X pins (upd H2 s2.heap.objs.size (.lst [])) b:=fun b hb=>⟨by rw [upd_ne (Nat.ne_of_lt (lt2 b hb))];exact (f2 b hb).1,(f2 b hb).2⟩
  have lt3:∀ b∈fp,b<s3.heap.objs.size:=fun b hb=>by rw [hsz];exact Nat.lt_succ_of_lt (lt2 b hb)
  have I4:=comp_start (tk:=s3.toks) S I3 f3 lt3 (h₁:=h₁) (by simpa using hns₁) k34
  generalize hY:cxComp X scope cl s3.heap.objs.size (x::fv) s3 (upd H2 s2.heap.objs.size (.lst [])) fp (X.pn++pins)=Y at I4
  have hYp:Y.prog=X.prog:=by rw [← hY];rfl
  have hYw:Y.w=X.w:=by rw [← hY];rfl
  have hYK:Y.K=X.K:=by rw [← hY];rfl
  have hYA:Y.A=X.A:=by rw [← hY];rfl
  have hYc:Y.calm=true:=by rw [← hY];exact hc
  have hYe:Y.env=compEnvC scope cl s3.heap.objs.size X.env:=by rw [← hY];rfl
  have hYx:Y.xe=fun _ _=>False:=by rw [← hY];rfl
  have hYN:Y.N=x::fv:=by rw [← hY];rfl
  have heY:PE Y elt te:=by rw [← hY];exact he _ _ _ _ _
  have htY:PF Y ifs tt:=by rw [← hY];exact ht _ _ _ _ _
  have stat:∀ {H':Hp},(∀ b∈fp,H' b=none)→∀ b∈fp,FpOk Y [] H' b:=fun {H'} hn b hb=>by
    obtain ⟨g0,g1,g2,g3,g4,g5⟩:=f3 b hb
    rw [← hY]
    refine ⟨hn b hb,Nat.ne_of_lt (lt3 b hb),fun z=>?_,.inl hb,fun y c e=>g4 y c (S.cell_of e),fun p hp=>g5 p (by simpa [cxComp] using hp)⟩
    rcases List.mem_cons.mp (I3.stkSub b z) with q | q
    · exact g1 q
    · exact g2 q
  have fin:∀ {i:Nat} {m:Nat} {σ':St} {H':Hp} {s':Shared},Inv Y [] σ' H' s'→Q (.ref s2.heap.objs.size) H'→compPost (model X.prog X.w) X.A X.xe none (EP X pins σ Q) (.ref s2.heap.objs.size) s3.heap.objs.size (.ok .next) s':=fun {i m σ' H' s'} J q=>by
    obtain ⟨mm,hn,_⟩:=J.loc
    rw [← hY] at J hn
    refine ⟨mm,hn,fun h'' sb=>?_⟩
    exact ⟨.ref _,H',comp_end I3 f3 J sb,rfl,q⟩
  have st4:∀ s4:Shared,s4={ s3 with heap:=h₁,toks:=s3.toks }→tn 0 s4.heap:=fun s4 e=>by
    subst e
    exact T.keep _ _ _ st2 fun b hb o e=>k34 b o (k23 b o e)
  have loop:codeAny (model X.prog X.w) X.A (.compLoop (.ListComp elt [⟨.Name x px,iter,ifs,0⟩] scope pos) 0 (.ref it) (.ref s2.heap.objs.size) (compEnvC scope cl s3.heap.objs.size X.env))
      (compPost (model X.prog X.w) X.A X.xe none (EP X pins σ Q) (.ref s2.heap.objs.size) s3.heap.objs.size) { s3 with heap:=h₁,toks:=s3.toks }:=by
    refine compLoop_go (fun n s'=>∃ (i:Nat) (o:Option V) (H':Hp),Inv Y [] (o::frv js σ) H' s'∧tn i s'.heap∧(∀ b∈fp,H' b=none)∧W i n H') ?_ m0 ⟨0,none,_,I4,st4 _ rfl,fun b hb=>(f3 b hb).1,w0⟩
    rintro n s5 ⟨i,o,H5,I5,st5,fr5,w5⟩
    rcases turn i n H5 w5 with ⟨stop,q⟩ | ⟨go,step⟩
    · have r:=T.done Y hYp hYw hYK hYc i [] s5 _ H5 (fun _ _=>False) I5 (stat fr5) st5 stop
      rw [hYA] at r
      refine thn r fun r s6 ⟨hr,I6⟩=>?_
      subst hr
      exact fin (i:=i) (m:=n) I6 q
    · have r:=T.item Y hYp hYw hYK hYc i [] s5 _ H5 (fun _ _=>False) I5 (stat fr5) st5 go
      rw [hYA] at r
      refine thn r fun r s6 ⟨u,hr,h6⟩=>?_
      subst hr
      refine thn h6 fun _ s7 ⟨y,H7,I7,r7,y7,st7,fr7⟩=>?_
      have I7':=I7.pinned (stat fr7) (T.obj _ _ st7)
      have hname:PG Y (.Name x px) (gName 0):=pg_name (X:=Y) (i:=0) (by rw [hYN];exact S.nd) (by rw [hYN];rfl) (.inl (by rw [hYe];exact lookup_relabel_local S.hx)) (.inr (by rw [hYe];exact lookup_relabel_local S.hx))
      have r8:=hname _ s7 _ H7 y u (fun σ' H'=>σ'=some y::frv js σ∧H'=H7) I7' r7 ⟨rfl,rfl⟩
      rw [hYp,hYw,hYA,hYe,hYx] at r8
      refine thn r8 fun _ s8 ⟨σ8,H8,I8,e1,e2⟩=>?_
      subst e1 e2
      have r9:=htY _ s8 _ _ _ I8 (step y _ y7)
      rw [hYp,hYw,hYA,hYe,hYx] at r9
      refine thn r9 fun b s9 ⟨H9,I9,q9⟩=>?_
      have again:∀ {σ':St} {H':Hp} {s':Shared},Inv Y ([]++pinsAt fp s7.heap) (some y::frv js σ) H' s'→(∃ m',m'<n∧W (i+1) m' H')→
          ∃ m,m<n∧∃ (i:Nat) (o:Option V) (H':Hp),Inv Y [] (o::frv js σ) H' s'∧tn i s'.heap∧(∀ b∈fp,H' b=none)∧W i m H':=fun {σ' H' s'} K7 ⟨m',hm,w7⟩=>by
        refine ⟨m',hm,i+1,some y,H',K7.unpinned,T.keep _ _ _ st7 fun b hb o e=>(K7.pin (b,o) (List.mem_append_right _ (List.mem_append_right _ (mem_pinsAt hb e)))).1,fun b hb=>?_,w7⟩
        obtain ⟨o,e,d⟩:=T.obj _ _ st7 b hb
        exact (K7.pin (b,o) (List.mem_append_right _ (List.mem_append_right _ (mem_pinsAt hb e)))).2.1
      cases b with
      | false=>
        rw [if_neg Bool.false_ne_true] at q9 ⊢
        exact again (σ':=[]) I9 q9
      | true=>
        rw [if_pos rfl] at q9 ⊢
        have r10:=heY _ s9 _ _ _ I9 q9
        rw [hYp,hYw,hYA,hYe,hYx] at r10
        refine thn r10 fun v s10 ⟨y10,H10,I10,ry,xs,hxs,hlen,m',hm,w10⟩=>?_
        have r11:=mt_append (X:=Y) _ s10 _ H10 (.ref s2.heap.objs.size) [y10] (.ref s2.heap.objs.size) [v] (fun _ H'=>H'=upd H10 s2.heap.objs.size (.lst (xs++[y10]))) I10 rfl (.cons ry .nil) ⟨_,xs,y10,rfl,rfl,hxs,hlen,rfl⟩
        rw [hYp,hYw,hYA,hYx] at r11
        refine thn r11 fun _ s11 ⟨_,H11,I11,_,e11⟩=>?_
        subst e11
        exact again (σ':=[]) I11 ⟨m',hm,w10⟩
  have loop':∀ s4:Shared,s4={ s3 with heap:=h₁,toks:=s3.toks }→codeAny (model X.prog X.w) X.A (.compLoop (.ListComp elt [⟨.Name x px,iter,ifs,0⟩] scope pos) 0 (.ref it) (.ref s2.heap.objs.size) (compEnvC scope cl s3.heap.objs.size X.env))
      (compPost (model X.prog X.w) X.A X.xe none (EP X pins σ Q) (.ref s2.heap.objs.size) s3.heap.objs.size) s4:=fun s4 e=>by subst e;exact loop
  have e4:∀ t,t=s3.toks→({ s3 with heap:=h₁,toks:=t }:Shared)={ s3 with heap:=h₁,toks:=s3.toks }:=fun t e=>by rw [e]
  have fin4:∀ s4:Shared,s4={ s3 with heap:=h₁,toks:=s3.toks }→codeAny (model X.prog X.w) X.A (.compStart (.ListComp elt [⟨.Name x px,iter,ifs,0⟩] scope pos) 0 (.ref it) (.ref s2.heap.objs.size) (compEnvC scope cl s3.heap.objs.size X.env))
      (compPost (model X.prog X.w) X.A X.xe none (EP X pins σ Q) (.ref s2.heap.objs.size) s3.heap.objs.size) s4:=fun s4 e=>
    codeAny_compStart_list (loop' s4 e) (T.self X.A 0 s4 _ _ (st4 s4 e) (loop' s4 e))
  have es:({ s2 with heap:=s2.heap.push { cls:=.type "list",dict:=none,data:=.seq ([]:List Value).toArray } }:Shared)=s3:=hS3
  refine fin4 _ ?_
  rw [← es]
  rfl
end L2
namespace L2
open PySem PySem.Spec PyProof.Rows
section
variable {P:Program}{w:World}{H:Hp}{h:Heap}{a:Addr}{o:HO}
theorem ObjOk.there (x:ObjOk P w H h a o):∃ ob,h.get? a=some ob:=by
  cases o with
  | lst xs=>obtain ⟨_,_,_,_,e⟩:=x;exact ⟨_,e⟩
  | tup xs=>obtain ⟨_,_,_,ob,e,_⟩:=x;exact ⟨_,e⟩
  | dK kvs=>obtain ⟨_,_,_,_,o,_,_,e,_⟩:=x;exact ⟨_,e⟩
  | dT kvs=>obtain ⟨_,_,_,_,o,_,_,e,_⟩:=x;exact ⟨_,e⟩
  | set S n=>obtain ⟨o,_,_,_,e,_⟩:=x;exact ⟨_,e⟩
  | ins C dx fs=>obtain ⟨_,_,_,e,_⟩:=x;exact ⟨_,e⟩
  | own y=>exact x
  | xd fs=>obtain ⟨_,⟨_,_,_,e,_⟩,_⟩:=x;exact ⟨_,e⟩
  | rng lo hi=>obtain ⟨_,_,_,e⟩:=x;exact ⟨_,e⟩
  | frz ob u=>obtain ⟨e,_⟩:=x;exact ⟨_,e⟩
  | tbl ps=>exact ⟨_,(show h.get? a=some _ from x)⟩
  | met f y=>exact ⟨_,(show h.get? a=some _ from x)⟩
  | ext φ=>obtain ⟨_,e,_⟩:=x;exact e
end
structure FliesB (P:Program)(w:World)(l:List Env)(H H':Hp)(h h' B:Heap):Prop where
  inB:∀ b o,h.get? b=some o→b∉frs l→∃ o1,B.get? b=some o1∧(H b=none→o1=o)
  trk:∀ b u,H' b=some u→∃ o,B.get? b=some o
  st:B.StaysIn h'
  fr:∀ b∈frs l,H b=none∧∃ o,h.get? b=some o∧∀ vs,o.data≠.fields vs
  slot:∀ b o,h.get? b=some o→b∈frs l→∃ sl,h'.get? b=some { o with slots:=sl }
  free:∀ b o,h.get? b=some o→H b=none→H' b=none
  tups:∀ b xs,H b=some (.tup xs)→H' b=some (.tup xs)
  frzs:∀ b o u,H b=some (.frz o u)→H' b=some (.frz o u)
  tbls:∀ b ps,H b=some (.tbl ps)→∃ more,H' b=some (.tbl (ps++more))
  hok:HOk P w H' h'
section
variable {P:Program}{w:World}{l:List Env}{H H':Hp}{h h' h'' B:Heap}
theorem FliesB.step (F:FliesB P w l H H' h h' B)(st:B.StaysIn h'')(up:h'.UpToSlots h''):FliesB P w l H H' h h'' B:=by
  refine ⟨F.inB,F.trk,st,F.fr,fun b o e hb=>?_,F.free,F.tups,F.frzs,F.tbls,fun b u e=>?_⟩
  · obtain ⟨sl,e1⟩:=F.slot b o e hb
    obtain ⟨_,o',e',nd⟩:=F.fr b hb
    rw [e] at e'
    cases e'
    obtain ⟨sl2,e2⟩:=up b _ e1 nd
    exact ⟨sl2,e2⟩
  · refine (F.hok b u e).stay (fun c v hc q=>?_) (fun _ q=>q) fun _ _ q=>q
    obtain ⟨u',hu'⟩:∃ u',H' c=some u':=by
      rcases hc with z | z
      · rw [z];exact ⟨u,e⟩
      · exact ⟨_,z⟩
    obtain ⟨o2,e2⟩:=F.trk c u' hu'
    have e3:=F.st c o2 e2
    rw [q] at e3
    cases e3
    exact st c _ e2
theorem FliesB.un (F:FliesB P w l H H' h h' B):Un (frs l) [] H H' h h' where
  keep:=fun b o e n hb _=>by
    obtain ⟨o1,e1,z⟩:=F.inB b o e hb
    rw [z n] at e1
    exact F.st b o e1
  slot:=fun b o e _ hb _=>F.slot b o e hb
  free:=fun b o e n _=>F.free b o e n
  there:=fun b o e _=>by
    by_cases hb:b∈frs l
    · obtain ⟨sl,e1⟩:=F.slot b o e hb
      exact ⟨_,e1⟩
    · obtain ⟨o1,e1,_⟩:=F.inB b o e hb
      exact ⟨o1,F.st b o1 e1⟩
  tups:=F.tups
  frzs:=F.frzs
  tbls:=F.tbls
end
def CXe (P:Program)(w:World):CXT:=fun outer H s E e s'=>∃ (a:Addr) (cls:Value) (H':Hp) (B:Heap) (a0:Value),e=.ref a∧s'.os=s.os∧AllBare s'.gens∧s.heap.get? a=none∧H' a=none∧
  FliesB P w outer H H' s.heap s'.heap B∧Heap.FlyingW B outer a cls a0 s'.heap∧E cls none H'
theorem CXe.none {P:Program}{w:World}{outer:List Env}{H:Hp}{s:Shared}{e:Value}{s':Shared}(h:CXe P w outer H s (fun _ _ _=>False) e s'):False:=by
  obtain ⟨_,_,_,_,_,_,_,_,_,_,_,_,q⟩:=h
  exact q
section
variable {P:Program}{w:World}{K:PySem.W.Frag}{mg:Str→Option Value}{base:Heap}
theorem Fun.okE {x qual:Str}{st:Stmt}{f:Addr}{fd:FuncData}{N ps:List Str}{k:Nat}{sp:Sp}(F:Fun K x qual st f fd)(S:FnScope N ps (defScope st))(len:∀ vs H Q E,sp vs H Q E→vs.length=ps.length)
    (hbody:∀ (cdv:Value) (A:Around) (outer:List Env) (s:Shared) (H:Hp) (vs:List V) (Q:VK) (E:XK),Room k (A.deeper (envOfC qual (defScope st) s.heap.objs.size f cdv))→sp vs H Q E→
      ∃ t,PSs (cxOf (CXe P w) P w K mg base N qual (defScope st) f cdv A outer s H E) (defBody st) t∧t { nx:=fun _ H'=>Q .non H',rt:=Q } (start N vs) H):FnOk P w K mg base (CXe P w) (k+1) f fd ps sp:=by
  obtain ⟨oc,od,kV,doc,pm,an,cdv,ct,osl,rfl,lk,hcd⟩:=F.ex
  exact fn_of lk hcd S len fun A outer s H vs Q E hr hsp=>hbody cdv A outer s H vs Q E hr hsp
end
section
variable {P:Program}{w:World}{K:PySem.W.Frag}{mg:Str→Option Value}{base:Heap}{N:List Str}{qual:Str}{scope:Scope}{f:Addr}{cd:Value}{A:Around}{outer:List Env}{s:Shared}{H:Hp}{E:XK}
structure ExcC (K:PySem.W.Frag)(x:Str)(C:Addr):Prop where
  ns:PySem.W.nsIn K mainGlobals x=some (some (.ref C))
  ex:PySem.W.excIn K C [.type "ValueError",.type "Exception",.type "BaseException",.type "object"] "ValueError.__new__"=true
def tRaise (C:Addr)(E:XK)(te:TE):TS:=fun _ σ H=>te σ H fun _ H1=>E (.ref C) none H1
end
end L2
namespace L2
open PySem PySem.Spec PyProof.Rows
def cxMark (X:Cx)(a:Addr):Cx:={ X with A:=X.A.mark (some (.ref a)),calm:=false,xe:=fun _ _=>False }
def ExcAt (a:Addr)(cls:Value)(h:Heap):Prop:=∃ o vs,h.get? a=some o∧o.cls=cls∧o.data=.fields vs
def excO (a:Addr)(cls:Value):HO:=.ext (ExcAt a cls)
section
variable {X:Cx}{pins:List (Addr×Obj)}{σ:St}{H:Hp}{s:Shared}{a:Addr}
theorem Cx.Ok.mark (ok:X.Ok)(a:Addr):(cxMark X a).Ok:=
  ⟨ok.mod,ok.kind,ok.glob,ok.blt,ok.above,ok.inj,ok.has,ok.cab,fun z=>absurd (show false=true from z) Bool.false_ne_true,ok.frames,ok.stk,ok.exf,ok.bs,ok.bsz,ok.noex,ok.exfs,ok.funs,ok.frf⟩
theorem Inv.mark (I:Inv X pins σ H s)(a:Addr):Inv (cxMark X a) pins σ H s:=⟨I.ok.mark a,I.os,I.bare,I.base,I.loc,I.cell,I.free,I.freeC,I.pin,I.hok,I.len⟩
end
def tTry1 (K:PySem.W.Frag)(sp:Sp)(t:TA)(Dc:Addr)(i:Nat)(ts:TS):TS:=fun D σ H=>t σ H fun vs H1=>sp (vs++[]) H1 (fun _ H2=>D.nx σ H2) fun cls _ H2=>
  PySem.W.exmOne K cls (.ref Dc)=some true∧∀ a,H2 a=none→ts { nx:=fun σ' H'=>D.nx (σ'.set i none) H',rt:=fun _ _=>False } (σ.set i (some (.ref a))) (upd H2 a (excO a cls))
section
open Builtin Builtin.ObjectAttr Builtin.Getset_descriptor
variable {prog:Program}{w:World}{A:Around}{E:Value→Shared→Prop}{s:Shared}{K:PySem.W.Frag}{a C:Addr}{o:Obj}
structure ExcK (K:PySem.W.Frag)(C:Addr):Prop where
  cl:(PySem.W.clsIn K C).isSome=true
  ga:PySem.W.findIn K (.ref C) "__getattribute__"=some (some (.builtin "BaseException.__getattribute__"))
  gh:PySem.W.findIn K (.ref C) "__getattr__"=some none
  at_:PySem.W.findIn K (.ref C) "__class__"=some (some (.builtin "object.__class__"))
  ob:PySem.W.mroIn K C (.type "object")=some true
  be:PySem.W.mroIn K C (.type "BaseException")=some true
end
end L2
namespace L2
open PySem PySem.Spec PyProof.Rows
section
open Builtin Builtin.ObjectAttr Builtin.Getset_descriptor PySem.W
variable {prog:Program}{w:World}{A:Around}{E:Value→Shared→Prop}{s:Shared}{K:PySem.W.Frag}{a C:Addr}{o:Obj}
end
section
variable {X:Cx}
def rIsE (K:PySem.W.Frag):List V→Hp→VK→Prop:=fun xs H Q=>∃ (a C:Addr) (c:V) (b:Bool),xs=[.ref a,c]∧H a=some (excO a (.ref C))∧ExcK K C∧Q (.bl b) H∧
  ((∃ u,RelV c u∧(∀ i,c≠.int i)∧(∀ i,c≠.str i)∧(∀ i,c≠.byt i)∧(∀ i,c≠.flt i)∧PySem.W.kitOne K (.ref C) u=some b)∨∃ p cs us,c=.ref p∧H p=some (.tup cs)∧Vals cs us∧(∀ vs,Vals cs vs→vs=us)∧PySem.W.kitAny K (.ref C) us=some b)
end
end L2
namespace L2
open PySem PySem.Spec PyProof.Rows
section
variable {X:Cx}{es:List Expr}{te:TE}{t:TA}{pos:Pos}
theorem pa_consT {a0:List Expr}{a1:Nat}(ha:PE X (Expr.Tuple a0 a1 pos) te)(hr:PA X es t):PA X ((Expr.Tuple a0 a1 pos)::es) (tCons te t):=pa_cons ha hr rfl
theorem pa_consL {a0:List Expr}(ha:PE X (Expr.List a0 pos) te)(hr:PA X es t):PA X ((Expr.List a0 pos)::es) (tCons te t):=pa_cons ha hr rfl
theorem pa_consB {a0:Expr}{a1:Operator}{a2:Expr}(ha:PE X (Expr.BinOp a0 a1 a2 pos) te)(hr:PA X es t):PA X ((Expr.BinOp a0 a1 a2 pos)::es) (tCons te t):=pa_cons ha hr rfl
theorem pa_consC {a0:Expr}{a1:List Expr}{a2:List Keyword}(ha:PE X (Expr.Call a0 a1 a2 pos) te)(hr:PA X es t):PA X ((Expr.Call a0 a1 a2 pos)::es) (tCons te t):=pa_cons ha hr rfl
theorem pa_consN {a0:Str}(ha:PE X (Expr.Name a0 pos) te)(hr:PA X es t):PA X ((Expr.Name a0 pos)::es) (tCons te t):=pa_cons ha hr rfl
theorem pa_consK {a0:Const}{a1:Nat}(ha:PE X (Expr.Constant a0 a1 pos) te)(hr:PA X es t):PA X ((Expr.Constant a0 a1 pos)::es) (tCons te t):=pa_cons ha hr rfl
theorem pa_consS {a0:Expr}{a1:Expr}(ha:PE X (Expr.Subscript a0 a1 pos) te)(hr:PA X es t):PA X ((Expr.Subscript a0 a1 pos)::es) (tCons te t):=pa_cons ha hr rfl
theorem pa_consU {a0:UnaryOp}{a1:Expr}(ha:PE X (Expr.UnaryOp a0 a1 pos) te)(hr:PA X es t):PA X ((Expr.UnaryOp a0 a1 pos)::es) (tCons te t):=pa_cons ha hr rfl
theorem pa_consM {a0:Expr}{a1:List CmpOp}{a2:List Expr}(ha:PE X (Expr.Compare a0 a1 a2 pos) te)(hr:PA X es t):PA X ((Expr.Compare a0 a1 a2 pos)::es) (tCons te t):=pa_cons ha hr rfl
theorem pa_consH {a0:Expr}{a1:List Comprehension}{a2:Scope}(ha:PE X (Expr.ListComp a0 a1 a2 pos) te)(hr:PA X es t):PA X ((Expr.ListComp a0 a1 a2 pos)::es) (tCons te t):=pa_cons ha hr rfl
end
end L2
namespace L2
open PySem PySem.Spec PyProof.Rows
section
variable {X:Cx}
abbrev rPow:R2:=rI CPow fun i j=>.int (i ^ j.toNat)
abbrev rSubI:R2:=rI0 fun i j=>.int (i-j)
end
end L2
namespace L2
open PySem PySem.Spec PyProof.Rows
def Its (z:Str):It:=⟨fun i _=>i<z.cps.size,fun i H x H'=>H'=H∧∃ c,z.cps[i]?=some c∧x=.str ⟨#[c]⟩,fun i _=>i=z.cps.size⟩
section
variable {X:Cx}{tg:Expr}
def iStr (tl:TE):TI:=fun σ H R=>tl σ H fun x H1=>∃ z,x=.str z∧R (Its z) H1
end
theorem range_all_getD:∀ (bs:List Bool),(List.range bs.length).all (fun i=>bs.getD i true)=bs.all id
  | []=>rfl
  | b::bs=>by
    have ih:=range_all_getD bs
    rw [List.length_cons,List.range_succ_eq_map,List.all_cons,List.all_map,List.all_cons]
    simp only [List.getD_cons_zero,id]
    rw [← ih]
    rfl
theorem Vals.bools:∀ {bs:List Bool} {us:List Value} {i:Nat} {v:Value},Vals (bs.map V.bl) us→us[i]?=some v→v=.bool (bs.getD i true)
  | [],_,_,_,.nil,e=>by simp at e
  | b::bs,_,0,_,.cons r _,e=>by
    have e':=Option.some.inj e
    subst e'
    exact r
  | b::bs,_,i+1,v,.cons _ t,e=>by
    have:=Vals.bools (i:=i) (v:=v) t (by simpa using e)
    simpa using this
section
variable {X:Cx}
theorem call_all (hc:X.calm=true):CallR X (.builtin "all") (fun xs H Q=>∃ (p:Addr) (bs:List Bool),xs=[.ref p]∧SqL X.K H p (bs.map V.bl)∧Q (.bl (bs.all id)) H):=by
  intro pins s σ H xs us Q I r h
  obtain ⟨p,bs,rfl,hq,q⟩:=h
  obtain ⟨u,rfl,rx⟩:=vals1 r
  cases rx
  obtain ⟨its,rv,pl,hz⟩:=I.list hq
  have hl:=rv.length
  rw [List.length_map] at hl
  have hlt:p<s.heap.objs.size:=by obtain ⟨o,e,_⟩:=pl.isList;exact Heap.lt_size e
  have hne:p≠s.heap.objs.size:=Nat.ne_of_lt hlt
  refine call_all_walk (wpAny_pyIter_list pl.isList ⟨s.heap.objs.size,[s.heap.objs.size,p],[s.heap.objs.size],its.toArray.size,_,_,fun i=>bs.getD i true,rfl,
    Walks.list (A:=X.A.in1) (show X.A.in1.handled=none from I.ok.hd hc) s.heap.objs.size p hne its.toArray,⟨⟨_,Heap.get?_push_size _ rfl,rfl,rfl⟩,pl.isList.at fun o e=>Heap.get?_push_of_some _ e⟩,?_,fun h' tk kk=>?_⟩)
  · intro i v s' Q' E' hP hQ
    have e:=Vals.bools rv (show its[i]?=some v by simpa using hP)
    subst e
    exact wpAny_truthy_bool hQ
  · have hsz:its.toArray.size=bs.length:=by rw [List.size_toArray,← hl]
    rw [hsz,range_all_getD]
    exact ⟨.bl _,H,I.kept fun b o e=>kk b o (by simp;exact Nat.ne_of_lt (Heap.lt_size e)) (Heap.get?_push_of_some _ e),rfl,q⟩
theorem boot_all:bootBuiltins "all"=some (.builtin "all"):=by decide +kernel
def PJ (X:Cx)(es:List Expr)(t:Str→TE):Prop:=
  ∀ (acc:Str) (pins:List (Addr×Obj)) (s:Shared) (σ:St) (H:Hp) (Q:VK),Inv X pins σ H s→t acc σ H Q→wpAny (model X.prog X.w) X.A (joinParts acc (evalEach es X.env)) (EP X pins σ Q) X.xe s
def jNil:Str→TE:=fun acc _ H Q=>acc.length≤sizeLine∧Q (.str acc) H
def jStr (y:Str)(t:Str→TE):Str→TE:=fun acc σ H Q=>(acc++y).length≤sizeLine∧t (acc++y) σ H Q
def FmtOf:V→Str→Prop
  | .str z,y=>y=z∧z.length≤sizeLine
  | .int i,y=>y=toString i∧i.natAbs.log2<1920
  | _,_=>False
def jFmt (te:TE)(t:Str→TE):Str→TE:=fun acc σ H Q=>te σ H fun x H1=>∃ y,FmtOf x y∧(acc++y).length≤sizeLine∧t (acc++y) σ H1 Q
def tFmt1 (te:TE):TE:=fun σ H Q=>te σ H fun x H1=>∃ y,FmtOf x y∧Q (.str y) H1
theorem Vals.strs:∀ {ts:List Str} {us:List Value},Vals (ts.map V.str) us→∃ l:List (Str×Tok),us=strValues l∧l.map (·.1)=ts
  | [],_,.nil=>⟨[],rfl,rfl⟩
  | t::ts,_,.cons r h=>by
    obtain ⟨l,e1,e2⟩:=Vals.strs h
    obtain ⟨tk,e⟩:=r
    subst e
    exact ⟨(t,tk)::l,by rw [e1];rfl,by rw [List.map_cons,e2]⟩
def rSlS:V→Option Int→Option Int→Hp→VK→Prop:=fun x lo hi H Q=>∃ z,x=.str z∧z.length≤sizeLine∧Q (.str (Txt.slice z lo hi)) H
theorem ixc_tup {scope:Scope}{cl:List (Str×Addr)}{C:Addr}{N:List Str}{s₀:Shared}{H₀:Hp}{ex:List Addr}{pn:List (Addr×Obj)}:IxR (cxComp X scope cl C N s₀ H₀ ex pn) (rIxT X.K):=ix_tup
def rNeL (K:PySem.W.Frag):R2:=fun x y H Q=>∃ a b xs ys,x=.ref a∧y=.ref b∧SqL K H a xs∧SqL K H b ys∧xs.all flatV=true∧ys.all flatV=true∧Q (.bl (!eqVs xs ys)) H
end
end L2
namespace L2
open PySem PySem.Spec PyProof.Rows
def eqL {α:Type}(f:α→α→Bool):List α→List α→Bool
  | [],[]=>true
  | x::xs,y::ys=>f x y&&eqL f xs ys
  | _,_=>false
def eqLat {α:Type}(f:α→α→Bool)(xs ys:List α)(j:Nat):Bool:=match xs[j]?,ys[j]? with
  | some x,some y=>f x y
  | _,_=>false
theorem eqL_range {α:Type}(f:α→α→Bool):∀ (xs ys:List α),((List.range (min xs.length ys.length)).all (eqLat f xs ys)&&xs.length==ys.length)=eqL f xs ys
  | [],[]=>by simp [eqL]
  | [],y::ys=>by simp [eqL]
  | x::xs,[]=>by simp [eqL]
  | x::xs,y::ys=>by
    have ih:=eqL_range f xs ys
    have hm:min (x::xs).length (y::ys).length=min xs.length ys.length+1:=by simp only [List.length_cons];omega
    rw [hm,all_range_succ]
    have h2:(fun i=>eqLat f (x::xs) (y::ys) (i+1))=eqLat f xs ys:=by funext i;simp [eqLat]
    have h3:((x::xs).length==(y::ys).length)=(xs.length==ys.length):=by simp
    have h4:eqLat f (x::xs) (y::ys) 0=f x y:=by simp [eqLat]
    rw [h2,h3,h4,Bool.and_assoc,ih,eqL]
inductive Itm where
  | fl (x:V) | tp (xs:List V)
def ItAt (H:Hp):V→Itm→Prop
  | x,.fl y=>x=y∧flatV y=true
  | x,.tp xs=>∃ q,x=.ref q∧H q=some (.tup xs)∧xs.all flatV=true
def eqItm:Itm→Itm→Bool
  | .fl x,.fl y=>eqV x y
  | .tp xs,.tp ys=>eqVs xs ys
  | _,_=>false
section
variable {X:Cx}{pins:List (Addr×Obj)}{σ:St}{H:Hp}{s:Shared}
theorem eqAt_item (I:Inv X pins σ H s)(hu:X.A.units+1<cLine){x y:V}{u v:Value}{i j:Itm}(rx:RelV x u)(ry:RelV y v)(hx:ItAt H x i)(hy:ItAt H y j):SeqAt.EqAt X.A.in1 s u v (eqItm i j):=by
  have hu1:X.A.in1.units<cLine:=hu
  cases i with
  | fl a=>
    obtain ⟨rfl,fa⟩:=hx
    cases j with
    | fl b=>
      obtain ⟨rfl,fb⟩:=hy
      exact eqAt_V rx ry fa fb
    | tp ys=>
      obtain ⟨q,rfl,hq,_⟩:=hy
      cases ry
      obtain ⟨its,_,p,_⟩:=I.tuple (SqT.of hq)
      cases x with
      | non=>cases rx;exact SeqAt.EqAt.none_tuple p hu1
      | bl b=>cases rx;exact SeqAt.EqAt.bool_tuple b p hu1
      | int b=>obtain ⟨t,rfl⟩:=rx;exact SeqAt.EqAt.int_tuple b t p hu1
      | str b=>obtain ⟨t,rfl⟩:=rx;exact SeqAt.EqAt.str_tuple b t p hu1
      | _=>exact absurd (show false=true from fa) Bool.false_ne_true
  | tp xs=>
    obtain ⟨q,rfl,hq,fx⟩:=hx
    cases rx
    obtain ⟨its,r1,p,_⟩:=I.tuple (SqT.of hq)
    cases j with
    | fl b=>
      obtain ⟨rfl,fb⟩:=hy
      cases y with
      | non=>cases ry;exact SeqAt.EqAt.tuple_none p hu1
      | bl b=>cases ry;exact SeqAt.EqAt.tuple_bool b p hu1
      | int b=>obtain ⟨t,rfl⟩:=ry;exact SeqAt.EqAt.tuple_int b t p hu1
      | str b=>obtain ⟨t,rfl⟩:=ry;exact SeqAt.EqAt.tuple_str b t p hu1
      | _=>exact absurd (show false=true from fb) Bool.false_ne_true
    | tp ys=>
      obtain ⟨q2,rfl,hq2,fy⟩:=hy
      cases ry
      obtain ⟨its2,r2,p2,_⟩:=I.tuple (SqT.of hq2)
      by_cases e:q=q2
      · subst e
        rw [hq] at hq2
        cases hq2
        have hs:eqVs xs xs=true:=by
          have:∀ l:List V,l.all flatV=true→eqVs l l=true:=by
            intro l
            induction l with
            | nil=>intro _;rfl
            | cons a r ih=>
              intro f
              rw [List.all_cons,Bool.and_eq_true] at f
              have ea:eqV a a=true:=by
                cases a <;> first | rfl | exact absurd (show false=true from f.1) Bool.false_ne_true | simp [eqV]
              show (eqV a a&&eqVs r r)=true
              rw [ea,ih f.2];rfl
          exact this xs fx
        show SeqAt.EqAt _ _ _ _ (eqVs xs xs)
        rw [hs]
        exact SeqAt.EqAt.same _
      · have rc:=SeqAt.RcAt.tuples (A:=X.A.in1) (s:=s) (e:=eqAtI xs ys) (show s.heap.IsTuple q its.toArray from p) (show s.heap.IsTuple q2 its2.toArray from p2) hu1 (tup_eqAt (pins:=pins) (σ:=σ) (H:=H) r1 r2 fx fy)
        rw [List.size_toArray,List.size_toArray,← r1.length,← r2.length,eqVs_range] at rc
        exact SeqAt.EqAt.of_refs e rc
def rEqN (neg:Bool):R2:=fun x y H Q=>∃ a b xs ys is js,x=.ref a∧y=.ref b∧H a=some (.tup xs)∧H b=some (.tup ys)∧Paired (ItAt H) xs is∧Paired (ItAt H) ys js∧Q (.bl (if neg then !eqL eqItm is js else eqL eqItm is js)) H
theorem paired_at {α β:Type}{F:α→β→Prop}:∀ {xs:List α} {ys:List β},Paired F xs ys→∀ {j:Nat} {x:α},xs[j]?=some x→∃ y,ys[j]?=some y∧F x y
  | _,_,.nil,_,_,e=>by simp at e
  | _,_,.cons r _,0,_,e=>by simp at e;subst e;exact ⟨_,rfl,r⟩
  | _,_,.cons _ t,j+1,x,e=>by
    obtain ⟨y,h1,h2⟩:=paired_at t (j:=j) (x:=x) (by simpa using e)
    exact ⟨y,by simpa using h1,h2⟩
theorem items_eqAt (I:Inv X pins σ H s)(hu:X.A.units+1<cLine){xs ys:List V}{is js:List Itm}{us vs:List Value}(r1:Vals xs us)(r2:Vals ys vs)(hx:Paired (ItAt H) xs is)(hy:Paired (ItAt H) ys js):
    ∀ j (h1:j<us.toArray.size) (h2:j<vs.toArray.size),SeqAt.EqAt X.A.in1 s us.toArray[j] vs.toArray[j] (eqLat eqItm is js j):=by
  intro j h1 h2
  have l1:=r1.length
  have l2:=r2.length
  rw [List.size_toArray] at h1 h2
  have ex:xs[j]?=some (xs[j]'(by omega)):=List.getElem?_eq_getElem _
  have ey:ys[j]?=some (ys[j]'(by omega)):=List.getElem?_eq_getElem _
  obtain ⟨u,hu',ru⟩:=r1.get ex
  obtain ⟨v,hv',rv⟩:=r2.get ey
  obtain ⟨i,hi,ai⟩:=paired_at hx ex
  obtain ⟨k,hk,ak⟩:=paired_at hy ey
  have eu:us.toArray[j]'(by simpa using h1)=u:=by
    rw [List.getElem?_eq_getElem h1] at hu'
    simpa using Option.some.inj hu'
  have ev:vs.toArray[j]'(by simpa using h2)=v:=by
    rw [List.getElem?_eq_getElem h2] at hv'
    simpa using Option.some.inj hv'
  rw [eu,ev]
  have e:eqLat eqItm is js j=eqItm i k:=by unfold eqLat;rw [hi,hk]
  rw [e]
  exact eqAt_item I hu ru rv ai ak
theorem op_eqN (hu:X.A.units+1<cLine):OpR X (compareOp .Eq) (rEqN false):=by
  intro pins s σ H x y v u Q I rx ry h
  obtain ⟨a,b,xs,ys,is,js,rfl,rfl,ha,hb,hx,hy,q⟩:=h
  cases rx
  cases ry
  obtain ⟨its,r1,p1,_⟩:=I.tuple (SqT.of ha)
  obtain ⟨its2,r2,p2,_⟩:=I.tuple (SqT.of hb)
  refine SeqAt.eq_tupleAt (e:=eqLat eqItm is js) (show s.heap.IsTuple a its.toArray from p1) (show s.heap.IsTuple b its2.toArray from p2) (Nat.lt_of_succ_lt hu) (items_eqAt I hu r1 r2 hx hy) ⟨.bl _,H,I,rfl,?_⟩
  rw [List.size_toArray,List.size_toArray,← r1.length,← r2.length,Paired.length hx,Paired.length hy,eqL_range]
  exact q
def rInN:R2:=fun x y H Q=>∃ p us,x=.non∧y=.ref p∧H p=some (.lst us)∧(∀ u∈us,∃ q xs,u=.ref q∧H q=some (.tup xs))∧Q (.bl false) H
def tCallV (tf:TE)(ok:Addr→Sp→Prop)(t:TA):TE:=fun σ H Q=>tf σ H fun x H1=>∃ f sp,x=.ref f∧ok f sp∧t σ H1 fun vs H2=>sp (vs++[]) H2 Q E0
end
end L2
namespace L2
open PySem PySem.Spec PyProof.Rows
theorem comp_gen {X:Cx}{elt iter:Expr}{ifs:List Expr}{x:Str}{px pos:Pos}{scope:Scope}{cl:List (Str×Addr)}{fv:List Str}{js:List Nat}{wi:TI}{tt:TT}{te:TE}(hc:X.calm=true)(hclos:closureFor scope X.env=pure cl)
    (S:CompScope X scope cl x fv js) (hi:PI X (.Name x px) iter wi)
    (ht:∀ (C:Addr) (s₀:Shared) (H₀:Hp) (ex:List Addr) (pn:List (Addr×Obj)),PF (cxComp X scope cl C (x::fv) s₀ H₀ ex pn) ifs tt)
    (he:∀ (C:Addr) (s₀:Shared) (H₀:Hp) (ex:List Addr) (pn:List (Addr×Obj)),PE (cxComp X scope cl C (x::fv) s₀ H₀ ex pn) elt te)
    (hs:∀ x,foldedSetIterable iter X.env x=pure x) {use:Option (Value→Sem Unit)} {QQ:Value→Shared→Prop} {pins:List (Addr×Obj)} {s:Shared} {σ:St} {H:Hp} {Q:VK} (I:Inv X pins σ H s) (h:tComp wi js tt te σ H Q)
    (hfin:∀ (D:Addr) (s3:Shared) (H3:Hp) (fp:List Addr) (pn:List (Addr×Obj)) (N:List Str) (pins':List (Addr×Obj)) (σ':St) (H':Hp) (s':Shared),Inv X pins σ H3 s3→(∀ b∈fp,FpOk X pins H3 b)→
      Inv (cxComp X scope cl s3.heap.objs.size N s3 H3 fp pn) pins' σ' H' s'→Q (.ref D) H'→compPost (model X.prog X.w) X.A X.xe use QQ (.ref D) s3.heap.objs.size (.ok .next) s'):
    wpAny (model X.prog X.w) X.A (comprehension (.ListComp elt [⟨.Name x px,iter,ifs,0⟩] scope pos) scope X.env (firstIterPos [⟨.Name x px,iter,ifs,0⟩] pos) (newList []) (firstAsync [⟨.Name x px,iter,ifs,0⟩]) (firstIter [⟨.Name x px,iter,ifs,0⟩] X.env) use) QQ X.xe s:=by
  refine wpAny_comprehension_free (use:=use) rfl hs hclos S.kind S.nm (thn (hi pins s σ H _ I h) fun v s1 h1=>thn h1 fun itv s2 h2=>?_)
  obtain ⟨it,fp,tn,J,H2,e,I2,T,st2,f2,hW⟩:=h2
  subst e
  have hD:H2 s2.heap.objs.size=none:=I2.hok.fresh (Nat.le_refl _)
  obtain ⟨W,⟨m0,w0⟩,turn⟩:=hW s2.heap.objs.size hD
  have lt2:∀ b∈fp,b<s2.heap.objs.size:=fun b hb=>by
    obtain ⟨o,e,_⟩:=T.obj _ _ st2 b hb
    exact Heap.lt_size e
  refine wpAny_newObj_type (wpAny_newFunctionEnv S.nc (by intro y hy;simp at hy) (fun h₁ hns₁ hsb₁=>?_) S.kind)
  dsimp only at hns₁ hsb₁ ⊢
  have I3:Inv X pins σ (upd H2 s2.heap.objs.size (.lst [])) { s2 with heap:=s2.heap.push { cls:=.type "list",dict:=none,data:=.seq ([]:List Value).toArray } }:=I2.lnew (t':=s2.toks) .nil (Nat.zero_le _)
  generalize hS3:({ s2 with heap:=s2.heap.push { cls:=.type "list",dict:=none,data:=.seq ([]:List Value).toArray } }:Shared)=s3 at I3
  have eh:s3.heap=s2.heap.push { cls:=.type "list",dict:=none,data:=.seq ([]:List Value).toArray }:=by rw [← hS3]
  rw [← eh] at hns₁ hsb₁ ⊢
  have hsz:s3.heap.objs.size=s2.heap.objs.size+1:=by rw [eh,Heap.size_push]
  have k23:∀ b o,s2.heap.get? b=some o→s3.heap.get? b=some o:=fun b o e=>by rw [eh];exact Heap.get?_push_of_some _ e
  have k34:∀ b o,s3.heap.get? b=some o→h₁.get? b=some o:=fun b o e=>hsb₁.extBut b o (Nat.ne_of_lt (Heap.lt_size e)) (Heap.get?_push_of_some _ e)
  have f3:∀ b∈fp,FpOk X pins (upd H2 s2.heap.objs.size (.lst [])) b:=fun b hb=>⟨by rw [upd_ne (Nat.ne_of_lt (lt2 b hb))];exact (f2 b hb).1,(f2 b hb).2⟩
  have lt3:∀ b∈fp,b<s3.heap.objs.size:=fun b hb=>by rw [hsz];exact Nat.lt_succ_of_lt (lt2 b hb)
  have I4:=comp_start (tk:=s3.toks) S I3 f3 lt3 (h₁:=h₁) (by simpa using hns₁) k34
  generalize hY:cxComp X scope cl s3.heap.objs.size (x::fv) s3 (upd H2 s2.heap.objs.size (.lst [])) fp (X.pn++pins)=Y at I4
  have hYp:Y.prog=X.prog:=by rw [← hY];rfl
  have hYw:Y.w=X.w:=by rw [← hY];rfl
  have hYK:Y.K=X.K:=by rw [← hY];rfl
  have hYA:Y.A=X.A:=by rw [← hY];rfl
  have hYc:Y.calm=true:=by rw [← hY];exact hc
  have hYe:Y.env=compEnvC scope cl s3.heap.objs.size X.env:=by rw [← hY];rfl
  have hYx:Y.xe=fun _ _=>False:=by rw [← hY];rfl
  have hYN:Y.N=x::fv:=by rw [← hY];rfl
  have heY:PE Y elt te:=by rw [← hY];exact he _ _ _ _ _
  have htY:PF Y ifs tt:=by rw [← hY];exact ht _ _ _ _ _
  have stat:∀ {H':Hp},(∀ b∈fp,H' b=none)→∀ b∈fp,FpOk Y [] H' b:=fun {H'} hn b hb=>by
    obtain ⟨g0,g1,g2,g3,g4,g5⟩:=f3 b hb
    rw [← hY]
    refine ⟨hn b hb,Nat.ne_of_lt (lt3 b hb),fun z=>?_,.inl hb,fun y c e=>g4 y c (S.cell_of e),fun p hp=>g5 p (by simpa [cxComp] using hp)⟩
    rcases List.mem_cons.mp (I3.stkSub b z) with q | q
    · exact g1 q
    · exact g2 q
  have fin:∀ {i:Nat} {m:Nat} {σ':St} {H':Hp} {s':Shared},Inv Y [] σ' H' s'→Q (.ref s2.heap.objs.size) H'→compPost (model X.prog X.w) X.A X.xe use QQ (.ref s2.heap.objs.size) s3.heap.objs.size (.ok .next) s':=fun {i m σ' H' s'} J q=>by
    rw [← hY] at J
    exact hfin _ _ _ _ _ _ _ _ _ _ I3 f3 J q
  have st4:∀ s4:Shared,s4={ s3 with heap:=h₁,toks:=s3.toks }→tn 0 s4.heap:=fun s4 e=>by
    subst e
    exact T.keep _ _ _ st2 fun b hb o e=>k34 b o (k23 b o e)
  have loop:codeAny (model X.prog X.w) X.A (.compLoop (.ListComp elt [⟨.Name x px,iter,ifs,0⟩] scope pos) 0 (.ref it) (.ref s2.heap.objs.size) (compEnvC scope cl s3.heap.objs.size X.env))
      (compPost (model X.prog X.w) X.A X.xe use QQ (.ref s2.heap.objs.size) s3.heap.objs.size) { s3 with heap:=h₁,toks:=s3.toks }:=by
    refine compLoop_go (fun n s'=>∃ (i:Nat) (o:Option V) (H':Hp),Inv Y [] (o::frv js σ) H' s'∧tn i s'.heap∧(∀ b∈fp,H' b=none)∧W i n H') ?_ m0 ⟨0,none,_,I4,st4 _ rfl,fun b hb=>(f3 b hb).1,w0⟩
    rintro n s5 ⟨i,o,H5,I5,st5,fr5,w5⟩
    rcases turn i n H5 w5 with ⟨stop,q⟩ | ⟨go,step⟩
    · have r:=T.done Y hYp hYw hYK hYc i [] s5 _ H5 (fun _ _=>False) I5 (stat fr5) st5 stop
      rw [hYA] at r
      refine thn r fun r s6 ⟨hr,I6⟩=>?_
      subst hr
      exact fin (i:=i) (m:=n) I6 q
    · have r:=T.item Y hYp hYw hYK hYc i [] s5 _ H5 (fun _ _=>False) I5 (stat fr5) st5 go
      rw [hYA] at r
      refine thn r fun r s6 ⟨u,hr,h6⟩=>?_
      subst hr
      refine thn h6 fun _ s7 ⟨y,H7,I7,r7,y7,st7,fr7⟩=>?_
      have I7':=I7.pinned (stat fr7) (T.obj _ _ st7)
      have hname:PG Y (.Name x px) (gName 0):=pg_name (X:=Y) (i:=0) (by rw [hYN];exact S.nd) (by rw [hYN];rfl) (.inl (by rw [hYe];exact lookup_relabel_local S.hx)) (.inr (by rw [hYe];exact lookup_relabel_local S.hx))
      have r8:=hname _ s7 _ H7 y u (fun σ' H'=>σ'=some y::frv js σ∧H'=H7) I7' r7 ⟨rfl,rfl⟩
      rw [hYp,hYw,hYA,hYe,hYx] at r8
      refine thn r8 fun _ s8 ⟨σ8,H8,I8,e1,e2⟩=>?_
      subst e1 e2
      have r9:=htY _ s8 _ _ _ I8 (step y _ y7)
      rw [hYp,hYw,hYA,hYe,hYx] at r9
      refine thn r9 fun b s9 ⟨H9,I9,q9⟩=>?_
      have again:∀ {σ':St} {H':Hp} {s':Shared},Inv Y ([]++pinsAt fp s7.heap) (some y::frv js σ) H' s'→(∃ m',m'<n∧W (i+1) m' H')→
          ∃ m,m<n∧∃ (i:Nat) (o:Option V) (H':Hp),Inv Y [] (o::frv js σ) H' s'∧tn i s'.heap∧(∀ b∈fp,H' b=none)∧W i m H':=fun {σ' H' s'} K7 ⟨m',hm,w7⟩=>by
        refine ⟨m',hm,i+1,some y,H',K7.unpinned,T.keep _ _ _ st7 fun b hb o e=>(K7.pin (b,o) (List.mem_append_right _ (List.mem_append_right _ (mem_pinsAt hb e)))).1,fun b hb=>?_,w7⟩
        obtain ⟨o,e,d⟩:=T.obj _ _ st7 b hb
        exact (K7.pin (b,o) (List.mem_append_right _ (List.mem_append_right _ (mem_pinsAt hb e)))).2.1
      cases b with
      | false=>
        rw [if_neg Bool.false_ne_true] at q9 ⊢
        exact again (σ':=[]) I9 q9
      | true=>
        rw [if_pos rfl] at q9 ⊢
        have r10:=heY _ s9 _ _ _ I9 q9
        rw [hYp,hYw,hYA,hYe,hYx] at r10
        refine thn r10 fun v s10 ⟨y10,H10,I10,ry,xs,hxs,hlen,m',hm,w10⟩=>?_
        have r11:=mt_append (X:=Y) _ s10 _ H10 (.ref s2.heap.objs.size) [y10] (.ref s2.heap.objs.size) [v] (fun _ H'=>H'=upd H10 s2.heap.objs.size (.lst (xs++[y10]))) I10 rfl (.cons ry .nil) ⟨_,xs,y10,rfl,rfl,hxs,hlen,rfl⟩
        rw [hYp,hYw,hYA,hYx] at r11
        refine thn r11 fun _ s11 ⟨_,H11,I11,_,e11⟩=>?_
        subst e11
        exact again (σ':=[]) I11 ⟨m',hm,w10⟩
  have loop':∀ s4:Shared,s4={ s3 with heap:=h₁,toks:=s3.toks }→codeAny (model X.prog X.w) X.A (.compLoop (.ListComp elt [⟨.Name x px,iter,ifs,0⟩] scope pos) 0 (.ref it) (.ref s2.heap.objs.size) (compEnvC scope cl s3.heap.objs.size X.env))
      (compPost (model X.prog X.w) X.A X.xe use QQ (.ref s2.heap.objs.size) s3.heap.objs.size) s4:=fun s4 e=>by subst e;exact loop
  have e4:∀ t,t=s3.toks→({ s3 with heap:=h₁,toks:=t }:Shared)={ s3 with heap:=h₁,toks:=s3.toks }:=fun t e=>by rw [e]
  have fin4:∀ s4:Shared,s4={ s3 with heap:=h₁,toks:=s3.toks }→codeAny (model X.prog X.w) X.A (.compStart (.ListComp elt [⟨.Name x px,iter,ifs,0⟩] scope pos) 0 (.ref it) (.ref s2.heap.objs.size) (compEnvC scope cl s3.heap.objs.size X.env))
      (compPost (model X.prog X.w) X.A X.xe use QQ (.ref s2.heap.objs.size) s3.heap.objs.size) s4:=fun s4 e=>
    codeAny_compStart_list (loop' s4 e) (T.self X.A 0 s4 _ _ (st4 s4 e) (loop' s4 e))
  have es:({ s2 with heap:=s2.heap.push { cls:=.type "list",dict:=none,data:=.seq ([]:List Value).toArray } }:Shared)=s3:=hS3
  refine fin4 _ ?_
  rw [← es]
  rfl
theorem ps_setC {X:Cx}{i:Nat}{y:Str}{elt iter:Expr}{ifs:List Expr}{x:Str}{px pos py spos:Pos}{scope:Scope}{cl:List (Str×Addr)}{fv:List Str}{js:List Nat}{wi:TI}{tt:TT}{te:TE}(hN:X.N.Nodup)(hi0:X.N[i]?=some y)(hy:X.env.scope.names.lookup y=some .local)
    (hc:X.calm=true) (hclos:closureFor scope X.env=pure cl)
    (S:CompScope X scope cl x fv js) (hi:PI X (.Name x px) iter wi)
    (ht:∀ (C:Addr) (s₀:Shared) (H₀:Hp) (ex:List Addr) (pn:List (Addr×Obj)),PF (cxComp X scope cl C (x::fv) s₀ H₀ ex pn) ifs tt)
    (he:∀ (C:Addr) (s₀:Shared) (H₀:Hp) (ex:List Addr) (pn:List (Addr×Obj)),PE (cxComp X scope cl C (x::fv) s₀ H₀ ex pn) elt te)
    (hs:∀ x,foldedSetIterable iter X.env x=pure x:=by intro _;rfl)
    (hsw:swapsWith (.ListComp elt [⟨.Name x px,iter,ifs,0⟩] scope pos) (some (.Name y py)) spos.line X.env=pure true:=by rfl):
    PS X (.Assign [.Name y py] (.ListComp elt [⟨.Name x px,iter,ifs,0⟩] scope pos) spos) (tAsg (tComp wi js tt te) (gName i)):=by
  intro pins s σ H D I h
  rw [exec_Assign_Name_used _ _ _ _ hsw]
  refine wpAny_bind (wpAny_standAt (wpAny_bind ?_))
  rw [arm_evalThenUse_ListComp]
  refine wpAny_bind (comp_gen (Q:=fun v H1=>D.nx (σ.set i (some v)) H1) hc hclos S hi ht he hs I h ?_)
  intro L s3 H3 fp pn N pins' σ' H' s' I3 f3 J q
  obtain ⟨mm,hn,_⟩:=id J.loc
  have sb0:Heap.SameBut s3.heap.objs.size s'.heap s'.heap:=⟨rfl,fun _ _=>rfl⟩
  have I':Inv X pins σ H' s':=comp_end I3 f3 J sb0
  have ok:=I3.fpOk (H':=H') (Nat.le_refl _) (show H' s3.heap.objs.size=none from J.free)
  obtain ⟨f0,f1,f2,f4,f5,f6⟩:=ok
  refine wpAny_assign_Name (store_ok2 I' hN hi0 (.inl hy) (v:=.ref L) rfl (fun s2 I2 ⟨a,hsb,ha⟩=>?_) (.inr hy))
  have nac:s3.heap.objs.size≠a:=fun z=>by
    rcases ha with ha | ha
    · exact f1 (z.trans ha)
    · exact f5 _ _ ha z.symm
  refine ⟨mm,hn.sameBut hsb nac,fun h'' sb=>?_⟩
  have I4:Inv X pins (σ.set i (some (.ref L))) H' { s2 with heap:=h'' }:=I2.turned (t':=s2.toks) (fun b o hb e=>(sb.2 b hb).trans e) f0 f1 f4 f5 f6
  exact wpAny_pure (wpAny_pure ⟨_,H',I4,q⟩)
end L2
namespace L2
open PySem PySem.Spec PyProof.Rows
section
variable {X:Cx}
def rMulS:R2:=fun x y H Q=>∃ z n,x=.str z∧y=.int n∧MulOk z n∧Q (.str (Txt.mul z n)) H
def rDbl:R2:=fun x y H Q=>∃ t v,x=.ref t∧y=.int 2∧H t=some (.tup [v])∧∀ p,H p=none→Q (.ref p) (upd H p (.tup [v,v]))
end
end L2
namespace L2
open PySem PySem.Spec PyProof.Rows
section
variable {κ:Type}[DecidableEq κ]
def valV (kvs:List (κ×V))(k:κ):Option V:=(kvs.find? fun kv=>decide (kv.1=k)).map (·.2)
def putK (kvs:List (κ×V))(k:κ)(v:V):List (κ×V):=
  if (kvs.any fun kv=>decide (kv.1=k))=true then kvs.map (fun kv=>if kv.1=k then (kv.1,v) else kv) else kvs++[(k,v)]
def dropK (kvs:List (κ×V))(k:κ):List (κ×V):=kvs.filter fun kv=>decide (kv.1≠k)
theorem valV_pos {p:κ×V}{r:List (κ×V)}{k:κ}(e:p.1=k):valV (p::r) k=some p.2:=by simp [valV,List.find?_cons,e]
theorem valV_neg {p:κ×V}{r:List (κ×V)}{k:κ}(e:¬ p.1=k):valV (p::r) k=valV r k:=by simp [valV,List.find?_cons,e]
theorem valV_any (k:κ):∀ kvs:List (κ×V),(kvs.any fun kv=>decide (kv.1=k))=(valV kvs k).isSome
  | []=>rfl
  | p::r=>by
    rw [List.any_cons]
    by_cases e:p.1=k
    · simp only [valV_pos e,decide_eq_true e,Bool.true_or,Option.isSome_some]
    · rw [valV_neg e,decide_eq_false e,Bool.false_or];exact valV_any k r
theorem valV_map (k j:κ)(y:V):∀ kvs:List (κ×V),valV (kvs.map fun kv=>if kv.1=k then (kv.1,y) else kv) j=(valV kvs j).map fun x=>if j=k then y else x
  | []=>rfl
  | p::r=>by
    have ih:=valV_map k j y r
    rw [List.map_cons]
    by_cases h:p.1=k
    · rw [if_pos h]
      by_cases e:p.1=j
      · rw [valV_pos (p:=(p.1,y)) e,valV_pos e,Option.map_some,if_pos (e.symm.trans h)]
      · rw [valV_neg (p:=(p.1,y)) e,valV_neg e,ih]
    · rw [if_neg h]
      by_cases e:p.1=j
      · rw [valV_pos (p:=p) e,valV_pos e,Option.map_some,if_neg (fun z=>h (e.trans z))]
      · rw [valV_neg (p:=p) e,valV_neg e,ih]
theorem valV_snoc (k j:κ)(y:V):∀ kvs:List (κ×V),valV kvs k=none→valV (kvs++[(k,y)]) j=if j=k then some y else valV kvs j
  | [],_=>by
    by_cases e:k=j
    · rw [if_pos e.symm];exact valV_pos (p:=(k,y)) e
    · rw [if_neg (fun z=>e z.symm)];exact valV_neg (p:=(k,y)) e
  | p::r,hn=>by
    rw [List.cons_append]
    have hk:¬ p.1=k:=fun z=>by rw [valV_pos z] at hn;cases hn
    rw [valV_neg hk] at hn
    have ih:=valV_snoc k j y r hn
    by_cases e:p.1=j
    · rw [valV_pos e,valV_pos e,if_neg (fun z=>hk (e.trans z))]
    · rw [valV_neg e,valV_neg e,ih]
theorem valV_put (kvs:List (κ×V))(k j:κ)(y:V):valV (putK kvs k y) j=if j=k then some y else valV kvs j:=by
  unfold putK
  by_cases a:(kvs.any fun kv=>decide (kv.1=k))=true
  · rw [if_pos a,valV_map]
    rw [valV_any] at a
    by_cases e:j=k
    · obtain ⟨x,hx⟩:=Option.isSome_iff_exists.mp a
      rw [if_pos e,e,hx,Option.map_some,if_pos rfl]
    · rw [if_neg e]
      cases valV kvs j with
      | none=>rfl
      | some x=>rw [Option.map_some,if_neg e]
  · rw [if_neg a]
    refine valV_snoc k j y kvs ?_
    rw [valV_any] at a
    cases q:valV kvs k with
    | none=>rfl
    | some x=>rw [q] at a;exact (a rfl).elim
theorem length_putK (kvs:List (κ×V))(k:κ)(v:V):(putK kvs k v).length≤kvs.length+1:=by
  unfold putK
  split
  · rw [List.length_map];omega
  · rw [List.length_append,List.length_cons,List.length_nil];omega
theorem RelO.isSome_eq {o:Option V}{u:Option Value}(r:RelO o u):o.isSome=u.isSome:=by
  cases o with
  | none=>cases u with
    | none=>rfl
    | some _=>exact (show False from r).elim
  | some _=>cases u with
    | none=>exact (show False from r).elim
    | some _=>rfl
theorem RelO.getD {o:Option V}{u:Option Value}{d:V}{d':Value}(r:RelO o u)(rd:RelV d d'):RelV (o.getD d) (u.getD d'):=by
  cases o with
  | none=>cases u with
    | none=>exact rd
    | some _=>exact (show False from r).elim
  | some _=>cases u with
    | none=>exact (show False from r).elim
    | some _=>exact r
theorem KV.val {kvs:List (κ×V)}{vs:List (κ×Value)}(r:KV kvs vs)(k:κ):RelO (valV kvs k) (valueAt vs k):=by
  unfold KV at r
  induction r with
  | nil=>exact True.intro
  | @cons p q ps qs h t ih=>
    obtain ⟨h1,h2⟩:=h
    by_cases e:p.1=k
    · have e':q.1=k:=h1.symm.trans e
      have b:valueAt (q::qs) k=some q.2:=by simp [valueAt,List.find?_cons,e']
      rw [valV_pos e,b];exact h2
    · have e':¬ q.1=k:=fun z=>e (h1.trans z)
      have b:valueAt (q::qs) k=valueAt qs k:=by simp [valueAt,List.find?_cons,e']
      rw [valV_neg e,b];exact ih
theorem KV.any {kvs:List (κ×V)}{vs:List (κ×Value)}(r:KV kvs vs)(k:κ):(kvs.any fun kv=>decide (kv.1=k))=vs.any fun kv=>decide (kv.1=k):=by
  unfold KV at r
  induction r with
  | nil=>rfl
  | cons h t ih=>rw [List.any_cons,List.any_cons,ih,h.1]
theorem KV.repl {kvs:List (κ×V)}{vs:List (κ×Value)}(r:KV kvs vs)(k:κ){y:V}{u:Value}(ry:RelV y u):
    KV (kvs.map fun kv=>if kv.1=k then (kv.1,y) else kv) (vs.map fun kv=>if kv.1=k then (kv.1,u) else kv):=by
  unfold KV at r ⊢
  induction r with
  | nil=>exact .nil
  | @cons p q ps qs h t ih=>
    rw [List.map_cons,List.map_cons]
    refine .cons ?_ ih
    obtain ⟨h1,h2⟩:=h
    by_cases e:p.1=k
    · rw [if_pos e,if_pos (h1.symm.trans e)];exact ⟨h1,ry⟩
    · rw [if_neg e,if_neg (fun z=>e (h1.trans z))];exact ⟨h1,h2⟩
theorem KV.put {kvs:List (κ×V)}{vs:List (κ×Value)}(r:KV kvs vs)(k:κ){y:V}{u:Value}(ry:RelV y u):KV (putK kvs k y) (stored vs k u):=by
  unfold putK stored
  rw [r.any k]
  by_cases e:(vs.any fun kv=>decide (kv.1=k))=true
  · rw [if_pos e,if_pos e];exact r.repl k ry
  · rw [if_neg e,if_neg e];exact Paired.snoc r ⟨rfl,ry⟩
theorem KV.drop {kvs:List (κ×V)}{vs:List (κ×Value)}(r:KV kvs vs)(k:κ):KV (dropK kvs k) (without vs k):=by
  unfold KV at r ⊢
  unfold dropK without
  induction r with
  | nil=>exact .nil
  | @cons p q ps qs h t ih=>
    obtain ⟨h1,h2⟩:=h
    rw [List.filter_cons,List.filter_cons]
    by_cases e:p.1=k
    · have a:¬ decide (p.1≠k)=true:=by simp [e]
      have b:¬ decide (q.1≠k)=true:=by simp [h1.symm.trans e]
      rw [if_neg a,if_neg b];exact ih
    · have e':¬ q.1=k:=fun z=>e (h1.trans z)
      have a:decide (p.1≠k)=true:=by simp [e]
      have b:decide (q.1≠k)=true:=by simp [e']
      rw [if_pos a,if_pos b];exact .cons ⟨h1,h2⟩ ih
theorem KV.keys {kvs:List (κ×V)}{vs:List (κ×Value)}(r:KV kvs vs):kvs.map (·.1)=vs.map (·.1):=by
  unfold KV at r
  induction r with
  | nil=>rfl
  | cons h t ih=>rw [List.map_cons,List.map_cons,ih,h.1]
theorem KV.length {kvs:List (κ×V)}{vs:List (κ×Value)}(r:KV kvs vs):kvs.length=vs.length:=Paired.length r
end
theorem kV_is {P:Program}{w:World}{k:Key}{u:Value}(r:RelV (kV k) u):(mixKind P w).is k u=true:=by
  cases k with
  | inl i=>obtain ⟨t,e⟩:=(show ∃ t,u=Value.int i t from r);subst e;exact mixKind_int P w i t
  | inr x=>obtain ⟨t,e⟩:=(show ∃ t,u=Value.str x t from r);subst e;exact mixKind_str P w x t
theorem items_are {P:Program}{w:World}:∀ {ks:List Key} {us:List Value},Vals (ks.map kV) us→ItemsAre (mixKind P w) ks us
  | [],_,r=>by rw [List.map_nil] at r;cases r;exact .nil
  | k::ks,_,r=>by
    rw [List.map_cons] at r
    cases r with
    | cons h t=>exact .cons (kV_is h) (items_are t)
abbrev KT (H:Hp):List (List Key×V)→List (List Key×Addr×Value)→Prop:=Paired fun p q=>p.1=q.1∧H q.2.1=some (.tup (p.1.map kV))∧RelV p.2 q.2.2
theorem KT.val {H:Hp}{kvs:List (List Key×V)}{xs:List (List Key×Addr×Value)}(r:KT H kvs xs)(k:List Key):RelO (valV kvs k) ((atKey xs k).map (·.2)):=by
  induction r with
  | nil=>exact True.intro
  | @cons p q ps qs h t ih=>
    obtain ⟨h1,_,h2⟩:=h
    by_cases e:p.1=k
    · have e':q.1=k:=h1.symm.trans e
      have b:atKey (q::qs) k=some q.2:=by simp [atKey,List.find?_cons,e']
      rw [valV_pos e,b];exact h2
    · have e':¬ q.1=k:=fun z=>e (h1.trans z)
      have b:atKey (q::qs) k=atKey qs k:=by simp [atKey,List.find?_cons,e']
      rw [valV_neg e,b];exact ih
theorem KT.repl {H:Hp}{kvs:List (List Key×V)}{xs:List (List Key×Addr×Value)}(r:KT H kvs xs)(k:List Key){y:V}{u:Value}(ry:RelV y u):
    KT H (kvs.map fun kv=>if kv.1=k then (kv.1,y) else kv) (xs.map (putAt k u)):=by
  induction r with
  | nil=>exact .nil
  | @cons p q ps qs h t ih=>
    rw [List.map_cons,List.map_cons]
    refine .cons ?_ ih
    obtain ⟨h1,h2,h3⟩:=h
    unfold putAt
    by_cases e:p.1=k
    · rw [if_pos e,if_pos (h1.symm.trans e)];exact ⟨h1,h2,ry⟩
    · rw [if_neg e,if_neg (fun z=>e (h1.trans z))];exact ⟨h1,h2,h3⟩
theorem KT.put {H:Hp}{kvs:List (List Key×V)}{xs:List (List Key×Addr×Value)}(r:KT H kvs xs)(k:List Key){b:Addr}{y:V}{u:Value}(hb:H b=some (.tup (k.map kV)))(ry:RelV y u):
    KT H (putK kvs k y) (storedH xs k b u):=by
  have e:(kvs.any fun kv=>decide (kv.1=k))=(atKey xs k).isSome:=by
    rw [valV_any,(r.val k).isSome_eq,Option.isSome_map]
  unfold putK storedH
  rw [e]
  by_cases q:(atKey xs k).isSome=true
  · rw [if_pos q,if_pos q];exact r.repl k ry
  · rw [if_neg q,if_neg q];exact Paired.snoc r ⟨rfl,hb,ry⟩
theorem KT.keeps {H H':Hp}{kvs:List (List Key×V)}{xs:List (List Key×Addr×Value)}(r:KT H kvs xs)(ht:∀ b ys,H b=some (.tup ys)→H' b=some (.tup ys)):KT H' kvs xs:=
  Paired.mapP r fun _ _ z=>⟨z.1,ht _ _ z.2.1,z.2.2⟩
section
variable {P:Program}{w:World}{H:Hp}{h:Heap}{a:Addr}
theorem rd_of {u:HO}(ok:HOk P w H h)(e:Rd H a u):ObjOk P w H h a u:=e.ok ok
theorem dk_rd {kvs:List (Key×V)}(ok:HOk P w H h)(e:Rd H a (.dK kvs)):kvs.length≤sizeLine∧(a==sysModules)=false∧∃ vs,KV kvs vs∧h.DictOf (mixKind P w) a vs:=
  show ObjOk P w H h a (.dK kvs) from rd_of ok e
theorem dk_of {kvs:List (Key×V)}(ok:HOk P w H h)(e:H a=some (.dK kvs)):kvs.length≤sizeLine∧(a==sysModules)=false∧∃ vs,KV kvs vs∧h.DictOf (mixKind P w) a vs:=dk_rd ok (.inl e)
theorem key_of {ks:List Key}(ok:HOk P w H h)(e:H a=some (.tup (ks.map kV))):(tupleKind (mixKind P w)).is h ks a:=by
  obtain ⟨_,its,r,o,h1,h2,n,h3⟩:=(show ObjOk P w H h a (.tup (ks.map kV)) from ok a _ e)
  exact ⟨o,its.toArray,n,h1,h2,h3,by simpa using items_are r⟩
theorem dt_rd {kvs:List (List Key×V)}(ok:HOk P w H h)(e:Rd H a (.dT kvs)):kvs.length≤sizeLine∧(a==sysModules)=false∧
    ∃ xs,KT H kvs xs∧h.DictOfH (tupleKind (mixKind P w)) a xs:=by
  obtain ⟨z,y,xs,r,o,es,ep,h1,h2,h3,h4,h5⟩:=(show ObjOk P w H h a (.dT kvs) from rd_of ok e)
  refine ⟨z,y,xs,r,o,es,ep,h1,h2,h3,h4,fun x hx=>?_,h5⟩
  have all:∀ {l:List (List Key×V)} {m:List (List Key×Addr×Value)},KT H l m→∀ x∈m,(tupleKind (mixKind P w)).is h x.1 x.2.1:=by
    intro l m q
    induction q with
    | nil=>intro x hx;exact nomatch hx
    | @cons p q ps qs hq t ih=>
      intro x hx
      rcases List.mem_cons.mp hx with e | hx
      · subst e
        exact key_of ok (by rw [← hq.1];exact hq.2.1)
      · exact ih x hx
  exact all r x hx
theorem dt_of {kvs:List (List Key×V)}(ok:HOk P w H h)(e:H a=some (.dT kvs)):kvs.length≤sizeLine∧(a==sysModules)=false∧
    ∃ xs,KT H kvs xs∧h.DictOfH (tupleKind (mixKind P w)) a xs:=dt_rd ok (.inl e)
end
def DGet (H:Hp)(a:Addr)(y:V)(r:Option V):Prop:=
  (∃ kvs k,Rd H a (.dK kvs)∧y=kV k∧r=valV kvs k)∨∃ kvs k b,Rd H a (.dT kvs)∧y=.ref b∧H b=some (.tup (k.map kV))∧r=valV kvs k
def DPut (H:Hp)(a:Addr)(y v:V)(H':Hp):Prop:=
  (∃ kvs k,H a=some (.dK kvs)∧y=kV k∧kvs.length<sizeLine∧H'=upd H a (.dK (putK kvs k v)))∨
  ∃ kvs k b,H a=some (.dT kvs)∧y=.ref b∧H b=some (.tup (k.map kV))∧kvs.length<sizeLine∧H'=upd H a (.dT (putK kvs k v))
theorem DGet.k {H:Hp}{a:Addr}{kvs:List (Key×V)}{k:Key}(e:H a=some (.dK kvs)):DGet H a (kV k) (valV kvs k):=.inl ⟨kvs,k,.inl e,rfl,rfl⟩
theorem DGet.t {H:Hp}{a b:Addr}{kvs:List (List Key×V)}{k:List Key}(e:H a=some (.dT kvs))(eb:H b=some (.tup (k.map kV))):DGet H a (.ref b) (valV kvs k):=.inr ⟨kvs,k,b,.inl e,rfl,eb,rfl⟩
theorem DPut.k {H:Hp}{a:Addr}{kvs:List (Key×V)}{k:Key}{v:V}(e:H a=some (.dK kvs))(hl:kvs.length<sizeLine):DPut H a (kV k) v (upd H a (.dK (putK kvs k v))):=.inl ⟨kvs,k,e,rfl,hl,rfl⟩
theorem DPut.t {H:Hp}{a b:Addr}{kvs:List (List Key×V)}{k:List Key}{v:V}(e:H a=some (.dT kvs))(eb:H b=some (.tup (k.map kV)))(hl:kvs.length<sizeLine):
    DPut H a (.ref b) v (upd H a (.dT (putK kvs k v))):=.inr ⟨kvs,k,b,e,rfl,eb,hl,rfl⟩
section
variable {X:Cx}{pins:List (Addr×Obj)}{σ:St}{H:Hp}{s:Shared}{a:Addr}{y v:V}{u r:Value}{o:Option V}{A:Around}{E:Value→Shared→Prop}
theorem Inv.big (I:Inv X pins σ H s):sysModules<s.heap.objs.size:=by
  have h:mainGlobals<s.heap.objs.size:=(I.mod.glob.keeps I.bk).lt
  exact Nat.lt_trans (by decide) h
theorem d_getItem {Q:Value→Shared→Prop}(hu:A.units+1<cLine)(I:Inv X pins σ H s)(g:DGet H a y (some v))(ry:RelV y u)(h:∀ w' s',Inv X pins σ H s'→RelV v w'→Q w' s'):
    wpAny (model X.prog X.w) A (getItem (.ref a) u) Q E s:=by
  rcases g with ⟨kvs,k,e,ey,l⟩ | ⟨kvs,k,b,e,ey,eb,l⟩
  · subst ey
    obtain ⟨z,hd,vs,rel,dd⟩:=dk_rd I.hok e
    obtain ⟨w',hw,rw'⟩:=RelO.some_of (v:=v) (o:=valueAt vs k) (by rw [l];exact rel.val k)
    exact wpAny_getItem_of (kV_is ry) dd.mapOf hw (h w' _ (I.tok _) rw')
  · subst ey
    cases (show u=Value.ref b from ry)
    obtain ⟨z,hd,xs,rel,dd⟩:=dt_rd I.hok e
    obtain ⟨w',hw,rw'⟩:=RelO.some_of (v:=v) (o:=(atKey xs k).map (·.2)) (by rw [l];exact rel.val k)
    obtain ⟨p,hp,hp2⟩:=Option.map_eq_some_iff.mp hw
    refine wpAny_getItem_heap (tupleKind_room_in1 hu) (key_of I.hok eb) dd hp ?_
    rw [hp2]
    exact h w' _ (I.tok _) rw'
theorem d_write {h':Heap}{t':Nat}{ob:HO}(I:Inv X pins σ H s)(mu:Mut (H a))(hs:Heap.SameBut a s.heap h')(he:∃ q,h'.get? a=some q)(new:ObjOk X.prog X.w (upd H a ob) h' a ob):
    Inv X pins σ (upd H a ob) { s with heap:=h',toks:=t' }:=
  I.write (x:=a) (e:=a) mu (.inl rfl) (fun b q hb z=>(hs.2 b hb).trans z) he new
theorem dk_new {P:Program}{w:World}{H':Hp}{h':Heap}{kvs:List (Key×V)}{vs:List (Key×Value)}(z:kvs.length≤sizeLine)(hd:(a==sysModules)=false)(rel:KV kvs vs)(dd:h'.DictOf (mixKind P w) a vs):
    ObjOk P w H' h' a (.dK kvs):=⟨z,hd,vs,rel,dd⟩
theorem d_setItem {H':Hp}{Q:Unit→Shared→Prop}(hu:A.units+1<cLine)(I:Inv X pins σ H s)(g:DPut H a y v H')(ry:RelV y u)(rv:RelV v r)(h:∀ s',Inv X pins σ H' s'→Q () s'):
    wpAny (model X.prog X.w) A (setItem (.ref a) u r) Q E s:=by
  rcases g with ⟨kvs,k,e,ey,l,eH⟩ | ⟨kvs,k,b,e,ey,eb,l,eH⟩
  · subst ey eH
    obtain ⟨z,hd,vs,rel,dd⟩:=dk_of I.hok e
    have hz:vs.length≤sizeLine:=by rw [← rel.length];exact z
    have hl:(putK kvs k v).length≤sizeLine:=by have:=length_putK kvs k v;omega
    refine wpAny_setItem_pairs (hsz:=hz) (kV_is ry) dd fun h' dd' hs=>h _ ?_
    have he:∃ q,h'.get? a=some q:=let ⟨q,_,_,hq,_⟩:=dd';⟨q,hq⟩
    exact d_write I (by rw [e];exact True.intro) hs he (dk_new hl hd (rel.put k rv) dd')
  · subst ey eH
    cases (show u=Value.ref b from ry)
    obtain ⟨z,hd,xs,rel,dd⟩:=dt_of I.hok e
    have hz:xs.length≤sizeLine:=by rw [← Paired.length rel];exact z
    have hl:(putK kvs k v).length≤sizeLine:=by have:=length_putK kvs k v;omega
    refine wpAny_setItem_heap (hsz:=hz) (tupleKind_room_in1 hu) (key_of I.hok eb) dd fun h' dd' hs=>h _ ?_
    obtain ⟨q,es,ep,hq,h2,h3,h4,_,h5⟩:=dd'
    refine d_write I (by rw [e];exact True.intro) hs ⟨q,hq⟩ ⟨hl,hd,_,(rel.put k eb rv).keeps fun c ys ec=>?_,q,es,ep,hq,h2,h3,h4,h5⟩
    rw [upd_ne (ne_of ec e (fun z=>nomatch z))]
    exact ec
end
section
variable {X:Cx}{pins:List (Addr×Obj)}{σ:St}{H:Hp}{s:Shared}{a:Addr}{kvs:List (Key×V)}{k:Key}{u:Value}{A:Around}{E:Value→Shared→Prop}
end
def NoSl (i:Expr):Prop:=∀ ov iv,subscripted i false ov iv=operate [ov,iv] (getItem ov iv)
theorem subD_of {prog:Program}{w:World}{A:Around}{E:Value→Shared→Prop}{s:Shared}{env:Env}{value slice:Expr}{pos:Pos}{T id:String}{Q:Value→Shared→Prop}
    (hl:typeLookup (.type T) "__getitem__"=pure (some (.builtin id))) (hs:NoSl slice)
    (h:wpAny (model prog w) A (eval value env) (fun o s₁=>wpAny (model prog w) A (eval slice env) (fun i s₂=>s₂.TypeIs o T∧wpAny (model prog w) A (getItem o i) Q E s₂) E s₁) E s):
    wpAny (model prog w) A (eval (.Subscript value slice pos) env) Q E s:=by
  refine Subscript_ (wpAny_mono h (fun o s₁ h₁=>wpAny_mono h₁ (fun i s₂ h₂=>?_) fun _ _ x=>x) fun _ _ x=>x)
  obtain ⟨hT,h₂⟩:=h₂
  unfold subscriptTail
  refine wpAny_bind ?_
  rw [getitemInPython_of_ne hT.not_modules]
  refine wpAny_bind (wpAny_specialOf hT hl ?_)
  have fin:wpAny (model prog w) A (subscripted slice false o i) (fun r s₃=>wpAny (model prog w) A (letTemporaryGo value o r >>= fun _=>pure r) Q E s₃) E s₂:=by
    rw [hs o i]
    exact wpAny_operating (wpAny_mono h₂ (fun r s₃ h₃=>wpAny_bind (wpAny_letTemporaryGo (wpAny_pure h₃))) fun _ _ x=>x)
  first
    | exact wpAny_pure (wpAny_bind fin)
    | exact wpAny_bind (wpAny_pure (wpAny_bind fin))
    | exact wpAny_bind fin
theorem dict_typeIs {X:Cx}{pins:List (Addr×Obj)}{σ:St}{H:Hp}{s:Shared}{a:Addr}{y:V}{o:Option V}(I:Inv X pins σ H s)(g:DGet H a y o):s.TypeIs (.ref a) "dict":=by
  rcases g with ⟨kvs,k,e,_,_⟩ | ⟨kvs,k,b,e,_,_,_⟩
  · obtain ⟨_,_,vs,_,dd⟩:=dk_rd I.hok e
    exact dd.typeIs
  · obtain ⟨_,_,xs,_,dd⟩:=dt_rd I.hok e
    exact dd.typeIs
def tDGet (td ty:TE):TE:=fun σ H Q=>td σ H fun x H1=>ty σ H1 fun y H2=>∃ a v,x=.ref a∧DGet H2 a y (some v)∧Q v H2
def tDIn (ty td:TE):TE:=fun σ H Q=>ty σ H fun y H1=>td σ H1 fun x H2=>∃ a o,x=.ref a∧DGet H2 a y o∧Q (.bl o.isSome) H2
def tDNotIn (ty td:TE):TE:=fun σ H Q=>ty σ H fun y H1=>td σ H1 fun x H2=>∃ a o,x=.ref a∧DGet H2 a y o∧Q (.bl (!o.isSome)) H2
def sDPut (td ty tv:TE):TS:=fun D σ H=>tv σ H fun v H1=>td σ H1 fun x H2=>ty σ H2 fun y H3=>∃ a H4,x=.ref a∧DPut H3 a y v H4∧D.nx σ H4
def sDAug (td ty tv:TE)(rd:V→V→Hp→VK→Prop):TS:=fun D σ H=>td σ H fun x H1=>ty σ H1 fun y H2=>∃ a v,x=.ref a∧DGet H2 a y (some v)∧
  tv σ H2 fun y2 H3=>rd v y2 H3 fun z H4=>∃ H5,DPut H4 a y z H5∧D.nx σ H5
def sDDel (td ty:TE):TS:=fun D σ H=>td σ H fun x H1=>ty σ H1 fun y H2=>∃ a kvs k,x=.ref a∧H2 a=some (.dK kvs)∧y=kV k∧(valV kvs k).isSome=true∧D.nx σ (upd H2 a (.dK (dropK kvs k)))
section
variable {X:Cx}{o i e value:Expr}{pos pos' tpos:Pos}{td ty tv:TE}
theorem pe_dget (hu:X.A.units+1<cLine)(ho:PE X o td)(hi:PE X i ty)(hs:NoSl i):PE X (.Subscript o i pos) (tDGet td ty):=by
  intro pins s σ H Q I h
  refine subD_of PySem.F.slot_dict_getitem.lookup hs (thn (ho pins s σ H _ I h) fun u s1 ⟨x,H1,I1,rx,q1⟩=>thn (hi pins s1 σ H1 _ I1 q1) fun iv s2 ⟨y,H2,I2,ry,a,v,ex,g,q2⟩=>?_)
  subst ex
  obtain rfl:u=Value.ref a:=rx
  exact ⟨dict_typeIs I2 g,d_getItem hu I2 g ry fun w' s3 I3 rw'=>⟨v,H2,I3,rw',q2⟩⟩
theorem ps_dput (hu:X.A.units+1<cLine)(ho:PE X o td)(hi:PE X i ty)(hv:PE X value tv)(hs:swapsWith value (some (.Subscript o i pos')) pos.line X.env=pure false):
    PS X (.Assign [.Subscript o i pos'] value pos) (sDPut td ty tv):=by
  intro pins s σ H D I h
  refine wpAny_Assign_Subscript (thn (hv pins s σ H _ I h) fun r s1 ⟨v,H1,I1,rv,q1⟩=>thn (ho pins s1 σ H1 _ I1 q1) fun u s2 ⟨x,H2,I2,rx,q2⟩=>thn (hi pins s2 σ H2 _ I2 q2) fun iv s3 ⟨y,H3,I3,ry,a,H4,ex,g,q3⟩=>?_) hs
  subst ex
  obtain rfl:u=Value.ref a:=rx
  exact d_setItem hu I3 g ry rv fun s4 I4=>⟨σ,H4,I4,q3⟩
end
theorem dk_empty {P:Program}{w:World}{H:Hp}(h:Heap)(hb:sysModules<h.objs.size):ObjOk P w H (h.push { cls:=.type "dict",data:=.dict #[] }) h.objs.size (.dK []):=
  ⟨Nat.zero_le _,beq_eq_false_iff_ne.mpr (Ne.symm (Nat.ne_of_lt hb)),[],.nil,Heap.DictOf.new h⟩
theorem dt_empty {P:Program}{w:World}{H:Hp}(h:Heap)(hb:sysModules<h.objs.size):ObjOk P w H (h.push { cls:=.type "dict",data:=.dict #[] }) h.objs.size (.dT []):=
  ⟨Nat.zero_le _,beq_eq_false_iff_ne.mpr (Ne.symm (Nat.ne_of_lt hb)),[],.nil,_,#[],0,Heap.get?_push_size _ rfl,⟨rfl,rfl,rfl⟩,rfl,rfl,List.nodup_nil⟩
def tDNewK:TE:=fun _ H Q=>∀ p,H p=none→Q (.ref p) (upd H p (.dK []))
def tDNewT:TE:=fun _ H Q=>∀ p,H p=none→Q (.ref p) (upd H p (.dT []))
section
variable {X:Cx}{pos:Pos}
theorem pe_dnewK:PE X (.Dict [] [] pos) tDNewK:=fun pins s σ H Q I h=>
  wpAny_Dict_empty ⟨.ref s.heap.objs.size,_,I.laid (a:=s.heap.objs.size) (o:=.dK []) (t':=s.toks) (fun _ _ q=>Heap.get?_push_of_some _ q) (Nat.le_refl _) (dk_empty s.heap I.big),rfl,h _ (I.hok.fresh (Nat.le_refl _))⟩
theorem pe_dnewT:PE X (.Dict [] [] pos) tDNewT:=fun pins s σ H Q I h=>
  wpAny_Dict_empty ⟨.ref s.heap.objs.size,_,I.laid (a:=s.heap.objs.size) (o:=.dT []) (t':=s.toks) (fun _ _ q=>Heap.get?_push_of_some _ q) (Nat.le_refl _) (dt_empty s.heap I.big),rfl,h _ (I.hok.fresh (Nat.le_refl _))⟩
end
end L2
namespace L2
open PySem PySem.Spec PyProof.Rows
section
variable {P:Program}{w:World}{A:Around}{E:Value→Shared→Prop}{s:Shared}{d it:Addr}{o:Obj}{es:Array DictEntry}{ep i:Nat}
structure RawD (h:Heap)(d:Addr)(o:Obj)(es:Array DictEntry)(ep:Nat):Prop where
  at_:h.get? d=some o
  ex:o.ExactDict
  data:o.data=.dict es ep
theorem RawD.ty (x:RawD s.heap d o es ep):s.TypeIs (.ref d) "dict":=⟨o,x.at_,x.ex.1⟩
theorem raw_iter {Q:Value→Shared→Prop}(x:RawD s.heap d o es ep)(hd:(d==sysModules)=false)
    (hQ:Q (.ref s.heap.objs.size) { s with heap:=s.heap.push { cls:=.type "dict_keyiterator",data:=.fields #[.ref d,.int 0 0,.int es.size 0,.int ep 0] } }):
    wpAny (model P w) A (pyIter (.ref d)) Q E s:=by
  refine wpAny_pyIter_slot x.ty F.slot_dict_iter (wpAny_call_entry F.slot_dict_iter x.ty F.entry_dict_iter ?_ (F.args_dict_iter_1 _))
  unfold Builtin.«dict.__iter__» Builtin.Dict.dictSlotNone
  refine wpAny_bind (wpAny_bind (wpAny_notOrdered_dict x.ty (wpAny_pure (a:=Value.ref d) ?_)))
  show wpAny _ _ (Builtin.Dict.showsAll d >>= _) _ _ s
  unfold Builtin.Dict.showsAll
  rw [if_neg (by rw [hd];exact Bool.false_ne_true)]
  refine wpAny_bind (wpAny_pure (wpAny_bind (wpAny_dictEntries x.at_ x.data (wpAny_bind (wpAny_dictEpoch x.at_ x.data ?_)))))
  refine wpAny_bind (wpAny_newObj_type (wpAny_pure ⟨_,rfl,"dict_keyiterator",_,⟨_,Heap.get?_push_size _ rfl,rfl⟩,F.slot_dict_keyiterator_next.lookup,?_⟩))
  simpa [rawInt] using hQ
theorem raw_next {Q:Option Value→Shared→Prop}{e:DictEntry}(hit:s.heap.IsKeyIter it d i es.size ep)(x:RawD s.heap d o es ep)(he:es[i]?=some e)
    (hQ:∀ h',h'.IsKeyIter it d (i+1) es.size ep→Heap.SameBut it s.heap h'→Q (some e.key) { s with heap:=h' }):
    wpAny (model P w) A (pyNext (.ref it)) Q E s:=by
  obtain ⟨oi,ho,hc,hd⟩:=id hit
  unfold pyNext
  refine wpAny_bind (wpAny_attempt (wpAny_callSpecial?_slot (name:=Str.ofString "__next__") hit.typeIs F.slot_dict_keyiterator_next
    (wpAny_call_entry F.slot_dict_keyiterator_next hit.typeIs F.entry_dict_keyiterator_next (wpAny_bind (wpAny_pure (wpAny_bind (wpAny_bind ?_)))) (F.args_dict_keyiterator_next_1 _))))
  first | refine wpAny_bind (wpAny_typeNameOfWhole_keyiter hit.typeIs (wpAny_pure ?_)) | refine wpAny_bind (wpAny_typeNameOf_keyiter hit.typeIs (wpAny_pure ?_))
  refine wpAny_bind (wpAny_fieldsOf ho hd ?_)
  simp only [show Builtin.Dict_items.ownsTuple "dict_keyiterator"=false by decide,Bool.false_eq_true,if_false]
  show wpAny _ _ (if (Value.ref d==Value.none)=true then _ else _) _ _ s
  rw [if_neg (show ¬ ((Value.ref d==Value.none)=true) from Bool.false_ne_true)]
  refine wpAny_bind (wpAny_pure (wpAny_bind (wpAny_dictEntries x.at_ x.data ?_)))
  rw [if_neg (by simp)]
  refine wpAny_bind (wpAny_pure (wpAny_bind (wpAny_dictEpoch x.at_ x.data ?_)))
  rw [if_neg (by simp)]
  refine wpAny_pure ?_
  simp only [show ¬ ((i:Int)<0) from by omega,if_false,Int.toNat_natCast,he]
  refine wpAny_bind ?_
  first | refine wpAny_bind (wpAny_typeNameOfWhole_keyiter hit.typeIs (wpAny_pure ?_)) | refine wpAny_bind (wpAny_typeNameOf_keyiter hit.typeIs (wpAny_pure ?_))
  refine wpAny_bind (wpAny_isOneOf_keyiter hit.typeIs ?_)
  show wpAny _ _ (setField (.ref it) 1 (rawInt ((i:Int)+1)) >>= _) _ _ s
  refine wpAny_bind (wpAny_setField ho hd (by simp) ?_)
  have hit':(s.heap.update it (Obj.mapFields (·.setIfInBounds 1 (rawInt ((i:Int)+1))))).IsKeyIter it d (i+1) es.size ep:=
    ⟨_,Heap.get?_update_self _ ho (Obj.isFreed_of_fields (Obj.data_mapFields hd _)),(Obj.cls_mapFields ..).trans hc,by rw [Obj.data_mapFields hd];simp [rawInt]⟩
  refine wpAny_bind (wpAny_holding (wpAny_bind (wpAny_isOneOf_keyiter (s:={ s with heap:=s.heap.update it (Obj.mapFields (·.setIfInBounds 1 (rawInt ((i:Int)+1)))) }) hit'.typeIs ?_)))
  show wpAny _ _ (pure e.key) _ _ _
  exact wpAny_pure (wpAny_pure ⟨_,rfl,wpAny_pure (hQ _ hit' (Heap.SameBut.update ..))⟩)
theorem raw_end {Q:Option Value→Shared→Prop}(hh:A.handled=none)(hit:s.heap.IsKeyIter it d i es.size ep)(x:RawD s.heap d o es ep)(he:es.size≤i)
    (hQ:∀ h',Heap.ExtBut it s.heap h'→Q none { s with heap:=h' }):wpAny (model P w) A (pyNext (.ref it)) Q E s:=by
  obtain ⟨oi,ho,hc,hd⟩:=id hit
  unfold pyNext
  refine wpAny_bind (wpAny_attempt (wpAny_callSpecial?_slot (name:=Str.ofString "__next__") hit.typeIs F.slot_dict_keyiterator_next
    (wpAny_call_entry F.slot_dict_keyiterator_next hit.typeIs F.entry_dict_keyiterator_next (wpAny_bind (wpAny_pure (wpAny_bind (wpAny_bind ?_)))) (F.args_dict_keyiterator_next_1 _))))
  first | refine wpAny_bind (wpAny_typeNameOfWhole_keyiter hit.typeIs (wpAny_pure ?_)) | refine wpAny_bind (wpAny_typeNameOf_keyiter hit.typeIs (wpAny_pure ?_))
  refine wpAny_bind (wpAny_fieldsOf ho hd ?_)
  simp only [show Builtin.Dict_items.ownsTuple "dict_keyiterator"=false by decide,Bool.false_eq_true,if_false]
  show wpAny _ _ (if (Value.ref d==Value.none)=true then _ else _) _ _ s
  rw [if_neg (show ¬ ((Value.ref d==Value.none)=true) from Bool.false_ne_true)]
  refine wpAny_bind (wpAny_pure (wpAny_bind (wpAny_dictEntries x.at_ x.data ?_)))
  rw [if_neg (by simp)]
  refine wpAny_bind (wpAny_pure (wpAny_bind (wpAny_dictEpoch x.at_ x.data ?_)))
  rw [if_neg (by simp)]
  refine wpAny_pure ?_
  simp only [show ¬ ((i:Int)<0) from by omega,if_false,Int.toNat_natCast,Array.getElem?_eq_none he]
  refine wpAny_bind ?_
  first | refine wpAny_bind (wpAny_typeNameOfWhole_keyiter hit.typeIs (wpAny_pure ?_)) | refine wpAny_bind (wpAny_typeNameOf_keyiter hit.typeIs (wpAny_pure ?_))
  show wpAny _ _ (setField (.ref it) 0 .none >>= _) _ _ s
  refine wpAny_bind (wpAny_setField ho hd (by simp) ?_)
  show wpAny _ _ (newExc (.type "StopIteration") [] >>= _) _ _ _
  refine wpAny_bind ?_
  simp only [newExc,newTuple]
  refine wpAny_bind (wpAny_newObj_type ?_ (by size_fits))
  refine wpAny_bind (m:=firstArgMember _ _) (wpAny_of_eq (a:=Value.none) (by first | rfl | (simp only [firstArgMember];rfl)) ?_)
  refine wpAny_newObj_type ?_ (by size_fits)
  simp only [raiseNew]
  refine wpAny_bind (wpAny_handled ?_)
  rw [show A.in1.handled=none from hh]
  refine wpAny_bind (wpAny_pure (wpAny_throw ?_))
  refine wpAny_bind (wpAny_isInstance (T:="StopIteration") (b:=true) ⟨_,Heap.get?_push_size _ rfl,rfl⟩ isSubtype_stop ?_)
  exact wpAny_pure (hQ _ (((Heap.SameBut.update ..).extBut.push _).push _))
end
section
variable {X:Cx}{tg:Expr}{pins:List (Addr×Obj)}{σ:St}{H:Hp}{s:Shared}
def Itd (a:Addr)(o:Obj):It:=
  ⟨fun i H=>∃ kvs,H a=some (.frz o (.dT kvs))∧i<kvs.length,
   fun i H x H'=>H'=H∧∀ kvs,H a=some (.frz o (.dT kvs))→∃ ks v b,kvs[i]?=some (ks,v)∧x=.ref b∧H b=some (.tup (ks.map kV)),
   fun i H=>∃ kvs,H a=some (.frz o (.dT kvs))∧kvs.length≤i⟩
def iDT (tl:TE):TI:=fun σ H R=>tl σ H fun x H1=>∃ a kvs,x=.ref a∧H1 a=some (.dT kvs)∧∀ o,R (Itd a o) (upd H1 a (.frz o (.dT kvs)))
end
section
variable {P:Program}{w:World}{A:Around}{E:Value→Shared→Prop}{s:Shared}{d:Addr}{o:Obj}{es:Array DictEntry}{ep:Nat}
end
section
variable {X:Cx}
def rNeE (K:PySem.W.Frag):R2:=fun x y H Q=>∃ a b xs,x=.ref a∧y=.ref b∧SqL K H a xs∧SqL K H b []∧Q (.bl (!xs.isEmpty)) H
end
end L2
namespace StrT
open PySem PySem.W PyProof.Rows
section
variable {N:Nat}{lt:Nat→Nat→Bool}
def Wp {α:Type}(N:Nat)(lt:Nat→Nat→Bool):KasT α→(α→Prop)→Prop
  | .ret a,P=>P a
  | .ask i j k,P=>i<N∧j<N∧Wp N lt (k (lt i j)) P
theorem Wp.mono {α:Type}{P P':α→Prop}(hp:∀ a,P a→P' a):∀ {t:KasT α},Wp N lt t P→Wp N lt t P'
  | .ret a,h=>hp a h
  | .ask _ _ _,h=>⟨h.1,h.2.1,Wp.mono hp h.2.2⟩
theorem Wp.bind {α β:Type}{f:α→KasT β}{P:β→Prop}:∀ {t:KasT α},Wp N lt t (fun a=>Wp N lt (f a) P)→Wp N lt (t.bind f) P
  | .ret _,h=>h
  | .ask _ _ _,h=>⟨h.1,h.2.1,Wp.bind h.2.2⟩
structure Ord (lt:Nat→Nat→Bool):Prop where
  tr:∀ a b c,lt b a=false→lt c b=false→lt c a=false
  as:∀ a b,lt a b=true→lt b a=false
theorem Ord.rf (o:Ord lt)(a:Nat):lt a a=false:=by
  cases h:lt a a with
  | false=>rfl
  | true=>exact (o.as a a h).symm▸h.symm▸h
def gg (p:Array Nat)(i:Nat):Nat:=p.getD i 0
def Up (lt:Nat→Nat→Bool)(p:Array Nat)(k:Nat):Prop:=∀ i j,i≤j→j<k→lt (gg p j) (gg p i)=false
def Dn (lt:Nat→Nat→Bool)(p:Array Nat)(k:Nat):Prop:=∀ i j,i≤j→j<k→lt (gg p i) (gg p j)=false
structure Bs (N:Nat)(p₀ p:Array Nat):Prop where
  sz:p.size=N
  bd:∀ i,gg p i<N
  pm:p.Perm p₀
def Eqs (lt:Nat→Nat→Bool)(p:Array Nat)(n q:Nat):Prop:=q+1≤n∧∀ i j,n-(q+1)≤i→i<n→n-(q+1)≤j→j<n→lt (gg p i) (gg p j)=false
end
end StrT
namespace L2
open PySem PySem.Spec PyProof.Rows
def plt (p q:Int×Int):Bool:=if p.1=q.1 then decide (p.2<q.2) else decide (p.1<q.1)
def PairAt (h:Heap)(v:Value)(p:Int×Int):Prop:=∃ a t u,v=.ref a∧IsTup h a #[.int p.1 t,.int p.2 u]
theorem PairAt.inj {h:Heap}{v:Value}{p q:Int×Int}(x:PairAt h v p)(y:PairAt h v q):p=q:=by
  obtain ⟨a1,t1,u1,rfl,o1,h1,_,n1,d1⟩:=x
  obtain ⟨a2,t2,u2,e2,o2,h2,_,n2,d2⟩:=y
  cases e2
  rw [h1] at h2
  cases h2
  rw [d1] at d2
  injection d2 with e1 _
  obtain ⟨p1,p2⟩:=p
  obtain ⟨q1,q2⟩:=q
  simp at e1
  rw [e1.1.1,e1.2.1]
theorem bt_enumerate:bootBuiltins "enumerate"=some (.type "enumerate"):=by decide +kernel
abbrev Rise (ps:List (Int×Int)):Prop:=ps.Pairwise fun p q=>plt q p=false
section
variable {P:Program}{w:World}{A:Around}{E:Value→Shared→Prop}{s:Shared}
end
def PrV (H:Hp)(v:V)(p:Int×Int):Prop:=∃ b,v=.ref b∧H b=some (.tup [.int p.1,.int p.2])
abbrev Prs (H:Hp)(vs:List V)(ps:List (Int×Int)):Prop:=Paired (PrV H) vs ps
section
variable {X:Cx}{pins:List (Addr×Obj)}{σ:St}{H:Hp}{s:Shared}
def rSorted (K:PySem.W.Frag):List V→Hp→VK→Prop:=fun xs H Q=>∃ a vs ps,xs=[V.ref a]∧SqL K H a vs∧Prs H vs ps∧vs.length<64∧∀ l vs' ps',H l=none→Prs H vs' ps'→ps'.Perm ps→Rise ps'→Q (.ref l) (upd H l (.lst vs'))
def Ite (K:PySem.W.Frag)(a:Addr):It:=
  ⟨fun i H=>∃ xs x,SqL K H a xs∧xs[i]?=some x,fun i H y H'=>∃ x b,(∀ xs,SqL K H a xs→xs[i]?=some x)∧H b=none∧y=.ref b∧H'=upd H b (.tup [.int i,x]),fun i H=>∃ xs,SqL K H a xs∧xs.length≤i⟩
theorem turn_enum {P:Program}{w:World}{K:PySem.W.Frag}{els:List Expr}{x1}{pt:Pos}(a e it:Addr)(hei:e≠it):Turn P w K (.Tuple els x1 pt) (Ite K a) [e,it] e (fun i h=>h.IsListIter it a i∧∃ old,IsEnum h e it (i:Nat) old) where
  mem:=by simp
  obj:=fun i h st b hb=>by
    obtain ⟨⟨o,h1,c,d⟩,old,h2⟩:=st
    rcases List.mem_cons.mp hb with rfl | hb
    · exact ⟨_,h2,fun v z=>by cases z⟩
    · have eb:b=it:=by simpa using hb
      subst eb
      exact ⟨o,h1,fun v z=>by rw [d] at z;cases z⟩
  keep:=fun i h h' st k=>⟨st.1.at fun o q=>k it (by simp) o q,st.2.imp fun old q=>k e (by simp) _ q⟩
  item:=by
    intro X hP hw hK hc i pins s σ H E I hf st hg
    subst hP hw hK
    obtain ⟨xs,x,hq,hx⟩:=hg
    obtain ⟨hit,old,hen⟩:=st
    obtain ⟨its,rv,p,hz⟩:=I.list hq
    obtain ⟨u,hu,ru⟩:=rv.get hx
    refine wpAny_pyNext_enum_item hen hit p.isList (x:=u) (by simpa using hu) hei fun h1 heo hit1 ht1 hz1 hk1=>⟨_,rfl,?_⟩
    refine wpAny_letOwnedTupleGo_enum (s:={ s with heap:=h1,toks:=s.toks+1 }) heo fun h2 he2 hs2=>?_
    replace hs2:Heap.SameBut e h1 h2:=hs2
    obtain ⟨f0,f1,f2,f3,f4,f5⟩:=hf e (by simp)
    obtain ⟨g0,g1,g2,g3,g4,g5⟩:=hf it (by simp)
    have eH:e<s.heap.objs.size:=Heap.lt_size hen
    obtain ⟨oi0,hoi0,_⟩:=id hit
    have iH:it<s.heap.objs.size:=Heap.lt_size hoi0
    have hit2:h2.IsListIter it a (i+1):=hit1.extBut hs2.extBut (Ne.symm hei)
    obtain ⟨oi,hoi,hci,hdi⟩:=id hit2
    have tup2:h2.get? s.heap.objs.size=some { cls:=.type "tuple",data:=.seq #[.int i s.toks,u] }:=(hs2.2 _ (Nat.ne_of_gt eH)).trans ht1
    have he3:IsEnum h2 e it ((i+1:Nat):Int) u:=by
      have e1:((i+1:Nat):Int)=(i:Int)+1:=by push_cast;rfl
      rw [e1];exact he2
    obtain ⟨mid,hmz,hme,hmo⟩:∃ mid:Heap,mid.objs.size=s.heap.objs.size∧mid.get? e=h2.get? e∧∀ b,b≠e→mid.get? b=s.heap.get? b:=
      ⟨s.heap.update e (fun _=>{ cls:=.type "enumerate",dict:=none,data:=.fields #[.none,.bool false,.ref it,rawInt ((i+1:Nat):Int),.none,u],slots:=#[] }),Heap.size_update ..,(Heap.get?_update_self _ hen (Obj.isFreed_of_fields rfl)).trans he3.symm,fun b hb=>Heap.get?_update_ne _ _ _ _ hb⟩
    have hmi:mid.get? it=some oi0:=(hmo it (Ne.symm hei)).trans hoi0
    obtain ⟨mid2,hnz,hne,hno⟩:∃ mid2:Heap,mid2.objs.size=mid.objs.size∧mid2.get? it=h2.get? it∧∀ b,b≠it→mid2.get? b=mid.get? b:=
      ⟨mid.update it (fun _=>oi),Heap.size_update ..,(Heap.get?_update_self _ hmi (Obj.isFreed_of_fields hdi)).trans hoi.symm,fun b hb=>Heap.get?_update_ne _ _ _ _ hb⟩
    have I1:Inv X pins σ H { s with heap:=mid }:=I.turned (t':=s.toks) (fun b o hb q=>(hmo b hb).trans q) f0 f1 f3 f4 f5
    have I2:Inv X pins σ H { s with heap:=mid2 }:=I1.turned (t':=s.toks) (fun b o hb q=>(hno b hb).trans q) g0 g1 g3 g4 g5
    have k2:∀ b o,mid2.get? b=some o→h2.get? b=some o:=fun b o q=>by
      by_cases c1:b=it
      · subst c1;exact hne.symm.trans q
      · rw [hno b c1] at q
        by_cases c2:b=e
        · subst c2;exact hme.symm.trans q
        · rw [hmo b c2] at q
          exact (hs2.2 b c2).trans (hk1 b o c2 c1 q)
    have fz:mid2.objs.size≤s.heap.objs.size:=by rw [hnz,hmz];exact Nat.le_refl _
    have I3:Inv X pins σ (upd H s.heap.objs.size (.tup [.int i,x])) { s with heap:=h2,toks:=s.toks+1 }:=
      I2.laid (t':=s.toks+1) k2 fz (show ObjOk X.prog X.w _ h2 _ (.tup [.int i,x]) from ⟨by show 2≤sizeLine;rw [sizeLine_eq];decide,[.int i s.toks,u],.cons ⟨_,rfl⟩ (.cons ru .nil),⟨_,tup2,rfl,_,rfl⟩⟩)
    refine ⟨.ref s.heap.objs.size,_,I3,rfl,⟨x,s.heap.objs.size,fun ys hy=>by rw [I.list_inj hy hq];exact hx,I.hok.fresh (Nat.le_refl _),rfl,rfl⟩,⟨hit2,u,he3⟩,fun b hb=>?_⟩
    rcases List.mem_cons.mp hb with rfl | hb
    · rw [upd_ne (Nat.ne_of_lt eH)];exact f0
    · have eb:b=it:=by simpa using hb
      subst eb
      rw [upd_ne (Nat.ne_of_lt iH)];exact g0
  done:=by
    intro X hP hw hK hc i pins s σ H E I hf st hg
    subst hP hw hK
    obtain ⟨xs,hq,hx⟩:=hg
    obtain ⟨hit,old,hen⟩:=st
    obtain ⟨its,rv,p,hz⟩:=I.list hq
    obtain ⟨g0,g1,g2,g3,g4,g5⟩:=hf it (by simp)
    have hl:=rv.length
    exact wpAny_pyNext_enum_end (I.ok.hd hc) hen hit p.isList (by simp;omega) fun h' eb=>⟨rfl,I.turned (t':=s.toks) (fun b o hb e=>eb b o hb e) g0 g1 g3 g4 g5⟩
  self:=fun _ _ _ _ _ st h=>by
    obtain ⟨_,old,q⟩:=st
    exact wpAny_pyIter_enum q h
def iEnum (K:PySem.W.Frag)(ta:TA):TI:=fun σ H R=>ta σ H fun vs H1=>∃ a,vs=[V.ref a]∧(∃ xs,SqL K H1 a xs)∧R (Ite K a) H1
theorem pi_enum {a:Expr}{ta:TA}{p pos pt:Pos}{els:List Expr}{x1}(hg:Gl X "enumerate")(hm:X.mg "enumerate"=none)(hv:bootBuiltins "enumerate"=some (.type "enumerate"))(ha:PA X [a] ta)(hs:starEach [a] X.env=[(false,eval a X.env)]:=by rfl):
    PI X (.Tuple els x1 pt) (.Call (.Name "enumerate" p) [a] [] pos) (iEnum X.K ta):=by
  intro pins s σ H R I h
  refine Call_ (ld_blt I hg hm hv (PyProof.Rows.callWith_type1 (thn (ha pos pins s σ H _ I h) fun us s1 ⟨vs,H1,I1,r1,q1⟩=>?_) hs rfl))
  obtain ⟨l,e,⟨xs,hq⟩,q⟩:=q1
  subst e
  obtain ⟨u,rfl,ru⟩:=vals1 r1
  cases ru
  obtain ⟨its,rv,pl,hz⟩:=I1.list hq
  refine call_enumerate_list pl.isList fun h' he hit hz' kp=>wpAny_pyIter_enum (s:={ s1 with heap:=h' }) he ?_
  have I2:Inv X pins σ H1 { s1 with heap:=h' }:=I1.kept (t':=s1.toks) kp
  have ge:∀ b∈[s1.heap.objs.size+1,s1.heap.objs.size],s1.heap.objs.size≤b:=fun b hb=>by
    rcases List.mem_cons.mp hb with rfl | hb
    · exact Nat.le_succ _
    · have eb:b=s1.heap.objs.size:=by simpa using hb
      rw [eb];exact Nat.le_refl _
  exact ⟨s1.heap.objs.size+1,_,_,_,H1,rfl,I2,turn_enum l _ s1.heap.objs.size (Nat.ne_of_gt (Nat.lt_succ_self _)),⟨hit,.none,he⟩,fun b hb=>I1.fpOk (ge b hb) (I1.hok.fresh (ge b hb)),q⟩
theorem for_enum {K:PySem.W.Frag}{a:Addr}{xs:List V}{g:TG}{tb:TS}{D:Ends}{σ:St}{H:Hp}(Pv:Nat→St→Hp→Prop)(h0:Pv 0 σ H)(hl:∀ i σ H,i≤xs.length→Pv i σ H→SqL K H a xs)
    (hs:∀ i x σ H b,xs[i]?=some x→Pv i σ H→H b=none→g (.ref b) σ (upd H b (.tup [.int i,x])) fun σ2 H2=>tb { D with nx:=Pv (i+1),ct:=Pv (i+1),bk:=D.nx } σ2 H2) (hd:∀ σ H,Pv xs.length σ H→D.nx σ H):
    ∃ W:Nat→Nat→St→Hp→Prop,(∃ m,W 0 m σ H)∧∀ i m σ H,W i m σ H→
      ((Ite K a).stop i H∧D.nx σ H)∨((Ite K a).go i H∧∃ N:St→Hp→Prop,(∀ σ' H',N σ' H'→∃ m',m'<m∧W (i+1) m' σ' H')∧∀ x H',(Ite K a).yld i H x H'→g x σ H' fun σ2 H2=>tb { D with nx:=N,ct:=N,bk:=D.nx } σ2 H2):=by
  refine ⟨fun i m σ H=>m=xs.length-i∧i≤xs.length∧Pv i σ H,⟨xs.length,by simp,Nat.zero_le _,h0⟩,?_⟩
  rintro i m σ H ⟨rfl,hi,p⟩
  have q:=hl i σ H hi p
  by_cases hlt:i<xs.length
  · refine .inr ⟨⟨xs,xs[i],q,by simp [hlt]⟩,Pv (i+1),fun σ' H' p'=>⟨xs.length-(i+1),by omega,rfl,hlt,p'⟩,fun x H' y=>?_⟩
    obtain ⟨x0,b,y,hb,rfl,rfl⟩:=y
    exact hs i x0 σ H b (y xs q) p hb
  · have e:i=xs.length:=by omega
    subst e
    exact .inl ⟨⟨xs,q,Nat.le_refl _⟩,hd σ H p⟩
end
section
variable {A:Around}{s:Shared}
end
section
variable {X:Cx}{pins:List (Addr×Obj)}{σ:St}{H:Hp}{s:Shared}
def LsV (K:PySem.W.Frag)(H:Hp)(v:V)(ps:List (Int×Int)):Prop:=∃ a vs,v=.ref a∧SqL K H a vs∧Prs H vs ps
end
end L2
namespace L2
open PySem PySem.Spec PyProof.Rows
structure CompScope2 (X:Cx)(scope:Scope)(cl:List (Str×Addr))(x y:Str)(fv:List Str)(js:List Nat):Prop where
  S:CompScope X scope cl x fv js
  hy:scope.names.lookup y=some .local
  nd:(x::y::fv).Nodup
section
variable {X:Cx}{scope:Scope}{cl:List (Str×Addr)}{x y:Str}{fv:List Str}{js:List Nat}
end
def tComp2 (wi:TI)(g:TG)(js:List Nat)(tt:TT)(te:TE):TE:=fun σ H Q=>wi σ H fun J H1=>∀ D,H1 D=none→∃ W:Nat→Nat→Hp→Prop,(∃ m,W 0 m (upd H1 D (.lst [])))∧∀ i m H,W i m H→
  (J.stop i H∧Q (.ref D) H)∨(J.go i H∧∀ x H' o1 o2,J.yld i H x H'→g x (o1::o2::frv js σ) H' fun σ2 H4=>(∃ v1 v2,σ2=some v1::some v2::frv js σ)∧tt σ2 H4 fun b H2=>
    if b=true then te σ2 H2 fun v H3=>∃ xs,H3 D=some (.lst xs)∧xs.length<sizeLine∧∃ m',m'<m∧W (i+1) m' (upd H3 D (.lst (xs++[v])))
    else ∃ m',m'<m∧W (i+1) m' H2)
section
variable {X:Cx}
def tRev (K:PySem.W.Frag)(te:TE)(tk:TO):TE:=fun σ H Q=>te σ H fun x H1=>tk σ H1 fun k H2=>k=some (-1)∧∃ a xs,x=.ref a∧SqL K H2 a xs∧∀ p,H2 p=none→Q (.ref p) (upd H2 p (.lst xs.reverse))
theorem vals_rev {xs:List V}{us:List Value}(r:Vals xs us):Vals xs.reverse us.reverse:=by
  induction r with
  | nil=>exact .nil
  | cons r _ ih=>
    rw [List.reverse_cons,List.reverse_cons]
    exact Vals.append ih (.cons r .nil)
end
end L2
namespace L2
open PySem PySem.Spec PyProof.Rows
def tPairs:List (TE×TE)→St→Hp→(List (V×V)→Hp→Prop)→Prop
  | [],_,H,Q=>Q [] H
  | (tk,tv)::r,σ,H,Q=>tk σ H fun x H1=>tv σ H1 fun y H2=>tPairs r σ H2 fun ps H3=>Q ((x,y)::ps) H3
abbrev VV:List (V×V)→List (Value×Value)→Prop:=Paired fun p q=>RelV p.1 q.1∧RelV p.2 q.2
def PPs (X:Cx)(pos:Pos)(keys:List (Option Expr))(values:List Expr)(trs:List (TE×TE)):Prop:=
  ∀ (pins:List (Addr×Obj)) (s:Shared) (σ:St) (H:Hp) (Q:List (V×V)→Hp→Prop),Inv X pins σ H s→tPairs trs σ H Q→
    wpAny (model X.prog X.w) X.A (evalPairs (pairTrees keys values X.env pos)) (fun vs s'=>∃ ps H',Inv X pins σ H' s'∧VV ps vs∧Q ps H') X.xe s
def mergeK (kvs more:List (Key×V)):List (Key×V):=more.foldl (fun acc kv=>putK acc kv.1 kv.2) kvs
def tDisp (trs:List (TE×TE)):TE:=fun σ H Q=>∀ p,H p=none→tPairs trs σ (upd H p (.dK [])) fun ps H2=>H2 p=some (.dK [])∧∃ kvs:List (Key×V),ps=kvs.map (fun kv=>(kV kv.1,kv.2))∧kvs.length≤15∧Q (.ref p) (upd H2 p (.dK (mergeK [] kvs)))
structure M1 (X:Cx)(o:Expr)(m:Str)(apos:Pos)(e:Expr)(cpos:Pos):Prop where
  base:attributeBase o m X.env (eval o X.env)=eval o X.env
  few:((backTo cpos (starEach [e] X.env)).all (fun x=>!x.1)&&(backToKw cpos (keywordEach [] X.env)).all (fun x=>x.1.isSome)
    && decide (([e]:List Expr).length+([]:List Keyword).length+(if ([]:List Keyword).isEmpty then 0 else 1)<30))=true
  line:(apos.endLine==cpos.line)=true
  trees:backTo cpos (starEach [e] X.env)=[(false,eval e X.env)]
structure M2 (X:Cx)(o:Expr)(m:Str)(apos:Pos)(e f:Expr)(cpos:Pos):Prop where
  base:attributeBase o m X.env (eval o X.env)=eval o X.env
  few:((backTo cpos (starEach [e,f] X.env)).all (fun x=>!x.1)&&(backToKw cpos (keywordEach [] X.env)).all (fun x=>x.1.isSome)
    && decide (([e,f]:List Expr).length+([]:List Keyword).length+(if ([]:List Keyword).isEmpty then 0 else 1)<30))=true
  line:(apos.endLine==cpos.line)=true
  trees:backTo cpos (starEach [e,f] X.env)=[(false,eval e X.env),(false,eval f X.env)]
def IsD (H:Hp)(a:Addr):Prop:=(∃ kvs,Rd H a (.dK kvs))∨∃ kvs,Rd H a (.dT kvs)
theorem isD_at {X:Cx}{pins:List (Addr×Obj)}{σ:St}{H:Hp}{s:Shared}{a:Addr}(I:Inv X pins σ H s)(d:IsD H a):
    s.TypeIs (.ref a) "dict"∧(∀ b,Value.ref a=.ref b→∃ ob,s.heap.get? b=some ob∧ob.dict=none)∧(a==sysModules)=false:=by
  rcases d with ⟨kvs,e⟩ | ⟨kvs,e⟩
  · obtain ⟨_,hd,vs,_,dd⟩:=dk_rd I.hok e
    refine ⟨dd.typeIs,fun b q=>?_,hd⟩
    cases q
    obtain ⟨ob,_,_,h1,h2,_⟩:=dd
    exact ⟨ob,h1,h2.2.1⟩
  · obtain ⟨_,hd,xs,_,dd⟩:=dt_rd I.hok e
    refine ⟨dd.typeIs,fun b q=>?_,hd⟩
    cases q
    obtain ⟨ob,_,_,h1,h2,_⟩:=dd
    exact ⟨ob,h1,h2.2.1⟩
section
variable {X:Cx}{pins:List (Addr×Obj)}{σ:St}{H:Hp}{s:Shared}{a:Addr}{y d:V}{u r:Value}{o:Option V}{A:Around}{E:Value→Shared→Prop}
theorem d_get2 {Q:Value→Shared→Prop}(hu:A.units+1<cLine)(I:Inv X pins σ H s)(g:DGet H a y o)(ry:RelV y u)(rd:RelV d r)(h:∀ w' s',Inv X pins σ H s'→RelV (o.getD d) w'→Q w' s'):
    wpAny (model X.prog X.w) A (call (.builtin "dict.get") [.ref a,u,r]) Q E s:=by
  rcases g with ⟨kvs,k,e,ey,l⟩ | ⟨kvs,k,b,e,ey,eb,l⟩
  · subst ey
    obtain ⟨z,hd,vs,rel,dd⟩:=dk_rd I.hok e
    refine call_meetsIn PySem.F.slot_dict_get dd.typeIs PySem.F.entry_dict_get (PySem.F.args_dict_get_3 _ _ _) (meets_dict_get_default (mixKind X.prog X.w) a (kV_is ry) hd r) ⟨_,dd.mapOf,h _ _ (I.tok _) ?_⟩
    rw [l]
    exact (rel.val k).getD rd
  · subst ey
    cases (show u=Value.ref b from ry)
    obtain ⟨z,hd,xs,rel,dd⟩:=dt_rd I.hok e
    refine call_meetsIn PySem.F.slot_dict_get dd.typeIs PySem.F.entry_dict_get (PySem.F.args_dict_get_3 _ _ _) (meetsH_dict_get_default (tupleKind (mixKind X.prog X.w)) a b hd r) ⟨tupleKind_room_in1 hu,k,xs,key_of I.hok eb,dd,h _ _ (I.tok _) ?_⟩
    rw [l]
    exact (rel.val k).getD rd
end
def tDGet1 (td ty:TE):TE:=fun σ H Q=>td σ H fun x H1=>∃ a,x=.ref a∧IsD H1 a∧ty σ H1 fun y H2=>∃ o,DGet H2 a y o∧Q (o.getD .non) H2
def tDGet2 (td ty tx:TE):TE:=fun σ H Q=>td σ H fun x H1=>∃ a,x=.ref a∧IsD H1 a∧ty σ H1 fun y H2=>tx σ H2 fun z H3=>∃ o,DGet H3 a y o∧Q (o.getD z) H3
def tDPop1 (td ty:TE):TE:=fun σ H Q=>td σ H fun x H1=>∃ a,x=.ref a∧IsD H1 a∧ty σ H1 fun y H2=>∃ kvs k v,H2 a=some (.dK kvs)∧y=kV k∧valV kvs k=some v∧Q v (upd H2 a (.dK (dropK kvs k)))
def tDPop2 (td ty tx:TE):TE:=fun σ H Q=>td σ H fun x H1=>∃ a,x=.ref a∧IsD H1 a∧ty σ H1 fun y H2=>tx σ H2 fun z H3=>∃ kvs k,H3 a=some (.dK kvs)∧y=kV k∧
  (∀ v,valV kvs k=some v→Q v (upd H3 a (.dK (dropK kvs k))))∧(valV kvs k=none→Q z H3)
section
variable {X:Cx}{o e f:Expr}{apos cpos:Pos}{td ty tx:TE}
theorem pe_dget2 (hu:X.A.units+1<cLine)(ho:PE X o td)(he:PE X e ty)(hf:PE X f tx)(m:M2 X o "get" apos e f cpos):PE X (.Call (.Attribute o "get" apos) [e,f] [] cpos) (tDGet2 td ty tx):=by
  intro pins s σ H Q I h
  refine wpAny_Call_method m.base m.few m.line PySem.F.plainAttrs_dict PySem.F.slot_dict_get PySem.F.type_dict_get (thn (ho pins s σ H _ I h) fun u s1 ⟨x,H1,I1,rx,a,ex,d,q1⟩=>?_)
  subst ex
  obtain rfl:u=Value.ref a:=rx
  obtain ⟨t1,t2,_⟩:=isD_at I1 d
  refine ⟨t1,t2,?_⟩
  rw [m.trees]
  refine Calls.callWith_builtin rfl (Calls.evalArgs_plain (Calls.spliced_cons (thn (he pins s1 σ H1 _ I1 q1) fun iv s2 ⟨y,H2,I2,ry,q2⟩=>
    Calls.spliced_cons (thn (hf pins s2 σ H2 _ I2 q2) fun fv s3 ⟨z,H3,I3,rz,ov,g,q3⟩=>Calls.spliced_nil ?_))))
  exact d_get2 hu I3 g ry rz fun w' s4 I4 rw'=>⟨_,H3,I4,rw',q3⟩
end
end L2
namespace L2
open PySem PySem.Spec PyProof.Rows
def isTx (z:Str):Value→Bool
  | .str y _=>y==z
  | _=>false
section
variable {X:Cx}
end
end L2
namespace L2
open PySem PySem.Spec PyProof.Rows
def EntOk (w:World)(kv:Key×V)(e:DictEntry):Prop:=keyIs kv.1 e.key=true∧e.hash=keyH w kv.1∧RelV kv.2 e.val
def DicO (w:World)(o:Obj)(kvs:List (Key×V)):Prop:=o.ExactDict∧∃ es ep,o.data=.dict es ep∧Paired (EntOk w) kvs es.toList∧(kvs.map (·.1)).Nodup
def KDic (w:World)(K:PySem.W.Frag)(a:Addr)(kvs:List (Key×V)):Prop:=∃ ob,K.lookup a=some ob∧DicO w ob kvs∧(a==sysModules)=false
theorem ent_all {P:Program}{w:World}:∀ {kvs:List (Key×V)} {es:List DictEntry},Paired (EntOk w) kvs es→∃ vs:List (Key×Value),KV kvs vs∧Pairs (mixKind P w) es vs∧vs.map (·.1)=kvs.map (·.1)∧∀ e∈es,∃ k,(mixKind P w).is k e.key=true∧e.hash=(mixKind P w).hash k
  | _,_,.nil=>⟨[],.nil,.nil,rfl,fun _ h=>nomatch h⟩
  | (kv::_),(e::_),.cons r t=>by
    obtain ⟨vs,h1,h2,h3,h4⟩:=ent_all (P:=P) t
    obtain ⟨q1,q2,q3⟩:=r
    refine ⟨(kv.1,e.val)::vs,.cons ⟨rfl,q3⟩ h1,.cons q1 rfl h2,by rw [List.map_cons,List.map_cons,h3],fun x hx=>?_⟩
    rcases List.mem_cons.mp hx with z | z
    · rw [z];exact ⟨kv.1,q1,q2⟩
    · exact h4 x z
section
variable {X:Cx}{pins:List (Addr×Obj)}{σ:St}{H:Hp}{s:Shared}{a:Addr}{kvs:List (Key×V)}
theorem KDic.at (I:Inv X pins σ H s)(d:KDic X.w X.K a kvs):∃ vs,KV kvs vs∧s.heap.DictOf (mixKind X.prog X.w) a vs∧∃ ob,s.heap.get? a=some ob∧ob.dict=none:=by
  obtain ⟨ob,hk,⟨hx,es,ep,hd,hp,hn⟩,_⟩:=d
  obtain ⟨vs,h1,h2,h3,h4⟩:=ent_all (P:=X.prog) hp
  refine ⟨vs,h1,⟨ob,es,ep,I.kIn a ob hk,hx,hd,fun e he=>h4 e (Array.mem_def.mp he),h2,by rw [h3];exact hn⟩,ob,I.kIn a ob hk,hx.2.1⟩
end
def GDic (w:World)(K:PySem.W.Frag)(mg:Str→Option Value)(x:Str)(kvs:List (Key×V)):Prop:=∃ a,mg x=some (.ref a)∧KDic w K a kvs
def tGD (w:World)(K:PySem.W.Frag)(kvs:List (Key×V)):TE:=fun _ H Q=>∀ a,KDic w K a kvs→Q (.ref a) H
def GDit (w:World)(K:PySem.W.Frag)(mg:Str→Option Value)(x:Str)(kts:List (Key×List V)):Prop:=∃ kvs,GDic w K mg x kvs∧Paired (fun (kv:Key×V) (kt:Key×List V)=>kv.1=kt.1∧∃ a,kv.2=.ref a∧∀ H,SqT K H a kt.2) kvs kts
def tGT2 (w:World)(K:PySem.W.Frag)(kts:List (Key×List V)):TE:=fun _ H Q=>∀ a kvs,KDic w K a kvs→Paired (fun (kv:Key×V) (kt:Key×List V)=>kv.1=kt.1∧∃ a,kv.2=.ref a∧∀ H,SqT K H a kt.2) kvs kts→Q (.ref a) H
theorem pe_gdit {X:Cx}{x:Str}{kts:List (Key×List V)}{pos:Pos}(hm:GDit X.w X.K X.mg x kts)(hg:Gl X x:=by rfl)(hd:(x==("__debug__":Str))=false:=by decide):PE X (.Name x pos) (tGT2 X.w X.K kts):=by
  obtain ⟨kvs,⟨a,h,k⟩,p⟩:=hm
  intro pins s σ H Q I q
  exact ld_glob I hg h ⟨.ref a,H,I,rfl,q a kvs k p⟩ hd
section
variable {X:Cx}{o i e f:Expr}{pos apos cpos:Pos}{td ty te tf:TE}
def tKGet (w:World)(K:PySem.W.Frag)(td ty:TE):TE:=fun σ H Q=>td σ H fun x H1=>ty σ H1 fun y H2=>∃ a kvs k v,x=.ref a∧KDic w K a kvs∧y=kV k∧valV kvs k=some v∧Q v H2
def tKGet2 (w:World)(K:PySem.W.Frag)(td ty tx:TE):TE:=fun σ H Q=>td σ H fun x H1=>∃ a kvs,x=.ref a∧KDic w K a kvs∧ty σ H1 fun y H2=>tx σ H2 fun z H3=>∃ k,y=kV k∧Q ((valV kvs k).getD z) H3
theorem pe_kget2 (ho:PE X o td)(he:PE X e te)(hf:PE X f tf)(m:M2 X o "get" apos e f cpos):PE X (.Call (.Attribute o "get" apos) [e,f] [] cpos) (tKGet2 X.w X.K td te tf):=by
  intro pins s σ H Q I h
  refine wpAny_Call_method m.base m.few m.line PySem.F.plainAttrs_dict PySem.F.slot_dict_get PySem.F.type_dict_get (thn (ho pins s σ H _ I h) fun u s1 ⟨x,H1,I1,rx,a,kvs,ex,d,q1⟩=>?_)
  subst ex
  obtain rfl:u=Value.ref a:=rx
  obtain ⟨_,_,dd,ob,hob,hno⟩:=d.at I1
  refine ⟨dd.typeIs,fun b q=>by cases q;exact ⟨ob,hob,hno⟩,?_⟩
  rw [m.trees]
  refine Calls.callWith_builtin rfl (Calls.evalArgs_plain (Calls.spliced_cons (thn (he pins s1 σ H1 _ I1 q1) fun iv s2 ⟨y,H2,I2,ry,q2⟩=>
    Calls.spliced_cons (thn (hf pins s2 σ H2 _ I2 q2) fun fv s3 ⟨z,H3,I3,rz,k,ey,q3⟩=>Calls.spliced_nil ?_))))
  subst ey
  obtain ⟨vs3,rel3,dd3,_⟩:=d.at I3
  refine call_meetsIn PySem.F.slot_dict_get dd3.typeIs PySem.F.entry_dict_get (PySem.F.args_dict_get_3 _ _ _) (meets_dict_get_default (mixKind X.prog X.w) a (kV_is ry) d.choose_spec.2.2 fv) ⟨_,dd3.mapOf,?_⟩
  exact ⟨_,H3,I3.tok _,(rel3.val k).getD rz,q3⟩
def rIns1:V→List V→Hp→VK→Prop:=fun x vs H Q=>∃ l x0 xs y,x=.ref l∧vs=[.int 1,y]∧H l=some (.lst (x0::xs))∧xs.length+2≤sizeLine∧Q .non (upd H l (.lst (x0::y::xs)))
end
end L2
namespace L2
open PySem PySem.Spec PyProof.Rows
section
variable {prog:Program}{w:World}{A:Around}{E:Value→Shared→Prop}{s:Shared}
end
abbrev zT1 (h:Heap)(l1:Addr):Heap:=h.push { cls:=.type "tuple_iterator",data:=.fields #[.ref l1,.int 0 0] }
abbrev zT2 (h:Heap)(l1 l2:Addr):Heap:=(zT1 h l1).push { cls:=.type "list_iterator",data:=.fields #[.ref l2,.int 0 0] }
abbrev zT3 (h:Heap)(l1 l2:Addr):Heap:=(zT2 h l1 l2).push { cls:=.type "tuple",data:=.seq #[.ref h.objs.size,.ref (zT1 h l1).objs.size] }
abbrev zT4 (h:Heap)(l1 l2:Addr):Heap:=(zT3 h l1 l2).push { cls:=.type "tuple",data:=.seq #[.none,.none] }
abbrev zT5 (h:Heap)(l1 l2:Addr):Heap:=(zT4 h l1 l2).push { cls:=.type "zip",data:=.fields #[.none,.bool false,.bool false,.ref (zT2 h l1 l2).objs.size,.ref (zT3 h l1 l2).objs.size] }
section
variable {prog:Program}{w:World}{A:Around}{E:Value→Shared→Prop}{s:Shared}
end
theorem mids {h h2:Heap}:∀ fs:List Addr,(∀ b∈fs,∃ o,h.get? b=some o)→(∀ b∈fs,∃ o,h2.get? b=some o∧o.isFreed=false)→
    ∃ mid:Heap,mid.objs.size=h.objs.size∧(∀ b∈fs,mid.get? b=h2.get? b)∧∀ b,b∉fs→mid.get? b=h.get? b
  | [],_,_=>⟨h,rfl,(fun _ hb=>nomatch hb),fun _ _=>rfl⟩
  | b::fs,h1,h2'=>by
    obtain ⟨m,e1,e2,e3⟩:=mids fs (fun c hc=>h1 c (List.mem_cons_of_mem _ hc)) (fun c hc=>h2' c (List.mem_cons_of_mem _ hc))
    obtain ⟨o,ho,hf⟩:=h2' b (by simp)
    obtain ⟨o1,ho1⟩:∃ o1,m.get? b=some o1:=by
      by_cases c:b∈fs
      · exact ⟨o,(e2 b c).trans ho⟩
      · obtain ⟨o1,q⟩:=h1 b (by simp)
        exact ⟨o1,(e3 b c).trans q⟩
    have hb:(m.update b fun _=>o).get? b=some o:=Heap.get?_update_self (fun _=>o) ho1 hf
    refine ⟨m.update b fun _=>o,(Heap.size_update ..).trans e1,fun c hc=>?_,fun c hc=>?_⟩
    · by_cases e:c=b
      · subst e;exact hb.trans ho.symm
      · rw [Heap.get?_update_ne _ _ _ _ e]
        rcases List.mem_cons.mp hc with z | z
        · exact absurd z e
        · exact e2 c z
    · have e:c≠b:=fun z=>hc (by simp [z])
      rw [Heap.get?_update_ne _ _ _ _ e]
      exact e3 c fun z=>hc (List.mem_cons_of_mem _ z)
section
variable {X:Cx}{pins:List (Addr×Obj)}{σ:St}{H:Hp}{s:Shared}{h':Heap}
theorem Inv.turnedL {t':Nat}{fs:List Addr}(I:Inv X pins σ H s)(k:∀ b o,b∉fs→s.heap.get? b=some o→h'.get? b=some o)(ok:∀ b∈fs,FpOk X pins H b):Inv X pins σ H { s with heap:=h',toks:=t' }:=by
  have nit:∀ b u,H b=some u→b∉fs:=fun b u e z=>by rw [(ok b z).1] at e;cases e
  refine I.step (g':=s.gens) (d':=s.drawn) (ch:=fs) (fun b hb=>?_) (fun b o _ _ hc e _=>k b o hc e) (fun b o _ _ hc e _=>⟨o.slots,k b o hc e⟩) (fun _ _ _ _ n=>n)
    (fun b o hc e=>⟨o,k b o hc e⟩) (fun _ _ e=>e) (fun _ _ _ e=>e) (fun b ps e=>⟨#[],by rw [e];simp⟩) (fun m hm=>?_) (fun b u e=>?_) I.bare
  · obtain ⟨f0,f1,f2,f3,f4,f5⟩:=ok b hb
    exact ⟨f3,f1,f4,f5⟩
  · obtain ⟨o,es,ep,ho,r⟩:=hm
    exact ⟨o,es,ep,k _ o (fun z=>(ok _ z).2.1 rfl) ho,r⟩
  · refine (I.hok b u e).stay (fun c v hc q=>k c v ?_ q) (fun _ q=>q) fun _ _ q=>q
    rcases hc with z | z
    · rw [z];exact nit b u e
    · exact nit c _ z
end
def Itz (K:PySem.W.Frag)(t l:Addr):It:=
  ⟨fun i H=>∃ xs ys x y,SqT K H t xs∧SqL K H l ys∧xs[i]?=some x∧ys[i]?=some y,
   fun i H v H'=>∃ x y b,(∀ xs,SqT K H t xs→xs[i]?=some x)∧(∀ ys,SqL K H l ys→ys[i]?=some y)∧H b=none∧v=.ref b∧H'=upd H b (.tup [x,y]),
   fun i H=>∃ xs ys,SqT K H t xs∧SqL K H l ys∧(xs.length≤i∨ys.length≤i)⟩
section
variable {X:Cx}
def iZip (K:PySem.W.Frag)(ta:TA):TI:=fun σ H R=>ta σ H fun vs H1=>∃ t l,vs=[V.ref t,V.ref l]∧(∃ xs,SqT K H1 t xs)∧(∃ ys,SqL K H1 l ys)∧R (Itz K t l) H1
end
section
variable {X:Cx}
end
inductive TrEq (H:Hp):Nat→V→V→Prop where
  | fl {n:Nat} {x:V} (h:flatV x=true):TrEq H n x x
  | rf {n:Nat} {a:Addr}:TrEq H n (.ref a) (.ref a)
  | tp {n:Nat} {a b:Addr} {xs ys:List V} (h1:H a=some (.tup xs)) (h2:H b=some (.tup ys)) (hl:xs.length=ys.length)
      (hh:∀ (j:Nat) (u v:V),xs[j]?=some u→ys[j]?=some v→TrEq H n u v):TrEq H (n+1) (.ref a) (.ref b)
theorem eqV_self {x:V}(h:flatV x=true):eqV x x=true:=by
  cases x <;> first | rfl | exact absurd (show false=true from h) Bool.false_ne_true | simp [eqV]
section
variable {X:Cx}{pins:List (Addr×Obj)}{σ:St}{H:Hp}{s:Shared}
theorem range_all {n:Nat}:(List.range n).all (fun _=>true)=true:=by simp
theorem tr_items (I:Inv X pins σ H s){n:Nat}{A:Around}{xs ys:List V}{us vs:List Value}(r1:Vals xs us)(r2:Vals ys vs)
    (ih:∀ (j:Nat) (u v:V),xs[j]?=some u→ys[j]?=some v→∀ u' v',RelV u u'→RelV v v'→SeqAt.EqAt A s u' v' true):
    ∀ j (h1:j<us.toArray.size) (h2:j<vs.toArray.size),SeqAt.EqAt A s us.toArray[j] vs.toArray[j] ((fun _=>true) j):=by
  intro j h1 h2
  have l1:=r1.length
  have l2:=r2.length
  rw [List.size_toArray] at h1 h2
  have ex:xs[j]?=some (xs[j]'(by omega)):=List.getElem?_eq_getElem _
  have ey:ys[j]?=some (ys[j]'(by omega)):=List.getElem?_eq_getElem _
  obtain ⟨u,hu',ru⟩:=r1.get ex
  obtain ⟨v,hv',rv⟩:=r2.get ey
  have eu:us.toArray[j]'(by simpa using h1)=u:=by
    rw [List.getElem?_eq_getElem h1] at hu'
    simpa using Option.some.inj hu'
  have ev:vs.toArray[j]'(by simpa using h2)=v:=by
    rw [List.getElem?_eq_getElem h2] at hv'
    simpa using Option.some.inj hv'
  rw [eu,ev]
  exact ih j _ _ ex ey u v ru rv
theorem TrEq.at (I:Inv X pins σ H s){n:Nat}{x y:V}(h:TrEq H n x y):∀ {A:Around} {u v:Value},A.units+n<cLine→RelV x u→RelV y v→SeqAt.EqAt A s u v true:=by
  induction h with
  | fl hf=>
    intro A u v _ rx ry
    have:=eqAt_V (A:=A) (s:=s) rx ry hf hf
    rw [eqV_self hf] at this
    exact this
  | rf=>
    intro A u v _ rx ry
    cases rx
    cases ry
    exact SeqAt.EqAt.same _
  | @tp n a b xs ys h1 h2 hl hh ih=>
    intro A u v hu rx ry
    cases rx
    cases ry
    by_cases e:a=b
    · subst e;exact SeqAt.EqAt.same _
    obtain ⟨its,r1,p,_⟩:=I.tuple (SqT.of h1)
    obtain ⟨its2,r2,p2,_⟩:=I.tuple (SqT.of h2)
    have rc:=SeqAt.RcAt.tuples (A:=A) (s:=s) (e:=fun _=>true) (show s.heap.IsTuple a its.toArray from p) (show s.heap.IsTuple b its2.toArray from p2) (by omega)
      (tr_items I (n:=n) r1 r2 fun j u v e1 e2 u' v' ru rv=>ih j u v e1 e2 (A:=A.in1) (show A.units+1+n<cLine by omega) ru rv)
    rw [List.size_toArray,List.size_toArray,← r1.length,← r2.length,range_all,hl] at rc
    exact SeqAt.EqAt.of_refs e (by simpa using rc)
end
end L2
namespace L2
open PySem PySem.Spec PyProof.Rows
section
variable {prog:Program}{w:World}{A:Around}{E:Value→Shared→Prop}{s:Shared}
theorem lri_len:typeLookup (.type "list_reverseiterator") "__len__"=pure none:=by rw [typeLookup_type,builtinLookup_eq_fast];kernel_rfl
theorem lri_hint:typeLookup (.type "list_reverseiterator") "__length_hint__"=pure (some (.builtin "list_reverseiterator.__length_hint__")):=by rw [typeLookup_type,builtinLookup_eq_fast];kernel_rfl
theorem hint_rev {it l:Addr}{i:Int}{Q:Bool→Shared→Prop}(hit:s.heap.IsRevIter it l i)(h:Q false s):wpAny (model prog w) A (Builtin.List.listLengthHint (.ref it)) Q E s:=by
  unfold Builtin.List.listLengthHint
  refine wpAny_bind (wpAny_specialOf hit.typeIs lri_len ?_)
  wp_delta
  refine wpAny_ite_split (fun hab=>absurd hab (by decide +kernel)) (fun _=>?_)
  refine wpAny_ite_split (fun hab=>absurd hab (by decide)) (fun _=>?_)
  refine wpAny_bind (wpAny_specialOf hit.typeIs lri_hint ?_)
  generalize hid:("list_reverseiterator.__length_hint__":String)=id0
  wp_delta
  rw [show splitId id0=some ("list_reverseiterator","__length_hint__") from by subst hid;decide +kernel]
  subst hid
  refine wpAny_bind (wpAny_isInstance (T:="list_reverseiterator") (b:=true) hit.typeIs (by rw [isSubtype_type];kernel_rfl) ?_)
  refine wpAny_ite_split (fun hab=>absurd hab (by decide)) (fun _=>?_)
  refine wpAny_ite_split (fun _=>?_) (fun hab=>absurd (by decide +kernel) hab)
  refine wpAny_ite_split (fun hab=>absurd hab (by decide +kernel)) (fun _=>?_)
  exact wpAny_pure h
end
end L2
namespace L2
open PySem PySem.Spec PyProof.Rows
section
variable {prog:Program}{w:World}{A:Around}{E:Value→Shared→Prop}{s:Shared}
theorem extend_rev {R:Result→Shared→Prop}{it l:Addr}{items:Array Value}(hh:A.handled=none)(hit:s.heap.IsRevIter it l ((items.size:Int)-1))(hl:s.heap.IsList l items)(hne:l≠it)(hn:items.size≤sizeLine)
    (S:Addr) (hSi:S≠it) (hSl:S≠l) (res:Value) (c₀:Nat) (hS:s.heap.get? S=some { cls:=.type "list",data:=.seq #[] c₀ })
    (hR:∀ h' tk acc' c',(∀ b o,b≠S→b≠it→s.heap.get? b=some o→h'.get? b=some o)→h'.get? S=some { cls:=.type "list",dict:=none,data:=.seq acc' c',slots:=#[] }→
      ItemsOf (fun i v=>items[items.size-1-i]?=some v) acc' items.size→R (.ok (.ret res)) { s with heap:=h',toks:=tk }):
    wpAny (model prog w) A.in1 (Builtin.List.listExtendWith (.ref S) (.ref it) res)
      (fun fin s'=>match fin with | .done f=>R (.ok f) s' | .again c'=>c'.quiet=true∧codeAny (model prog w) A c' R s') (fun e s'=>R (.error e) s') s:=by
  have hSf:S∉[it,l]:=fun hm=>by
    rcases List.mem_cons.mp hm with e | hm
    · exact hSi e
    · exact hSl (List.mem_singleton.mp hm)
  have W:=(Walks.listRev (prog:=prog) (w:=w) (A:=A.in1) hh it l hne items).toS
  unfold Builtin.List.listExtendWith
  refine wpAny_bind (wpAny_typeOf (T:="list_reverseiterator") hit.typeIs ?_)
  have h1:Builtin.List.listSameRef (.ref S) (.ref it)=false:=by simp [Builtin.List.listSameRef,hSi]
  have h2:(Value.type "list_reverseiterator"==Value.type "list")=false:=by decide
  have h3:(Value.type "list_reverseiterator"==Value.type "tuple")=false:=by decide
  simp only [h1,h2,h3,Bool.or_false,Bool.false_eq_true,if_false]
  refine wpAny_bind (wpAny_pyIter_revIter hit ?_)
  refine wpAny_bind (wpAny_holding (hint_rev hit ?_))
  rw [if_neg (by decide +kernel)]
  have e0:(items.size:Int)-1-((0:Nat):Int)=(items.size:Int)-1:=by omega
  refine wpAny_pure ⟨plainId_quiet F.plain_extend_loop _,codeAny_extend_loopS W hn S hSf res items.size 0 s #[] c₀ rfl (Nat.zero_le _) ⟨Nat.zero_le _,by rw [e0];exact hit,hl⟩ hS (ItemsOf.nil _) fun s' acc' c' hm hS' hacc=>?_⟩
  rw [Moved.eq_with hm]
  refine hR s'.heap s'.toks acc' c' (fun b o hb hb2 e=>hm.heap b o (fun hmem=>?_) e) hS' hacc
  rcases List.mem_cons.mp hmem with e' | hmem
  · exact hb e'
  · exact hb2 (List.mem_singleton.mp hmem)
theorem list_init_rev {R:Result→Shared→Prop}{it l:Addr}{items:Array Value}(hh:A.handled=none)(hit:s.heap.IsRevIter it l ((items.size:Int)-1))(hl:s.heap.IsList l items)(hne:l≠it)(hn:items.size≤sizeLine)
    (S:Addr) (hSi:S≠it) (hSl:S≠l) (hS:s.heap.get? S=some { cls:=.type "list",data:=.seq #[] })
    (hR:∀ h' tk acc' c',(∀ b o,b≠S→b≠it→s.heap.get? b=some o→h'.get? b=some o)→h'.get? S=some { cls:=.type "list",dict:=none,data:=.seq acc' c',slots:=#[] }→
      ItemsOf (fun i v=>items[items.size-1-i]?=some v) acc' items.size→R (.ok (.ret .none)) { s with heap:=h',toks:=tk }):
    wpAny (model prog w) A.in1 (Builtin.«list.__init__» ⟨[.ref S,.ref it],[]⟩)
      (fun fin s'=>match fin with | .done f=>R (.ok f) s' | .again c'=>c'.quiet=true∧codeAny (model prog w) A c' R s') (fun e s'=>R (.error e) s') s:=by
  show wpAny _ _ (do let old ← Builtin.List.listItems (.ref S);Builtin.List.listUpdate (.ref S) (fun _=>#[]);letGo old.toList.reverse;Builtin.List.listExtendWith (.ref S) (.ref it) .none) _ _ s
  refine wpAny_bind ?_
  unfold Builtin.List.listItems
  refine wpAny_bind (wpAny_seqItems hS rfl (wpAny_pure ?_))
  show wpAny _ _ (updateSeq S (fun _=>#[]) >>= fun _=>letGo (#[]:Array Value).toList.reverse >>= fun _=>Builtin.List.listExtendWith (.ref S) (.ref it) .none) _ _ s
  refine wpAny_bind (wpAny_updateSeq hS rfl ?_)
  have hS₂:=Heap.get?_update_self (Obj.mapSeq (fun _=>(#[]:Array Value))) hS rfl
  have oth:∀ b o,b≠S→s.heap.get? b=some o→(s.heap.update S (Obj.mapSeq (fun _=>(#[]:Array Value)))).get? b=some o:=
    fun b o hb e=>(Heap.get?_update_other _ _ (Ne.symm hb)).trans e
  refine wpAny_bind (wpAny_letGo ?_)
  refine extend_rev hh (hit.at fun o e=>oth _ o (Ne.symm hSi) e) (hl.at fun o e=>oth _ o (Ne.symm hSl) e) hne hn S hSi hSl .none _ hS₂ fun h' tk acc' c' hk hS' hacc=>?_
  exact hR h' tk acc' c' (fun b o hb hb2 e=>hk b o hb hb2 (oth b o hb e)) hS' hacc
theorem call_list_rev {Q:Value→Shared→Prop}{it l:Addr}{items:Array Value}(hh:A.handled=none)(hit:s.heap.IsRevIter it l ((items.size:Int)-1))(hl:s.heap.IsList l items)(hne:l≠it)(hn:items.size≤sizeLine)
    (hQ:∀ h' tk acc' c',(∀ b o,b≠it→s.heap.get? b=some o→h'.get? b=some o)→
      h'.get? s.heap.objs.size=some { cls:=.type "list",dict:=none,data:=.seq acc' c',slots:=#[] }→ItemsOf (fun i v=>items[items.size-1-i]?=some v) acc' items.size→Q (.ref s.heap.objs.size) { s with heap:=h',toks:=tk }):
    wpAny (model prog w) A (call (.type "list") [.ref it]) Q E s:=by
  refine callType_codes (Q₁:=fun obj s₁=>obj=.ref s.heap.objs.size∧s₁={ s with heap:=s.heap.push { cls:=.type "list",data:=.seq #[] } }) F.called_list (F.typeCall_list_1 _) F.entry_list_init
    (code_list_new _ ⟨rfl,rfl⟩) fun obj s₁ h₁=>?_
  obtain ⟨rfl,rfl⟩:=h₁
  have hS:(s.heap.push { cls:=.type "list",data:=.seq #[] }).get? s.heap.objs.size=some { cls:=.type "list",data:=.seq #[] }:=Heap.get?_push_size _ rfl
  have i1:s.heap.objs.size≠it:=by obtain ⟨o,q,_⟩:=hit;exact Nat.ne_of_gt (Heap.lt_size q)
  have i2:s.heap.objs.size≠l:=by obtain ⟨o,q,_⟩:=hl;exact Nat.ne_of_gt (Heap.lt_size q)
  refine ⟨⟨_,hS,rfl⟩,F.args_list_init_2 _ _,list_init_rev (A:=A.in1) hh (hit.at fun o e=>Heap.get?_push_of_some _ e) (hl.at fun o e=>Heap.get?_push_of_some _ e) hne hn _ i1 i2 hS fun h' tk acc' c' hk hS' hacc=>?_⟩
  exact ⟨rfl,hQ h' tk acc' c' (fun b o hb e=>hk b o (Nat.ne_of_lt (Heap.lt_size e)) hb (Heap.get?_push_of_some _ e)) hS' hacc⟩
end
end L2
namespace L2
open PySem PySem.Spec PyProof.Rows
theorem items_rev {its:List Value}{acc:Array Value}(h:ItemsOf (fun i v=>its.toArray[its.toArray.size-1-i]?=some v) acc its.toArray.size):acc=its.reverse.toArray:=by
  obtain ⟨h1,h2⟩:=h
  apply Array.ext'
  rw [List.toList_toArray]
  apply List.ext_getElem?
  intro j
  have hz:acc.toList.length=its.length:=by rw [Array.length_toList,h1,List.size_toArray]
  by_cases c:j<its.length
  · have hj:acc[j]?=some (acc[j]'(by rw [h1,List.size_toArray];exact c)):=Array.getElem?_eq_getElem _
    have e:=h2 j _ hj
    rw [List.getElem?_reverse c,Array.getElem?_toList,hj,← e]
    simp
  · rw [List.getElem?_eq_none (by omega),List.getElem?_eq_none (by rw [List.length_reverse];omega)]
section
variable {X:Cx}
def tLRev (K:PySem.W.Frag)(te:TE):TE:=fun σ H Q=>te σ H fun x H1=>∃ a xs,x=.ref a∧SqL K H1 a xs∧∀ l,H1 l=none→Q (.ref l) (upd H1 l (.lst xs.reverse))
theorem bt_reversed:bootBuiltins "reversed"=some (.type "reversed"):=by decide +kernel
theorem pe_listrev {e:Expr}{te:TE}{p p2 pos pos2:Pos}(hc:X.calm=true)(hg:Gl X "list")(hm:X.mg "list"=none)(hv:bootBuiltins "list"=some (.type "list"))(hg2:Gl X "reversed")(hm2:X.mg "reversed"=none)(he:PE X e te)
    (hs:starEach [e] X.env=(false,eval e X.env)::starEach [] X.env:=by rfl):
    PE X (.Call (.Name "list" p) [.Call (.Name "reversed" p2) [e] [] pos2] [] pos) (tLRev X.K te):=by
  intro pins s σ H Q I h
  refine wpAny_Call_Name_kw (ld_blt I hg hm hv ?_)
  refine PyProof.Rows.callWith_type1 ?_ rfl rfl
  show wpAny _ _ (spliced ((false,eval (.Call (.Name "reversed" p2) [e] [] pos2) X.env)::backTo pos (starEach [] X.env))) _ _ s
  refine Calls.spliced_cons ?_
  refine wpAny_Call_Name_kw (ld_blt I hg2 hm2 bt_reversed ?_)
  refine PyProof.Rows.callWith_type1 ?_ hs rfl
  rw [hs]
  show wpAny _ _ (spliced ((false,eval e X.env)::backTo pos2 (starEach [] X.env))) _ _ s
  refine Calls.spliced_cons (thn (he pins s σ H _ I h) fun u s1 ⟨x,H1,I1,r1,q1⟩=>Calls.spliced_nil ?_)
  obtain ⟨a,xs,rfl,hq,q⟩:=q1
  cases r1
  obtain ⟨its,rv,pl,hz⟩:=I1.list hq
  have hlen:=rv.length
  have hl:=pl.isList
  refine call_reversed_list hl (Calls.spliced_nil ?_)
  have la:a<s1.heap.objs.size:=by obtain ⟨o,z,_⟩:=hl;exact Heap.lt_size z
  refine call_list_rev (items:=its.toArray) (I.ok.hd hc) ⟨_,Heap.get?_push_size _ rfl,rfl,rfl⟩ (hl.at fun o z=>Heap.get?_push_of_some _ z) (Nat.ne_of_lt la) (by rw [List.size_toArray];omega) fun h' tk acc' c' hk hS' hacc=>?_
  have e:=items_rev hacc
  subst e
  have hp:s1.heap.objs.size≤(s1.heap.push (revObj a ((its.toArray.size:Int)-1))).objs.size:=by rw [Heap.size_push];exact Nat.le_succ _
  refine ⟨.ref _,_,I1.laid (t':=tk) (o:=.lst xs.reverse) (fun b o z=>hk b o (Nat.ne_of_lt (Heap.lt_size z)) (Heap.get?_push_of_some _ z)) hp ?_,rfl,q _ (I1.hok.fresh hp)⟩
  exact ⟨by rw [List.length_reverse];exact hz,its.reverse,c',vals_rev rv,hS'⟩
end
end L2
namespace L2
open PySem PySem.Spec PyProof.Rows
theorem pa_consZ {X:Cx}{es:List Expr}{te:TE}{t:TA}{pos:Pos}{a0:Arguments}{a1:Expr}{a2:Scope}(ha:PE X (Expr.Lambda a0 a1 a2 pos) te)(hr:PA X es t):PA X ((Expr.Lambda a0 a1 a2 pos)::es) (tCons te t):=pa_cons ha hr rfl
def BM (mg:Str→Option Value)(base:Heap):Prop:=
  ∃ bm o,mg "__builtins__"=some (.ref bm)∧(bm≠builtinsNs∧bm≠mainGlobals)∧base.get? bm=some o∧o.cls=.type "module"∧o.dict=some builtinsNs∧o.data=.plain
theorem BM.keep {mg:Str→Option Value}{h h':Heap}(B:BM mg h)(k:∀ b o,h.get? b=some o→h'.get? b=some o):BM mg h':=by
  obtain ⟨bm,o,a,n,e,r⟩:=B
  exact ⟨bm,o,a,n,k _ _ e,r⟩
def CodeK (H:Hp)(q:Str)(c:Addr):Prop:=∃ o vs t,H c=some (.frz o (.own 0))∧o.data=.fields vs∧vs[1]?=some (.str q t)
def TabAt (H:Hp)(P:Addr)(q:Str):Prop:=∃ ps,H P=some (.tbl ps)∧TriplesOk ps.toList∧∀ pos cv,codeAmong pos ps.toList=some cv→∃ c,cv=.ref c∧CodeK H q c
theorem CodeK.keep {H H':Hp}{q:Str}{c:Addr}(x:CodeK H q c)(h:∀ b o,H b=some (.frz o (.own 0))→H' b=some (.frz o (.own 0))):CodeK H' q c:=by
  obtain ⟨o,vs,t,e,r⟩:=x
  exact ⟨o,vs,t,h _ _ e,r⟩
theorem TabAt.sm {H H':Hp}{P:Addr}{q:Str}(x:TabAt H P q)(h:Same H H'):TabAt H' P q:=by
  obtain ⟨ps,e,t,k⟩:=x
  refine ⟨ps,h _ _ e,t,fun pos cv z=>?_⟩
  obtain ⟨c,e1,e2⟩:=k pos cv z
  exact ⟨c,e1,e2.keep fun b o=>h b _⟩
theorem TabAt.nil {H:Hp}{P:Addr}{q:Str}(h:H P=some (.tbl #[])):TabAt H P q:=⟨#[],h,trivial,fun _ _ z=>by cases z⟩
theorem triples_snoc {a b:Int}{ta tb:Tok}{c:Value}:∀ l:List Value,TriplesOk l→TriplesOk (l++[.int a ta,.int b tb,c]):=fun l=>by
  fun_induction TriplesOk l with
  | case1=>intro _;exact trivial
  | case2 a t b u x rest ih=>intro h;exact ih h
  | case3=>intro h;exact h.elim
theorem among_snoc {p:Pos}{a b:Int}{ta tb:Tok}{c cv:Value}:∀ l:List Value,TriplesOk l→codeAmong p (l++[.int a ta,.int b tb,c])=some cv→codeAmong p l=some cv∨cv=c:=fun l=>by
  fun_induction TriplesOk l with
  | case1=>
    intro _ h
    simp only [List.nil_append,codeAmong] at h
    split at h
    · cases h;exact .inr rfl
    · cases h
  | case2 a t b u x rest ih=>
    intro ht h
    simp only [List.cons_append,codeAmong] at h ⊢
    split at h
    · rename_i hc;rw [if_pos hc];exact .inl h
    · rename_i hc;rw [if_neg hc];exact ih ht h
  | case3=>intro h;exact h.elim
def LamAt (H:Hp)(q:Str)(f:Addr)(params:Arguments)(body:Expr)(scope:Scope)(cl:List (Str×Addr))(pm:Value):Prop:=
  ∃ c ctv,H f=some (.frz (PySem.W.kla_obj "<lambda>" q params body scope cl pm c ctv) (.own 0))∧CodeK H q c
def tLam (P:Addr)(q:Str)(params:Arguments)(body:Expr)(scope:Scope)(cl:List (Str×Addr))(pm:Value):TE:=fun _ H Q=>TabAt H P q∧
  ∀ f H',H f=none→(∀ b o,b≠P→H b=some o→H' b=some o)→TabAt H' P q→LamAt H' q f params body scope cl pm→Q (.ref f) H'
section
variable {X:Cx}{pins:List (Addr×Obj)}{σ:St}{H:Hp}{s:Shared}
theorem lam_miss {P f c:Addr}{h1:Heap}{o oc:Obj}{ps:Array Value}{i j:Int}{ta tb:Tok}{tk:Nat}(I:Inv X pins σ H s)(hP:H P=some (.tbl ps))
    (hx:Heap.ExtBut P s.heap h1) (hge:s.heap.objs.size≤c) (hlt:c<h1.objs.size) (hf:f=h1.objs.size) (hc:h1.get? c=some oc) (htb:h1.get? P=some (PySem.W.tabObj (ps++#[.int i ta,.int j tb,.ref c])))
    (hof:o.isFreed=false):
    Inv X pins σ (upd (upd (upd H P (.tbl (ps++#[.int i ta,.int j tb,.ref c]))) c (.frz oc (.own 0))) f (.frz o (.own 0))) { s with heap:=h1.push o,toks:=tk }:=by
  subst hf
  have Plt:P<s.heap.objs.size:=I.hok.lt hP
  have hcP:c≠P:=fun z=>by rw [z] at hge;exact absurd Plt (Nat.not_lt.mpr hge)
  have hfP:h1.objs.size≠P:=fun z=>by rw [← z] at Plt;exact absurd (Nat.lt_trans Plt (Nat.lt_of_le_of_lt hge hlt)) (Nat.lt_irrefl _)
  have hfc:h1.objs.size≠c:=(Nat.ne_of_lt hlt).symm
  have other:∀ b,b<s.heap.objs.size→b≠P→(upd (upd (upd H P (.tbl (ps++#[.int i ta,.int j tb,.ref c]))) c (.frz oc (.own 0))) h1.objs.size (.frz o (.own 0))) b=H b:=fun b hb hne=>by
    rw [upd_ne (Nat.ne_of_lt (Nat.lt_trans (Nat.lt_of_lt_of_le hb hge) hlt)),upd_ne (Nat.ne_of_lt (Nat.lt_of_lt_of_le hb hge)),upd_ne hne]
  have keep:∀ b u,b≠P→s.heap.get? b=some u→(h1.push o).get? b=some u:=fun b u hb e=>Heap.get?_push_of_some _ (hx b u hb e)
  have atP:(h1.push o).get? P=some (PySem.W.tabObj (ps++#[.int i ta,.int j tb,.ref c])):=Heap.get?_push_of_some _ htb
  have hPv:(upd (upd (upd H P (.tbl (ps++#[.int i ta,.int j tb,.ref c]))) c (.frz oc (.own 0))) h1.objs.size (.frz o (.own 0))) P=some (.tbl (ps++#[.int i ta,.int j tb,.ref c])):=by
    rw [upd_ne hfP.symm,upd_ne hcP.symm,upd_same]
  have nP:∀ b,H b=none→b≠P:=fun b n z=>by rw [z,hP] at n;cases n
  refine I.un (t':=tk) ⟨fun b u e n _ _=>keep b u (nP b n) e,fun b u e n _ _=>⟨u.slots,keep b u (nP b n) e⟩,fun b u e n _=>?_,fun b u e _=>?_,fun b xs e=>?_,fun b u xs e=>?_,fun b qs e=>?_⟩ fun b u e=>?_
  · rw [other b (Heap.lt_size e) (nP b n)];exact n
  · by_cases hb:b=P
    · subst hb;exact ⟨_,atP⟩
    · exact ⟨u,keep b u hb e⟩
  · rw [other b (I.hok.lt e) fun z=>by rw [z,hP] at e;cases e];exact e
  · rw [other b (I.hok.lt e) fun z=>by rw [z,hP] at e;cases e];exact e
  · by_cases hb:b=P
    · subst hb
      rw [hP] at e;cases e
      exact ⟨_,hPv⟩
    · exact ⟨#[],by rw [other b (I.hok.lt e) hb,e];simp⟩
  · by_cases hbf:b=h1.objs.size
    · subst hbf
      rw [upd_same] at e;cases e
      exact ⟨Heap.get?_push_size _ hof,_,Heap.get?_push_size _ hof⟩
    · by_cases hbc:b=c
      · subst hbc
        rw [upd_ne hbf,upd_same] at e;cases e
        exact ⟨Heap.get?_push_of_some _ hc,_,Heap.get?_push_of_some _ hc⟩
      · by_cases hbP:b=P
        · subst hbP
          rw [hPv] at e;cases e
          exact atP
        · rw [upd_ne hbf,upd_ne hbc,upd_ne hbP] at e
          refine (I.hok b u e).stay (fun d v hd q=>keep d v ?_ q) (fun d z=>?_) fun d xs z=>?_
          · rcases hd with z | z
            · rw [z];exact hbP
            · intro y;rw [y,hP] at z;cases z
          · rw [other d (I.hok.lt z) fun y=>by rw [y,hP] at z;cases z];exact z
          · rw [other d (I.hok.lt z) fun y=>by rw [y,hP] at z;cases z];exact z
theorem pe_lam {params:Arguments}{body:Expr}{scope:Scope}{pos:Pos}{c P:Addr}{clos:List (Str×Addr)}(hdef:defaultsOf params X.env=([],[]))(hcl:closureFor scope X.env=pure clos)(hcode:X.env.code=.ref c)
    (C:PySem.W.CodeHd X.base c P) (B:BM X.mg X.base):PE X (.Lambda params body scope pos) (tLam P (X.env.qual++"<lambda>") params body scope clos ((X.mg "__name__").getD .none)):=by
  intro pins s σ H Q I h
  obtain ⟨⟨ps,hP,ht,hall⟩,hq⟩:=h
  obtain ⟨bm,ob,b1,⟨b2,b3⟩,b4,b5,b6,b7⟩:=B
  have hPh:s.heap.get? P=some (PySem.W.tabObj ps):=I.hok P _ hP
  have hgs:=I.mod.glob.keeps I.bk
  have hgP:mainGlobals≠P:=fun q=>by
    obtain ⟨o,es,ep,e,hd,_⟩:=hgs
    rw [q,hPh] at e;cases e;cases hd
  have hbP:bm≠P:=fun q=>by
    have e:=I.bk _ _ b4
    rw [q,hPh] at e;cases e;cases b5
  have hb:s.heap.BuiltinsAt X.mg P:=⟨bm,ob,b1,b2,b3,hbP,I.bk _ _ b4,b5,b6,b7⟩
  refine PySem.W.kla_eval hdef ?_
  cases hf:codeAmong pos ps.toList with
  | none=>
    refine PySem.W.kla_makeFunction (mg:=X.mg) hcl I.ok.glob hgs hcode (C.keeps I.bk) hPh ht hf hgP hb fun c' ctv h' tk hx hge hlt hrec htb=>?_
    obtain ⟨c₂,oc,vs,t,e2,hoc,hd,hv⟩:=hrec
    cases e2
    have Plt:P<s.heap.objs.size:=I.hok.lt hP
    have ltf:s.heap.objs.size<h'.objs.size:=Nat.lt_of_le_of_lt hge hlt
    have fnew:H h'.objs.size=none:=I.hok.fresh (Nat.le_of_lt ltf)
    have cnew:H c'=none:=I.hok.fresh hge
    have hcP:c'≠P:=fun z=>by rw [z] at hge;exact absurd Plt (Nat.not_lt.mpr hge)
    have hfP:h'.objs.size≠P:=fun z=>by rw [← z] at Plt;exact absurd (Nat.lt_trans Plt ltf) (Nat.lt_irrefl _)
    have I2:=lam_miss (tk:=tk) (o:=PySem.W.kla_obj "<lambda>" (X.env.qual++"<lambda>") params body scope clos ((X.mg "__name__").getD .none) c' ctv) I hP hx hge hlt rfl hoc htb rfl
    have hfc:c'≠h'.objs.size:=Nat.ne_of_lt hlt
    refine ⟨.ref h'.objs.size,_,I2,rfl,hq _ _ fnew (fun b o hb e=>?_) ⟨ps++#[rawInt pos.line,rawInt pos.col,.ref c'],?_,?_,fun p cv z=>?_⟩ ⟨c',ctv,upd_same,oc,vs,t,?_,hd,hv⟩⟩
    · rw [upd_ne (ne_of_none e fnew),upd_ne (ne_of_none e cnew),upd_ne hb];exact e
    · rw [upd_ne hfP.symm,upd_ne hcP.symm,upd_same];rfl
    · rw [Array.toList_append];exact triples_snoc _ ht
    · rw [Array.toList_append] at z
      rcases among_snoc _ ht z with z | z
      · obtain ⟨d,e1,o,vs',t',e3,r⟩:=hall p cv z
        have ndP:d≠P:=fun y=>by rw [y,hP] at e3;cases e3
        exact ⟨d,e1,o,vs',t',by rw [upd_ne (ne_of_none e3 fnew),upd_ne (ne_of_none e3 cnew),upd_ne ndP];exact e3,r⟩
      · exact ⟨c',z,oc,vs,t,by rw [upd_ne hfc,upd_same],hd,hv⟩
    · rw [upd_ne hfc,upd_same]
  | some cv=>
    obtain ⟨c',rfl,o,vs,t,ec,r⟩:=hall pos cv hf
    refine PySem.W.kla_makeFunctionHit (mg:=X.mg) hcl I.ok.glob hgs hcode (C.keeps I.bk) hPh ht hf hb fun ctv h' tk hk hsz=>?_
    have fnew:H h'.objs.size=none:=I.hok.fresh hsz
    have k2:∀ b u,s.heap.get? b=some u→(h'.push (PySem.W.kla_obj "<lambda>" (X.env.qual++"<lambda>") params body scope clos ((X.mg "__name__").getD .none) c' ctv)).get? b=some u:=fun b u e=>Heap.get?_push_of_some _ (hk b u e)
    have sm:Same H (upd H h'.objs.size (.frz (PySem.W.kla_obj "<lambda>" (X.env.qual++"<lambda>") params body scope clos ((X.mg "__name__").getD .none) c' ctv) (.own 0))):=fun b u e=>by rw [upd_ne (ne_of_none e fnew)];exact e
    have I2:=I.laid (t':=tk) (a:=h'.objs.size) (o:=.frz (PySem.W.kla_obj "<lambda>" (X.env.qual++"<lambda>") params body scope clos ((X.mg "__name__").getD .none) c' ctv) (.own 0)) k2 hsz ⟨Heap.get?_push_size _ rfl,_,Heap.get?_push_size _ rfl⟩
    exact ⟨.ref h'.objs.size,_,I2,rfl,hq _ _ fnew (fun b o _ e=>sm b o e) (TabAt.sm ⟨ps,hP,ht,hall⟩ sm) ⟨c',ctv,upd_same,o,vs,t,sm _ _ ec,r⟩⟩
end
def ownQ (q:Str)(o:Obj):Bool:=match o.data with
  | .func fd=>fd.qualname==q
  | .fields vs=>(match (vs[1]?:Option Value) with
    | some (.str z _)=>z==q
    | _=>false)
  | _=>false
def kn (q:Str):Option HO→Option Obj
  | some (.frz o (.own 0))=>if ownQ q o=true then some o else none
  | _=>none
section
variable {q:Str}
theorem kn_some {x:Option HO}{o:Obj}(h:kn q x=some o):x=some (.frz o (.own 0)):=by
  unfold kn at h
  split at h
  · split at h
    · cases h;rfl
    · cases h
  · cases h
theorem kn_at {H:Hp}{b:Addr}{o:Obj}(h:H b=some (.frz o (.own 0)))(w:ownQ q o=true):kn q (H b)=some o:=by rw [h];unfold kn;exact if_pos w
theorem kn_not {H:Hp}{b:Addr}{o:Obj}(h:H b=some (.frz o (.own 0)))(w:ownQ q o=false):kn q (H b)=none:=by rw [h];unfold kn;exact if_neg (by rw [w];exact Bool.false_ne_true)
theorem own_code {o:Obj}{vs:Array Value}{t:Tok}{z:Str}(d:o.data=.fields vs)(h:vs[1]?=some (.str z t)):ownQ q o=(z==q):=by
  unfold ownQ
  rw [d]
  dsimp only
  rw [h]
def del (q:Str)(H:Hp):Hp:=fun b=>if (kn q (H b)).isSome=true then none else H b
def put (q:Str)(H H':Hp):Hp:=fun b=>match kn q (H b) with
  | some o=>some (.frz o (.own 0))
  | none=>H' b
theorem del_in {H:Hp}{b:Addr}{o:Obj}(h:kn q (H b)=some o):del q H b=none:=if_pos (by rw [h];rfl)
theorem del_out {H:Hp}{b:Addr}(h:kn q (H b)=none):del q H b=H b:=if_neg (by rw [h];exact Bool.false_ne_true)
theorem del_of {H:Hp}{b:Addr}{o:HO}(h:H b=some o)(n:kn q (some o)=none):del q H b=some o:=by rw [del_out (by rw [h];exact n),h]
theorem del_none {H:Hp}{b:Addr}(h:H b=none):del q H b=none:=by
  unfold del
  split
  · rfl
  · exact h
theorem del_some {H:Hp}{b:Addr}{o:HO}(h:del q H b=some o):H b=some o∧kn q (H b)=none:=by
  unfold del at h
  split at h
  · cases h
  · rename_i n
    refine ⟨h,?_⟩
    cases w:kn q (H b) with
    | none=>rfl
    | some u=>exact absurd (by rw [w];rfl) n
theorem put_in {H H':Hp}{b:Addr}{o:Obj}(h:kn q (H b)=some o):put q H H' b=some (.frz o (.own 0)):=by
  unfold put
  rw [h]
theorem put_out {H H':Hp}{b:Addr}(h:kn q (H b)=none):put q H H' b=H' b:=by
  unfold put
  rw [h]
theorem same_put {H H':Hp}(h:Same (del q H) H'):Same H (put q H H'):=fun b o e=>by
  cases w:kn q (H b) with
  | none=>rw [put_out w];exact h b o (by rw [del_out w];exact e)
  | some u=>
    rw [put_in w]
    rw [kn_some w] at e
    exact e
end
structure Wider (X:Cx)(σ:St)(q:Str)(H:Hp)(base':Heap):Prop where
  sub:∀ b o,X.base.get? b=some o→base'.get? b=some o
  sz:X.base.objs.size≤base'.objs.size
  mod:Mod X.K X.mg base'
  old:Mod X.K X.mg X.base
  new:∀ b o,kn q (H b)=some o→base'.get? b=some o
  cel:∀ x c,X.env.cells.lookup x=some c→∃ v,base'.IsCell c v
  val:∀ (i:Nat) (x:Str) (v:V) (c:Addr),X.N[i]?=some x→σ[i]?=some (some v)→X.env.scope.names.lookup x=some .cell→X.env.cells.lookup x=some c→∃ u,RelV v u∧base'.IsCell c (some u)
  inj:∀ x y c,X.env.cells.lookup x=some c→X.env.cells.lookup y=some c→x=y
theorem Wider.kin {X:Cx}{σ:St}{q:Str}{H:Hp}{base':Heap}(W:Wider X σ q H base'):X.K.In base':=W.mod.kin
theorem Wider.ns {X:Cx}{σ:St}{q:Str}{H:Hp}{base':Heap}(W:Wider X σ q H base'):base'.Ns mainGlobals X.mg:=W.mod.glob
theorem funs_sub {h base base':Heap}(sub:∀ b o,base.get? b=some o→base'.get? b=some o):∀ {l:List Env},h.FunFrames base' l→h.FunFrames base l
  | [],_=>trivial
  | _::_,⟨a,⟨L,o,f,n,e,d⟩,r⟩=>⟨a,⟨L,o,f,(by
      cases q:base.get? L with
      | none=>rfl
      | some u=>rw [sub L u q] at n;cases n),e,d⟩,funs_sub sub r⟩
section
variable {P:Program}{w:World}{K:PySem.W.Frag}{mg:Str→Option Value}{base base':Heap}{k:Nat}{f:Addr}{fd:FuncData}{ps:List Str}{sp:Sp}
theorem FnOk.wide (F:FnOk P w K mg base CX0 k f fd ps sp)(M:Mod K mg base)(sub:∀ b o,base.get? b=some o→base'.get? b=some o)(sz:base.objs.size≤base'.objs.size):FnOk P w K mg base' CX0 k f fd ps sp:=
  ⟨F.len,fun A outer s H args us vs Q E hr e hb hv hs=>F.run A outer s H args us vs Q E hr ⟨e.frames,M,fun b o z=>e.bs b o (sub b o z),Nat.le_trans sz e.bsz,funs_sub sub e.funs,e.frf,e.hok,e.bare⟩ hb hv hs⟩
def FV (P:Program)(w:World)(K:PySem.W.Frag)(mg:Str→Option Value)(base:Heap)(k:Nat)(f:Addr)(sp:Sp):Prop:=
  ∃ fd ps oc od sl,base.get? f=some ⟨oc,od,.func fd,sl⟩∧(∀ (s:Shared) (us:List Value),K.In s.heap→us.length=ps.length→BindsTo s fd ⟨us,[]⟩ (ps.zip us))∧FnOk P w K mg base CX0 k f fd ps sp
theorem FV.wide (G:FV P w K mg base k f sp)(M:Mod K mg base)(sub:∀ b o,base.get? b=some o→base'.get? b=some o)(sz:base.objs.size≤base'.objs.size):FV P w K mg base' k f sp:=by
  obtain ⟨fd,ps,oc,od,sl,e,b,F⟩:=G
  exact ⟨fd,ps,oc,od,sl,sub _ _ e,b,F.wide M sub sz⟩
theorem FV.imp {sp':Sp}(G:FV P w K mg base k f sp)(h:∀ vs H Q E,sp' vs H Q E→sp vs H Q E):FV P w K mg base k f sp':=by
  obtain ⟨fd,ps,oc,od,sl,e,b,F⟩:=G
  exact ⟨fd,ps,oc,od,sl,e,b,F.imp h⟩
theorem FV.mono {j:Nat}(G:FV P w K mg base j f sp)(h:j≤k):FV P w K mg base k f sp:=by
  obtain ⟨fd,ps,oc,od,sl,e,b,F⟩:=G
  exact ⟨fd,ps,oc,od,sl,e,b,F.mono h⟩
theorem FV.of {x qual:Str}{st:Stmt}(F:FnOk P w K mg base CX0 k f fd ps sp)(u:Fun K x qual st f fd)(hb:Binds K fd ps [])(KX:K.In base):FV P w K mg base k f sp:=by
  obtain ⟨oc,od,kV,doc,pm,an,cdv,ct,osl,e1,e2,e3⟩:=u.ex
  refine ⟨fd,ps,oc,od,osl,KX _ _ e2,fun s us ks hl=>?_,F⟩
  have:=hb s us ks (by simpa using hl)
  simpa using this
end
theorem Wider.fv {X:Cx}{σ:St}{q:Str}{H:Hp}{base':Heap}{k:Nat}{f:Addr}{sp:Sp}(W:Wider X σ q H base')(G:FV X.prog X.w X.K X.mg X.base k f sp):FV X.prog X.w X.K X.mg base' k f sp:=G.wide W.old W.sub W.sz
section
variable {X:Cx}
def tCallW (X:Cx)(k:Nat)(tf:TE)(t:TA):TE:=fun σ H Q=>tf σ H fun x H1=>∃ f sp,x=.ref f∧FV X.prog X.w X.K X.mg X.base k f sp∧t σ H1 fun vs H2=>sp vs H2 Q E0
theorem keeps_fn {M:Model}{f:Addr}{fd:FuncData}{oc:Value}{od:Option Addr}{sl:Array (Option Value)}(h:Heap)(e:h.get? f=some ⟨oc,od,.func fd,sl⟩):
    ∃ k,(k=Keeper.frame∨k=Keeper.machine∨k=Keeper.boundFrame)∧PySem.W.Looks M h (keeperOf (.ref f)) k:=
  ⟨.frame,.inl rfl,(PySem.W.Looks.ld (part:=none) e).andThen .now⟩
theorem pe_callW {k:Nat}{fe e:Expr}{es:List Expr}{tf:TE}{t:TA}{pos:Pos}(hf:PE X fe tf)(hr:Room k X.A)(ha:PA X (e::es) t)
    (hc:eval (.Call fe (e::es) [] pos) X.env=(do callWith pos (← eval fe X.env) [] (backTo pos (starEach (e::es) X.env)) (backToKw pos (keywordEach [] X.env))):=by rfl)
    (he:starEach (e::es) X.env=(false,eval e X.env)::starEach es X.env:=by rfl) (hpl:(backTo pos (starEach es X.env)).any (·.1)=false:=by rfl):PE X (.Call fe (e::es) [] pos) (tCallW X k tf t):=by
  intro pins s σ H Q I h
  refine Call_ (thn (hf pins s σ H _ I h) fun v s1 ⟨x,H1,I1,rx,f,sp,ex,G,q⟩=>?_) hc
  subst ex
  cases rx
  obtain ⟨fd,ps,oc,od,sl,eo,hb,F⟩:=G
  have hA:=ha pos pins s1 σ H1 _ I1 q
  rw [he] at hA ⊢
  refine PySem.W.callWith_of (P:=fun h=>h.get? f=some ⟨oc,od,.func fd,sl⟩) (by show ((false||(backTo pos (starEach es X.env)).any (·.1))||false)=false;rw [hpl];rfl) keeps_fn
    (PySem.Calls.evalArgs_plain (thn hA fun us s2 ⟨vs,H2,I2,r,q2⟩=>⟨I2.bk _ _ eo,?_⟩))
  have hl:us.length=ps.length:=by rw [← r.length];exact F.len _ _ _ _ q2
  refine wpAny_call (codeAny_mono (F.run X.A X.stack s2 H2 ⟨us,[]⟩ us vs Q E0 hr I2.env0 (hb s2 us I2.kIn hl) r q2) fun r s' hq=>?_)
  cases r with
  | error e=>exact False.elim hq
  | ok fl=>
    cases fl with
    | ret u=>exact I2.after hq
    | next=>exact False.elim hq
    | brk=>exact False.elim hq
    | cont=>exact False.elim hq
end
theorem funs_none {h base base':Heap}:∀ {l:List Env},h.FunFrames base l→(∀ b∈frs l,base'.get? b=none)→h.FunFrames base' l
  | [],_,_=>trivial
  | _::_,⟨a,⟨L,o,f,n,e,d⟩,r⟩,hn=>⟨a,⟨L,o,f,hn L (by unfold frs;rw [List.filterMap_cons,f];exact List.mem_cons_self),e,d⟩,funs_none r fun b hb=>hn b (by unfold frs;rw [List.filterMap_cons,f];exact List.mem_cons_of_mem _ hb)⟩
theorem del_hok {q:Str}{P:Program}{w:World}{H:Hp}{h:Heap}(x:HOk P w H h):HOk P w (del q H) h:=fun b o e=>by
  obtain ⟨e1,_⟩:=del_some e
  exact (x b o e1).stay (fun _ _ _ e=>e) (fun c e=>del_of e rfl) fun c xs e=>del_of e rfl
section
variable {X:Cx}{pins:List (Addr×Obj)}{σ:St}{H:Hp}{s:Shared}{q:Str}
def wid (X:Cx)(q:Str)(H:Hp)(s:Shared):Heap:=PySem.W.hideAll (hidT s.heap (del q H)) (frs X.stack)
theorem wid_in {b:Addr}{o:Obj}(e:s.heap.get? b=some o)(n:del q H b=none)(hb:b∉frs X.stack):(wid X q H s).get? b=some o:=PySem.W.hideAll_get _ (hidT_get e n) hb
theorem wid_of {b:Addr}{o:Obj}(e:(wid X q H s).get? b=some o):s.heap.get? b=some o∧del q H b=none:=of_hidT (PySem.W.of_hideAll _ e)
theorem wid_size:(wid X q H s).objs.size=s.heap.objs.size:=(PySem.W.hideAll_size _ _).trans (hidT_size _ _)
theorem Inv.wider (I:Inv X pins σ H s)(hfn:∀ x,X.fn x=true):Wider X σ q H (wid X q H s):=by
  have nst:∀ b,b≠X.env.locals→b∉X.fs→b∉frs X.stack:=fun b h1 h2 z=>(List.mem_cons.mp (I.stkSub b z)).elim h1 h2
  have sub:∀ b o,X.base.get? b=some o→(wid X q H s).get? b=some o:=fun b o e=>by
    obtain ⟨e1,n⟩:=I.bs b o e
    refine wid_in e1 (del_none n) (nst b (fun z=>?_) (I.ok.nofr e))
    have h1:=Heap.lt_size e
    rw [z] at h1
    exact absurd (Nat.lt_of_lt_of_le h1 (Nat.le_trans I.ok.bsz I.ok.above)) (Nat.lt_irrefl _)
  have cst:∀ x c,X.env.cells.lookup x=some c→c∉frs X.stack:=fun x c e=>nst c (I.cne x c e) fun z=>by
    obtain ⟨_,o,ho,_⟩:=I.ok.funs.mem z
    exact absurd (Nat.lt_of_lt_of_le (Heap.lt_size ho) (I.ok.cab x c (hfn x) e)) (Nat.lt_irrefl _)
  have cin:∀ x c v,X.env.cells.lookup x=some c→s.heap.IsCell c v→(wid X q H s).IsCell c v:=fun x c v e ⟨o,ho,hd⟩=>⟨o,wid_in ho (del_none (I.freeC x c e)) (cst x c e),hd⟩
  refine ⟨sub,?_,⟨I.ok.mod.kin.keeps sub,I.ok.mod.glob.keeps sub,?_,I.ok.mod.nolimit.keeps sub⟩,I.ok.mod,fun b o e=>?_,fun x c e=>?_,fun i x v c e1 e2 e3 e4=>?_,I.ok.inj⟩
  · rw [wid_size];exact Nat.le_trans I.ok.bsz I.sz
  · obtain ⟨mb,h1,h2⟩:=I.ok.mod.blt
    exact ⟨mb,h1.keeps sub,h2⟩
  · have e1:=kn_some e
    refine wid_in (I.hok _ _ e1).1 (del_in e) fun z=>?_
    rw [I.stkFree b z] at e1;cases e1
  · obtain ⟨v,hv⟩:=I.cell x c e
    exact ⟨v,cin x c v e hv⟩
  · obtain ⟨m,hn,hl⟩:=I.loc
    obtain ⟨u,r,l⟩:=hl i x v e1 e2 (.inr (.inl e3))
    refine ⟨u,r,?_⟩
    rcases l with ⟨k,_⟩ | ⟨_,c',ec,z⟩
    · have k':X.env.scope.names.lookup x=some .local:=k
      rw [e3] at k';cases k'
    · rw [e4] at ec;cases ec
      exact cin x c _ e4 z
theorem Inv.envL (I:Inv X pins σ H s)(hfn:∀ x,X.fn x=true):Env0 X.prog X.w X.K X.mg (wid X q H s) X.A X.stack s (del q H):=
  ⟨I.ok.frames,(I.wider (q:=q) hfn).mod,fun _ _ e=>wid_of e,Nat.le_of_eq wid_size,funs_none I.stack fun _ hb=>PySem.W.hideAll_none _ hb,fun b hb=>del_none (I.stkFree b hb),del_hok I.hok,I.bare⟩
theorem Inv.afterL {Q:VK}{u:Value}{s':Shared}(I:Inv X pins σ H s)(h:CE X.stack X.prog X.w (del q H) s (fun v H2=>(∀ b o,kn q (H b)=some o→H2 b=none)→Q v (put q H H2)) u s'):EP X pins σ Q u s':=by
  obtain ⟨v,H',os,bare,un,hok,r,qq⟩:=h
  have nkn:∀ b o,H b=some o→kn q (some o)=none→kn q (H b)=none:=fun b o e n=>by rw [e];exact n
  have kfree:∀ b o,kn q (H b)=some o→s.heap.get? b=some o∧H' b=none∧s'.heap.get? b=some o:=fun b o e=>by
    have e1:=kn_some e
    have e2:=(I.hok _ _ e1).1
    refine ⟨e2,un.free b o e2 (del_in e) (by simp),un.keep b o e2 (del_in e) (fun z=>?_) (by simp)⟩
    rw [I.stkFree b z] at e1;cases e1
  refine I.after ⟨v,put q H H',os,bare,⟨fun b o e n=>un.keep b o e (del_none n),fun b o e n=>un.slot b o e (del_none n),fun b o e n hx=>?_,un.there,fun b xs e=>?_,fun b o w e=>?_,fun b ps e=>?_⟩,fun b o e=>?_,r,qq fun b o e=>(kfree b o e).2.1⟩
  · rw [put_out (by rw [n];rfl)];exact un.free b o e (del_none n) hx
  · rw [put_out (nkn b _ e rfl)];exact un.tups b xs (del_of e rfl)
  · cases z:kn q (H b) with
    | none=>rw [put_out z];exact un.frzs b o w (by rw [del_out z];exact e)
    | some u=>
      rw [put_in z]
      rw [kn_some z] at e
      exact e
  · rw [put_out (nkn b _ e rfl)];exact un.tbls b ps (del_of e rfl)
  · cases z:kn q (H b) with
    | none=>
      rw [put_out z] at e
      have np:∀ c u,H' c=some u→kn q (H c)=none:=fun c u ec=>by
        cases y:kn q (H c) with
        | none=>rfl
        | some w=>rw [(kfree c w y).2.1] at ec;cases ec
      exact (hok b o e).stay (fun _ _ _ e=>e) (fun c e=>by rw [put_out (np c _ e)];exact e) fun c xs e=>by rw [put_out (np c _ e)];exact e
    | some u=>
      rw [put_in z] at e;cases e
      exact ⟨(kfree b u z).2.2,_,(kfree b u z).2.2⟩
def tCallL (X:Cx)(k:Nat)(f:Addr)(fd:FuncData)(ps:List Str)(t:TA):TE:=fun σ H Q=>t σ H fun vs H1=>∃ (q:Str) (sp:Sp),(∀ base',Wider X σ q H1 base'→FnOk X.prog X.w X.K X.mg base' CX0 k f fd ps sp)∧sp vs (del q H1) (fun v H2=>(∀ b o,kn q (H1 b)=some o→H2 b=none)→Q v (put q H1 H2)) E0
theorem pe_callL {k:Nat}{f:Addr}{fd:FuncData}{ps:List Str}{x:Str}{p pos:Pos}{e:Expr}{es:List Expr}{t:TA}(hr:Room k X.A)(hg:Gl X x)(hm:X.mg x=some (.ref f))(hk:PySem.W.keepIn X.K (.ref f)=true)(hb:Binds X.K fd ps [])
    (ha:PA X (e::es) t) (hfn:∀ y,X.fn y=true:=by intro _;rfl) (hdb:(x==("__debug__":Str))=false:=by decide) (he:starEach (e::es) X.env=(false,eval e X.env)::starEach es X.env:=by rfl) (hpl:(backTo pos (starEach es X.env)).any (·.1)=false:=by rfl):
    PE X (.Call (.Name x p) (e::es) [] pos) (tCallL X k f fd ps t):=by
  intro pins s σ H Q I h
  refine wpAny_Call_Name_kw (ld_glob I hg hm ?_ hdb)
  refine PySem.W.callWith_K (h₀:=X.base) I.ok.mod.kin hk (thn (ha pos pins s σ H _ I h) fun us s1 ⟨vs,H1,I1,r,qq,sp,F,q⟩=>⟨I1.kIn,?_⟩) he hpl
  have W:=I1.wider (q:=qq) hfn
  have hl:us.length=ps.length:=by rw [← r.length];exact (F _ W).len _ _ _ _ q
  have hB:=hb s1 us I1.kIn (by simpa using hl)
  rw [List.append_nil] at hB
  refine wpAny_call (codeAny_mono ((F _ W).run X.A X.stack s1 (del qq H1) ⟨us,[]⟩ us vs _ E0 hr (I1.envL (q:=qq) hfn) hB r q) fun r s' hq=>?_)
  cases r with
  | error e=>exact False.elim hq
  | ok fl=>
    cases fl with
    | ret u=>exact I1.afterL (q:=qq) hq
    | next=>exact False.elim hq
    | brk=>exact False.elim hq
    | cont=>exact False.elim hq
end
def cxLam (P:Program)(w:World)(K:PySem.W.Frag)(mg:Str→Option Value)(base:Heap)(N:List Str)(q:Str)(scope:Scope)(f:Addr)(cd:Value)(cl:List (Str×Addr))(A:Around)(outer:List Env)(s:Shared)(H:Hp):Cx where
  prog:=P
  w:=w
  K:=K
  mg:=mg
  base:=base
  A:=A.deeper (PySem.W.envX q scope s.heap.objs.size f cd cl)
  N:=N
  s₀:=s
  H₀:=H
  env:=PySem.W.envX q scope s.heap.objs.size f cd cl
  outer:=outer
  stack:=PySem.W.envX q scope s.heap.objs.size f cd cl::outer
  ex:=[]
  calm:=true
  fn:=fun _=>false
  pn:=[]
  xe:=fun _ _=>False
structure LamScope (X:Cx)(scope:Scope)(cl:List (Str×Addr))(ps fv:List Str)(js:List Nat):Prop where
  kind:scope.kind=.function
  co:scope.isCoroutine=false
  gen:scope.isGenerator=false
  nc:∀ y∈scope.names,y.2≠.cell
  par:∀ y∈ps,scope.names.lookup y=some .local
  fr:∀ y∈scope.names,y.2=.free→y.1∈fv
  nd:(ps++fv).Nodup
  vis:∀ y∈fv,scope.names.lookup y=some .free∧X.env.scope.names.lookup y=some .cell∧(cl.lookup y).isSome=true
  cls:∀ p∈cl,X.env.cells.lookup p.1=some p.2
  sl:Paired (fun y j=>X.N[j]?=some y) fv js
theorem zip_fst_sub:∀ (ps:List Str) (us:List Value),List.Sublist ((ps.zip us).map (·.1)) ps
  | [],_=>.slnil
  | _::_,[]=>List.nil_sublist _
  | p::ps,u::us=>.cons₂ p (zip_fst_sub ps us)
theorem rev_zip_get {x:Str}{u:Value}:∀ {ps:List Str} {us:List Value} {i:Nat},ps.Nodup→ps[i]?=some x→us[i]?=some u→(ps.zip us).reverse.lookup x=some u:=fun {ps us i} nd h1 h2=>by
  have hm:(x,u)∈ps.zip us:=by
    refine List.mem_of_getElem? (i:=i) ?_
    rw [List.getElem?_zip_eq_some]
    exact ⟨h1,h2⟩
  have nd2:((ps.zip us).reverse.map (·.1)).Nodup:=by
    rw [List.map_reverse]
    refine List.nodup_iff_pairwise_ne.mpr (List.pairwise_reverse.mpr (List.Pairwise.imp (fun h=>Ne.symm h) (List.nodup_iff_pairwise_ne.mp ?_)))
    exact List.Nodup.sublist (zip_fst_sub ps us) nd
  have go:∀ l:List (Str×Value),(l.map (·.1)).Nodup→(x,u)∈l→l.lookup x=some u:=by
    intro l
    induction l with
    | nil=>intro _ h;cases h
    | cons p r ih=>
      intro hn h
      obtain ⟨y,v⟩:=p
      rw [List.map_cons,List.nodup_cons] at hn
      rcases List.mem_cons.mp h with e | e
      · cases e;simp [List.lookup_cons]
      · have ne:(x==y)=false:=by
          cases q:x==y with
          | false=>rfl
          | true=>exact absurd (eq_of_beq q▸List.mem_map_of_mem (f:=(·.1)) e) hn.1
        simp only [List.lookup_cons,ne]
        exact ih hn.2 e
  exact go _ nd2 (List.mem_reverse.mpr hm)
theorem Wider.lam {X:Cx}{σ:St}{Hk:Hp}{base':Heap}{k:Nat}{f c:Addr}{q:Str}{params:Arguments}{body:Expr}{scope:Scope}{cl:List (Str×Addr)}{pm ctv:Value}{ps fv:List Str}{js:List Nat}{sp:Sp}(W:Wider X σ q Hk base')
    (hf:Hk f=some (.frz (PySem.W.kla_obj "<lambda>" q params body scope cl pm c ctv) (.own 0))) (hc:CodeK Hk q c) (S:LamScope X scope cl ps fv js)
    (hbind:∀ us:List Value,us.length=ps.length→bindArgs (PySem.W.kla_fn "<lambda>" q params body scope cl pm (.ref c) ctv) ⟨us,[]⟩=pure (ps.zip us)) (len:∀ vs H Q E,sp vs H Q E→vs.length=ps.length)
    (hbody:∀ (A:Around) (outer:List Env) (s:Shared) (H:Hp) (vs:List V) (Q:VK) (E:XK),Room k (A.deeper (PySem.W.envX q scope s.heap.objs.size f (.ref c) cl))→sp vs H Q E→
      ∃ te,PE (cxLam X.prog X.w X.K X.mg base' (ps++fv) q scope f (.ref c) cl A outer s H) body te∧te (vs.map some++frv js σ) H Q):FV X.prog X.w X.K X.mg base' (k+1) f sp:=by
  obtain ⟨oc,vc,tc,ec,dc,qc⟩:=hc
  have bf:=W.new f _ (kn_at hf (show (q==q)=true from beq_self_eq_true q))
  have bc:=W.new c _ (kn_at ec ((own_code dc qc).trans (beq_self_eq_true q)))
  refine ⟨_,ps,_,_,_,bf,fun s us _ hl=>.of_eq (hbind us hl),len,fun A outer s H args us vs Q E hr e0 hb r hsp=>?_⟩
  have hl:=len _ _ _ _ hsp
  have lim:s.heap.NoLimit:=e0.mod.nolimit.keeps fun b o e=>(e0.bs b o e).1
  have hps:us.length=ps.length:=by rw [← r.length];exact hl
  refine PySem.W.kla_callFunE hr.depth (e0.bs _ _ bf).1 rfl S.co S.gen rfl ⟨c,oc,vc,tc,rfl,(e0.bs _ _ bc).1,dc,qc⟩ (hb _ _ _ _ ?_)
  refine wpAny_newFunctionEnv S.nc (fun y hy=>S.par y.1 (List.of_mem_zip hy).1) (fun h₁ hns hsb=>⟨lim.fresh _ hsb,?_⟩) S.kind
  have hk₁:∀ b o,s.heap.get? b=some o→h₁.get? b=some o:=fun b o e=>hsb.extBut b o (Nat.ne_of_lt (Heap.lt_size e)) (Heap.get?_push_of_some _ e)
  obtain ⟨te,hte,hq⟩:=hbody A outer s H vs Q E (hr.deeper _) hsp
  have cellOf:∀ y cc,cl.lookup y=some cc→X.env.cells.lookup y=some cc:=fun y cc e=>S.cls (y,cc) (PySem.mem_of_lookup e)
  have noA:∀ b:Addr,b∉(cxLam X.prog X.w X.K X.mg base' (ps++fv) q scope f (.ref c) cl A outer s H).ex:=fun b z=>absurd (show b∈([]:List Addr) from z) (by simp)
  have I:Inv (cxLam X.prog X.w X.K X.mg base' (ps++fv) q scope f (.ref c) cl A outer s H) [] (vs.map some++frv js σ) H { s with heap:=h₁,toks:=s.toks+(ps.zip us).length }:=by
    refine ⟨⟨e0.mod,S.kind,rfl,rfl,Nat.le_refl _,fun y z d h1 h2=>W.inj y z d (cellOf y d h1) (cellOf z d h2),fun y hy=>?_,fun y d h=>absurd (show false=true from h) Bool.false_ne_true,fun _=>hr.hd,Around.frames_deeper e0.frames,.inr ⟨rfl,rfl⟩,fun b z=>absurd z (noA b),e0.bs,e0.bsz,
      fun b _ _=>noA b,fun b z=>absurd z (noA b),e0.funs,e0.frf⟩,rfl,e0.bare,Un.kept hk₁,⟨_,hns,fun i y v h1 h2 h3=>?_⟩,fun y d h=>?_,e0.hok.fresh (Nat.le_refl _),fun y d h=>?_,fun p hp=>absurd (show p∈([]:List (Addr×Obj)) from hp) (by simp),e0.hok.kept hk₁,?_⟩
    · have hy':scope.names.lookup y=some .cell∨scope.names.lookup y=some .free:=hy
      rcases hy' with z | z
      · exact absurd rfl (S.nc _ (PySem.mem_of_lookup z))
      · exact Option.isSome_iff_exists.mp (S.vis y (S.fr _ (PySem.mem_of_lookup z) rfl)).2.2
    · have h1':(ps++fv)[i]?=some y:=h1
      by_cases hi:i<ps.length
      · rw [List.getElem?_append_left hi] at h1'
        rw [List.getElem?_append_left (by rw [List.length_map,hl];exact hi),List.getElem?_map] at h2
        have h2':vs[i]?=some v:=by
          cases z:vs[i]? with
          | none=>rw [z] at h2;cases h2
          | some a=>rw [z] at h2;cases h2;rfl
        obtain ⟨u,hu,rv⟩:=r.get h2'
        have nd:ps.Nodup:=(List.nodup_append.mp S.nd).1
        exact ⟨u,rv,.inl ⟨S.par y (List.mem_of_getElem? h1'),rev_zip_get nd h1' hu⟩⟩
      · have hi':ps.length≤i:=Nat.not_lt.mp hi
        rw [List.getElem?_append_right hi'] at h1'
        rw [List.getElem?_append_right (by rw [List.length_map,hl];exact hi'),List.length_map,hl] at h2
        obtain ⟨j,hj,hN⟩:=paired_get S.sl h1'
        have hv:σ[j]?=some (some v):=by
          unfold frv at h2
          rw [List.getElem?_map,hj] at h2
          have z':(σ[j]?).getD none=some v:=Option.some.inj h2
          cases z:σ[j]? with
          | none=>rw [z] at z';cases z'
          | some o=>rw [z] at z';exact congrArg some z'
        obtain ⟨hfree,hcell,hsome⟩:=S.vis y (List.mem_of_getElem? h1')
        obtain ⟨d,hd⟩:=Option.isSome_iff_exists.mp hsome
        obtain ⟨u,ru,o,ho,hdt⟩:=W.val j y v d hN hv hcell (cellOf y d hd)
        exact ⟨u,ru,.inr ⟨.inr hfree,d,hd,o,hk₁ _ _ (e0.bs _ _ ho).1,hdt⟩⟩
    · obtain ⟨v,o,ho,hd⟩:=W.cel y d (cellOf y d h)
      exact ⟨v,o,hk₁ _ _ (e0.bs _ _ ho).1,hd⟩
    · obtain ⟨v,o,ho,hd⟩:=W.cel y d (cellOf y d h)
      exact (e0.bs _ _ ho).2
    · show (vs.map some++frv js σ).length=(ps++fv).length
      have:fv.length=js.length:=Paired.length S.sl
      simp [frv,this,hl]
  refine PySem.W.kla_codeExpr (wpAny_mono (hte [] _ _ H Q I hq) (fun v s' hs=>?_) fun e s' hs=>False.elim hs)
  obtain ⟨x,H',J,rv,qv⟩:=hs
  exact ⟨x,H',J.os,J.bare,J.base,J.hok,rv,qv⟩
end L2
namespace L2
open PySem PySem.Spec PyProof.Rows
def Itst (m:Int)(n:Nat):It:=⟨fun i _=>i<n,fun i H x H'=>H'=H∧x=.int (i*m),fun i _=>n≤i⟩
theorem turn_step {P:Program}{w:World}{K:PySem.W.Frag}{tg:Expr}(it:Addr)(m:Int)(n:Nat):Turn P w K tg (Itst m n) [it] it (fun i h=>IsRangeIter h it (0+(i:Nat)*m) ((n:Int)-(i:Nat)) m) where
  mem:=by simp
  obj:=fun i h st b hb=>by
    obtain rfl:b=it:=by simpa using hb
    exact ⟨_,st,fun v z=>by
      have z':Data.fields _=Data.cell v:=z
      cases z'⟩
  keep:=fun i h h' st k=>k it (by simp) _ st
  item:=by
    intro X hP hw hK hc i pins s σ H E I hf st hg
    subst hP hw hK
    obtain ⟨f0,f1,f2,f3,f4,f5⟩:=hf it (by simp)
    have W:=Walks.range (prog:=X.prog) (w:=X.w) (I.ok.hd hc) it 0 m n
    refine W.item i s _ _ hg st fun v h' tk hv st' kk=>?_
    obtain ⟨t,rfl⟩:=hv
    have I1:Inv X pins σ H { s with heap:=h',toks:=tk }:=I.turned (fun b o hb e=>kk b o (by simpa using hb) e) f0 f1 f3 f4 f5
    refine ⟨_,rfl,go_of (s:={ s with heap:=h',toks:=tk }) (n:="range_iterator") st' rfl rfl (by decide) ⟨.int (i*m),H,I1,⟨t,?_⟩,⟨rfl,rfl⟩,st',fun b hb=>(hf b hb).1⟩⟩
    rw [Int.zero_add]
  done:=by
    intro X hP hw hK hc i pins s σ H E I hf st hg
    subst hP hw hK
    obtain ⟨f0,f1,f2,f3,f4,f5⟩:=hf it (by simp)
    exact wpAny_pyNext_range_end (I.ok.hd hc) st (by have:n≤i:=hg;omega) fun h' eb=>⟨rfl,I.turned (t':=s.toks) (fun b o hb e=>eb b o hb e) f0 f1 f3 f4 f5⟩
  self:=fun _ _ _ _ _ st h=>wpAny_pyIter_rangeiter st h
def stepN (j m:Int):Nat:=(if 0<j then (j-1) / m+1 else 0).toNat
theorem size_step {j m:Int}(hm:1≤m):Builtin.Range.rangeSize 0 j m=((stepN j m:Nat):Int):=by
  unfold Builtin.Range.rangeSize stepN
  rw [if_pos (show m>0 by omega)]
  by_cases h:0<j
  · have h2:0≤(j-1) / m:=Int.ediv_nonneg (by omega) (by omega)
    rw [if_pos h,if_pos h,Int.sub_zero]
    omega
  · rw [if_neg h,if_neg h];rfl
theorem step_le {j m:Int}(h0:0≤j)(hm:1≤m):((stepN j m:Nat):Int)≤j:=by
  unfold stepN
  by_cases h:0<j
  · have h2:0≤(j-1) / m:=Int.ediv_nonneg (by omega) (by omega)
    have h3:(j-1) / m≤j-1:=Int.ediv_le_self _ (by omega)
    rw [if_pos h]
    omega
  · rw [if_neg h];simpa using h0
theorem small_step {j m:Int}(h0:0≤j)(h1:j≤1000000)(hm:1≤m)(hm2:m≤1000000):Builtin.Range.small 0 j m=true:=by
  have hs:=step_le h0 hm
  have h2:(0:Int)≤((stepN j m:Nat):Int):=Int.natCast_nonneg _
  unfold Builtin.Range.small
  rw [size_step hm,if_pos (show m>0 by omega)]
  generalize ((stepN j m:Nat):Int)=z at hs h2
  simp only [Builtin.Range.rangeFitsLong,Bool.and_eq_true,Bool.or_eq_true,decide_eq_true_eq,beq_iff_eq]
  omega
section
variable {X:Cx}{tg:Expr}
def iRng3 (ta:TA):TI:=fun σ H R=>ta σ H fun vs H1=>∃ j m:Int,vs=[.int 0,.int j,.int m]∧(0≤j∧j≤1000000∧1≤m∧m≤1000000)∧R (Itst m (stepN j m)) H1
theorem pi_range3 {a b c:Expr}{ta:TA}{p pos:Pos}(hg:Gl X "range")(hm:X.mg "range"=none)(ha:PA X [a,b,c] ta)
    (hs:starEach [a,b,c] X.env=[(false,eval a X.env),(false,eval b X.env),(false,eval c X.env)]:=by rfl) (hs2:starEach [b,c] X.env=[(false,eval b X.env),(false,eval c X.env)]:=by rfl):
    PI X tg (.Call (.Name "range" p) [a,b,c] [] pos) (iRng3 ta):=by
  intro pins s σ H R I h
  refine Call_ (ld_blt I hg hm boot_range (PyProof.Rows.callWith_type1 (thn (ha pos pins s σ H _ I h) fun us s1 ⟨vs,H1,I1,r1,q1⟩=>?_) (by rw [hs,hs2]) (by rw [hs2];rfl)))
  obtain ⟨j,m,e,⟨q1,q2,q3,q4⟩,q⟩:=q1
  subst e
  cases r1 with
  | cons r rr=>
    cases rr with
    | cons r' rr=>
      cases rr with
      | cons r2 rr=>
        cases rr
        obtain ⟨t,rfl⟩:=r
        obtain ⟨t',rfl⟩:=r'
        obtain ⟨t2,rfl⟩:=r2
        refine call_range_3 (by omega) ?_ (Or.inl (PyProof.noPylong_small (by omega)))
        refine wpAny_pyIter_range (IsRange.new ..) (small_step q1 q2 q3 q4) ?_
        have I2:Inv X pins σ H1 { s1 with heap:=s1.heap.push { cls:=.type "range",data:=.fields #[.int 0 t,.int j t',.int m t2] },toks:=s1.toks }:=I1.kept fun b o e=>Heap.get?_push_of_some _ e
        refine ⟨(s1.heap.push { cls:=.type "range",data:=.fields #[.int 0 t,.int j t',.int m t2] }).objs.size,[(s1.heap.push { cls:=.type "range",data:=.fields #[.int 0 t,.int j t',.int m t2] }).objs.size],_,_,H1,rfl,
          I2.kept (t':=s1.toks) fun b o e=>Heap.get?_push_of_some _ e,turn_step _ m (stepN j m),?_,fun b hb=>?_,q⟩
        · show IsRangeIter _ _ (0+((0:Nat):Int)*m) (((stepN j m:Nat):Int)-((0:Nat):Int)) m
          have e1:0+((0:Nat):Int)*m=0:=by simp
          have e2:((stepN j m:Nat):Int)-((0:Nat):Int)=Builtin.Range.rangeSize 0 j m:=by rw [size_step q3];simp
          rw [e1,e2]
          exact Heap.get?_push_size _ rfl
        · obtain rfl:b=(s1.heap.push { cls:=.type "range",data:=.fields #[.int 0 t,.int j t',.int m t2] }).objs.size:=by simpa using hb
          exact I2.fpOk (Nat.le_refl _) (I2.hok.fresh (Nat.le_refl _))
end
section
variable {P:Program}{w:World}{K:PySem.W.Frag}{mg:Str→Option Value}{base:Heap}
theorem Fun.okC {x qual:Str}{st:Stmt}{f:Addr}{fd:FuncData}{N ps:List Str}{k:Nat}{sp:Sp}(F:Fun K x qual st f fd)(S:FnScope N ps (defScope st))(len:∀ vs H Q E,sp vs H Q E→vs.length=ps.length)
    (hbody:∀ (cdv:Value) (A:Around) (outer:List Env) (s:Shared) (H:Hp) (vs:List V) (Q:VK) (E:XK),fd.code=cdv→Room k (A.deeper (envOfC qual (defScope st) s.heap.objs.size f cdv))→sp vs H Q E→
      ∃ t,PSs (cxOf CX0 P w K mg base N qual (defScope st) f cdv A outer s H E).nox (defBody st) t∧t { nx:=fun _ H'=>Q .non H',rt:=Q } (start N vs) H):FnOk P w K mg base CX0 (k+1) f fd ps sp:=by
  obtain ⟨oc,od,kV,doc,pm,an,cdv,ct,osl,rfl,lk,hcd⟩:=F.ex
  refine fn_of lk hcd S len fun A outer s H vs Q E hr hsp=>?_
  obtain ⟨t,h,q⟩:=hbody cdv A outer s H vs Q E rfl hr hsp
  exact ⟨t,h.nox,q⟩
theorem code_in {x qual:Str}{st:Stmt}{f c T:Addr}{fd:FuncData}(F:Fun K x qual st f fd)(hn:PySem.W.nsIn K mainGlobals x=some (some (.ref f)))(ht:PySem.W.tabIn K x=some (c,T)):fd.code=.ref c:=by
  obtain ⟨oc,od,kV,doc,pm,an,cdv,ct,osl,rfl,lk,hcd⟩:=F.ex
  unfold PySem.W.tabIn at ht
  rw [hn] at ht
  dsimp only at ht
  rw [lk] at ht
  dsimp only at ht
  split at ht
  · rename_i c' e
    split at ht
    · split at ht
      · cases ht
        rfl
      · cases ht
    · cases ht
  · cases ht
end
end L2
namespace L2
open PySem PySem.Spec PyProof.Rows
theorem rec_of {p:Program}{x:Str}(h:(recsOf p).any (fun e=>e.name==x)=true):∃ d,(recsOf p).find? (fun e=>e.name==x)=some d:=by
  obtain ⟨d,hd,e⟩:=List.any_eq_true.mp h
  cases q:(recsOf p).find? (fun e=>e.name==x) with
  | some u=>exact ⟨u,rfl⟩
  | none=>exact absurd e (by simpa using List.find?_eq_none.mp q d hd)
end L2
namespace L2
open PySem PySem.Spec PyProof.Rows
section
variable {X:Cx}{scope:Scope}{cl:List (Str×Addr)}{C:Addr}{N:List Str}{s₀:Shared}{H₀:Hp}{ex:List Addr}{pn:List (Addr×Obj)}
theorem slc_list:SlR (cxComp X scope cl C N s₀ H₀ ex pn) (rSlL X.K):=sl_list
theorem call_tuple_ofc:CallR (cxComp X scope cl C N s₀ H₀ ex pn) (.type "tuple") (fun xs H Q=>∃ p ys,xs=[.ref p]∧((SqL X.K H p ys∧∀ l,H l=none→Q (.ref l) (upd H l (.tup ys)))∨(SqT X.K H p ys∧Q (.ref p) H))):=call_tuple_of
theorem pe_callWc {k:Nat}{fe e:Expr}{es:List Expr}{tf:TE}{t:TA}{pos:Pos}(hf:PE (cxComp X scope cl C N s₀ H₀ ex pn) fe tf)(hr:Room k X.A)(ha:PA (cxComp X scope cl C N s₀ H₀ ex pn) (e::es) t)
    (hc:eval (.Call fe (e::es) [] pos) (cxComp X scope cl C N s₀ H₀ ex pn).env=(do callWith pos (← eval fe (cxComp X scope cl C N s₀ H₀ ex pn).env) [] (backTo pos (starEach (e::es) (cxComp X scope cl C N s₀ H₀ ex pn).env)) (backToKw pos (keywordEach [] (cxComp X scope cl C N s₀ H₀ ex pn).env))):=by rfl)
    (he:starEach (e::es) (cxComp X scope cl C N s₀ H₀ ex pn).env=(false,eval e (cxComp X scope cl C N s₀ H₀ ex pn).env)::starEach es (cxComp X scope cl C N s₀ H₀ ex pn).env:=by rfl) (hpl:(backTo pos (starEach es (cxComp X scope cl C N s₀ H₀ ex pn).env)).any (·.1)=false:=by rfl):
    PE (cxComp X scope cl C N s₀ H₀ ex pn) (.Call fe (e::es) [] pos) (tCallW X k tf t):=pe_callW (X:=cxComp X scope cl C N s₀ H₀ ex pn) hf hr ha hc he hpl
end
end L2
namespace L2
open PySem PySem.Spec PyProof.Rows
theorem law_callT {P:Program}{w:World}{K:PySem.W.Frag}{mg mb:Str→Option Value}{CX:CXT}{k:Nat}{fa a:Addr}{fd:FuncData}{x:Str}{sp:Sp}{s₁:Shared}{vs:List Value}{ns:List Int}{tabs:List (Addr×Addr)}
    (KX:K.In s₁.heap) (hns:s₁.heap.Ns mainGlobals mg) (hb:s₁.heap.Ns builtinsNs mb) (hbb:∀ x:Str,x≠"__name__"→mb x=bootBuiltins x) (hlim:s₁.heap.NoLimit) (hg:s₁.gens=#[])
    (ha:s₁.heap.get? a=some { cls:=.type "list",data:=.seq vs.toArray }) (hi:IntsAre vs ns) (hl:ns.length≤sizeLine) (hr:Room k callerA)
    (hBM:BM mg s₁.heap) (F:∀ base:Heap,K.In base→base.Ns mainGlobals mg→(∀ q∈tabs,PySem.W.CodeHd base q.1 q.2)→BM mg base→FnOk P w K mg base CX k fa fd [x] sp) (hbind:∀ (s:Shared) (u:Value),BindsTo s fd ⟨[u],[]⟩ [(x,u)])
    (hT:PySem.W.TabsAt tabs s₁.heap) (hKT:PySem.W.noTabs K=true)
    (hsp:∀ H:Hp,(∀ q∈tabs,H q.2=some (.tbl #[]))→SqL K H a (ns.map V.int)→sp [.ref a] H (fun v _=>v=.bl true) fun _ _ _=>False)
    (hCX:∀ H e s',CX [] H s₁ (fun _ _ _=>False) e s'→False):
    codeAny (model P w) callerA (.call (.ref fa) ⟨[.ref a],[]⟩) (fun r s'=>r=.ok (.ret (.bool true))∧OldK s₁.heap s'.heap∧s'.os=s₁.os∧AllBare s'.gens) s₁:=by
  have rv:=vals_ints hi
  have lenV:=hi.length
  have noKT:∀ b,b∈tabs.map (·.2)→K.lookup b=none:=fun b hb=>by
    obtain ⟨q,hq,rfl⟩:=List.mem_map.mp hb
    cases e:K.lookup q.2 with
    | none=>rfl
    | some o=>
      have h1:=KX _ _ e
      rw [(hT q hq).2] at h1
      cases h1
      have h2:=List.all_eq_true.mp hKT _ (PySem.W.mem_of_lookupK e)
      cases h2
  have core:∀ H:Hp,(∀ q∈tabs,H q.2=some (.tbl #[]))→(∀ b,b∉tabs.map (·.2)→H b=none∨∃ o xs,H b=some (.frz o (.lst xs)))→SqL K H a (ns.map V.int)→HOk P w H s₁.heap→(∀ b,H b≠none→b=a∨b∈tabs.map (·.2))→(H a≠none→K.lookup a=none)→
      codeAny (model P w) callerA (.call (.ref fa) ⟨[.ref a],[]⟩) (fun r s'=>r=.ok (.ret (.bool true))∧OldK s₁.heap s'.heap∧s'.os=s₁.os∧AllBare s'.gens) s₁:=by
    intro H hTb hO hS hok hA hK
    have base_of:∀ {b:Addr} {o:Obj},s₁.heap.get? b=some o→H b=none→(hidT s₁.heap H).get? b=some o:=fun e n=>hidT_get e n
    have noA:∀ {b:Addr} {o:Obj} {es:Array DictEntry} {ep:Nat},s₁.heap.get? b=some o→o.data=.dict es ep→H b=none:=fun {b o es ep} e d=>by
      cases q:H b with
      | none=>rfl
      | some u=>
        rcases hA b (by rw [q];simp) with e' | e'
        · subst e'
          rw [ha] at e;cases e
          have d':Data.seq vs.toArray _=Data.dict es ep:=d
          cases d'
        · obtain ⟨r,hr',rfl⟩:=List.mem_map.mp e'
          rw [(hT r hr').2] at e
          cases e
          cases d
    have nsK:∀ {b:Addr} {m:Str→Option Value},s₁.heap.Ns b m→(hidT s₁.heap H).Ns b m:=fun {b m} ⟨o,es,ep,e,d,r⟩=>⟨o,es,ep,base_of e (noA e d),d,r⟩
    have hKb:K.In (hidT s₁.heap H):=fun b o e=>base_of (KX b o e) (by
      cases q:H b with
      | none=>rfl
      | some u=>
        rcases hA b (by rw [q];simp) with e' | e'
        · subst e'
          rw [hK (by rw [q];simp)] at e;cases e
        · rw [noKT b e'] at e;cases e)
    have hM:Mod K mg (hidT s₁.heap H):=⟨hKb,nsK hns,⟨mb,nsK hb,hbb⟩,let ⟨mc,h1,h2⟩:=hlim;⟨mc,nsK h1,h2⟩⟩
    have e0:Env0 P w K mg (hidT s₁.heap H) callerA [] s₁ H:=⟨rfl,hM,fun b o e=>of_hidT e,Nat.le_of_eq (hidT_size _ _),trivial,fun b hb=>absurd (show b∈([]:List Addr) from hb) (by simp),hok,.of_eq hg⟩
    have noB:∀ {b:Addr} {o:Obj} {n:String},s₁.heap.get? b=some o→o.cls=.type n→n≠"list"→H b=none:=fun {b o n} e d dn=>by
      cases q:H b with
      | none=>rfl
      | some u=>
        rcases hA b (by rw [q];simp) with e' | e'
        · subst e'
          rw [ha] at e;cases e
          have d':Value.type "list"=Value.type n:=d
          cases d'
          exact absurd rfl dn
        · obtain ⟨r,hr',rfl⟩:=List.mem_map.mp e'
          rw [(hT r hr').2] at e
          cases e
          cases d
    have hCd:∀ q∈tabs,PySem.W.CodeHd (hidT s₁.heap H) q.1 q.2:=fun q hq=>by
      obtain ⟨o,vs,file,tf,flags,tg,inF,text,tt,e,ec,r⟩:=(hT q hq).1
      exact ⟨o,vs,file,tf,flags,tg,inF,text,tt,base_of e (noB e ec (by decide)),ec,r⟩
    have hBd:BM mg (hidT s₁.heap H):=by
      obtain ⟨bm,o,b1,b2,b3,b4,b5⟩:=hBM
      exact ⟨bm,o,b1,b2,base_of b3 (noB b3 b4 (by decide)),b4,b5⟩
    refine codeAny_mono ((F _ hKb (nsK hns) hCd hBd).run callerA [] s₁ H ⟨[.ref a],[]⟩ [.ref a] [.ref a] _ _ hr e0 (hbind s₁ (.ref a)) (.cons rfl .nil) (hsp H hTb hS)) fun r s' h=>?_
    cases r with
    | error e=>exact (hCX H e s' h).elim
    | ok fl=>
      cases fl with
      | next=>exact False.elim h
      | brk=>exact False.elim h
      | cont=>exact False.elim h
      | ret u=>
        obtain ⟨v,H',os,bare,un,hok',r',q⟩:=h
        have q':v=.bl true:=q
        subst q'
        obtain rfl:u=Value.bool true:=r'
        refine ⟨rfl,⟨fun b o e=>?_,fun b o e=>un.there b o e (by simp)⟩,os,bare⟩
        by_cases hb:b∈tabs.map (·.2)
        · obtain ⟨q,hq,rfl⟩:=List.mem_map.mp hb
          obtain ⟨more,e2⟩:=un.tbls _ _ (hTb q hq)
          have e3:s'.heap.get? q.2=some { cls:=.none,data:=.fields (#[]++more) }:=hok' _ _ e2
          rw [(hT q hq).2] at e
          cases e
          obtain ⟨oc,vc,file,tf,flags,tg,inF,text,tt,g1,g2,g3,g4,_⟩:=(hT q hq).1
          exact .inr (.inl ⟨⟨_,_,_,g1,g2,g3,g4⟩,rfl,_,_,rfl,e3⟩)
        · refine .inl ?_
          rcases hO b hb with q | ⟨ob,xs,z⟩
          · exact un.keep b o e q (fun z=>absurd (show b∈([]:List Addr) from z) (by simp)) (by simp)
          · obtain ⟨e1,_⟩:=hok b _ z
            obtain ⟨e2,_⟩:=hok' b _ (un.frzs b ob _ z)
            rw [e] at e1;cases e1
            exact e2
  have nTa:a∉tabs.map (·.2):=fun hm=>by
    obtain ⟨q,hq,e⟩:=List.mem_map.mp hm
    have h1:=(hT q hq).2
    rw [e,ha] at h1
    cases h1
  have tok:∀ q∈tabs,s₁.heap.get? q.2=some { cls:=.none,data:=.fields #[] }:=fun q hq=>(hT q hq).2
  cases hk:K.lookup a with
  | some o=>
    have e:=KX a o hk
    rw [ha] at e
    cases e
    refine core (fun b=>if b∈tabs.map (·.2) then some (.tbl #[]) else none) (fun q hq=>if_pos (List.mem_map_of_mem hq)) (fun b hb=>.inl (if_neg hb)) (.inr ⟨_,vs.toArray,_,hk,rfl,rfl,rfl,by rw [List.size_toArray,lenV];exact hl,by simpa using rv⟩) (fun b u z=>?_) (fun b z=>?_) (fun z=>absurd (if_neg nTa) z)
    · by_cases hb:b∈tabs.map (·.2)
      · have z':=(if_pos hb).symm.trans z
        cases z'
        obtain ⟨q,hq,rfl⟩:=List.mem_map.mp hb
        exact tok q hq
      · have z':=(if_neg hb).symm.trans z
        cases z'
    · by_cases hb:b∈tabs.map (·.2)
      · exact .inr hb
      · exact absurd (if_neg hb) z
  | none=>
    refine core (fun b=>if b∈tabs.map (·.2) then some (.tbl #[]) else if b=a then some (.frz { cls:=.type "list",data:=.seq vs.toArray } (.lst (ns.map V.int))) else none) (fun q hq=>if_pos (List.mem_map_of_mem hq)) (fun b hb=>?_) (.inl (.inr ⟨{ cls:=.type "list",data:=.seq vs.toArray },(if_neg nTa).trans (if_pos rfl)⟩)) (fun b u z=>?_) (fun b z=>?_) (fun _=>hk)
    · by_cases hba:b=a
      · exact .inr ⟨_,_,(if_neg hb).trans (if_pos hba)⟩
      · exact .inl ((if_neg hb).trans (if_neg hba))
    · by_cases hb:b∈tabs.map (·.2)
      · have z':=(if_pos hb).symm.trans z
        cases z'
        obtain ⟨q,hq,rfl⟩:=List.mem_map.mp hb
        exact tok q hq
      · by_cases hba:b=a
        · have z':=((if_neg hb).trans (if_pos hba)).symm.trans z
          cases z'
          subst hba
          exact ⟨ha,by rw [List.length_map];exact hl,vs,_,rv,ha⟩
        · have z':=((if_neg hb).trans (if_neg hba)).symm.trans z
          cases z'
    · by_cases hb:b∈tabs.map (·.2)
      · exact .inr hb
      · by_cases hba:b=a
        · exact .inl hba
        · exact absurd ((if_neg hb).trans (if_neg hba)) z
theorem bm_of {p:Program}{loose:List Str}{mean:ExcName→Option Value}{mg mb:Str→Option Value}{h:Heap}(T:Top p loose mean mg mb h):BM mg h:=by
  obtain ⟨bm,ob,b1,b2,b3,b4,b5,b6⟩:=T.bmain
  refine ⟨bm,ob,b1,⟨b2,fun q=>?_⟩,b3,b4,b5,b6⟩
  obtain ⟨o,es,ep,e,hd,_⟩:=T.g
  rw [q,e] at b3
  cases b3
  rw [hd] at b6
  cases b6
theorem walk_ofT {l:PySem.W.OpenLaw}{n k:Nat}{q:Program}{loose:List Str}{XP:(Str→Option Value)→Heap→Prop}{YP:World→Heap→Prop}{d:DefRec}{K:Params→PySem.W.Frag}{x:Str}
    (hn:l.most=some n) (hn2:n≤sizeLine) (hdf:d.params.defaults=[]) (hr:Room k callerA) (hY:∀ (w:World) (h:Heap),YP w h→(K w.params).In h) (hKT:∀ w:World,PySem.W.noTabs (K w.params)=true)
    (F:∀ (w:World) (mean:ExcName→Option Value) (mg mb:Str→Option Value) (fa:Addr) (h:Heap),(K w.params).In h→Top q (PySem.W.looseW q loose) mean mg mb h→mg d.name=some (.ref fa)→
      ∃ (fd:FuncData) (tabs:List (Addr×Addr)) (sp:Sp),(∀ (s:Shared) (u:Value),BindsTo s fd ⟨[u],[]⟩ [(x,u)])∧PySem.W.TabsAt tabs h∧
        (∀ (H:Hp) (a:Addr) (ns:List Int),ns.length≤n→(∀ q∈tabs,H q.2=some (.tbl #[]))→SqL (K w.params) H a (ns.map V.int)→sp [.ref a] H (fun v _=>v=.bl true) E0)∧
        ∀ base:Heap,(K w.params).In base→base.Ns mainGlobals mg→(∀ q∈tabs,PySem.W.CodeHd base q.1 q.2)→BM mg base→FnOk l.prog w (K w.params) mg base CX0 k fa fd [x] sp):
    PySem.W.WalkO q loose XP YP l.row.toRowW d [] (fun f vs=>PySem.call f vs):=by
  refine Att.attach_call hn hdf fun w s₀ s₁ mg mb fa o pm cd doc a vs ns G Y ho hd hcd hmg hobj hints hlen hg=>?_
  have KX:=hY w _ Y
  obtain ⟨fd,tabs,sp,hb,hT,hS,hF⟩:=F w _ mg mb fa _ KX G.T hmg
  exact law_callT KX G.T.g G.T.b G.T.builtins G.T.nolimit hg hobj hints (Nat.le_trans hlen hn2) hr (bm_of G.T) hF hb hT (hKT w) (fun H hO hS'=>hS H a ns hlen hO hS') fun H e s' h=>h.elim
end L2
namespace L2
open PySem PySem.Spec PyProof.Rows
def Itzl (K:PySem.W.Frag)(t l:Addr):It:=
  ⟨fun i H=>∃ xs ys x y,SqL K H t xs∧SqL K H l ys∧xs[i]?=some x∧ys[i]?=some y,
   fun i H v H'=>∃ x y b,(∀ xs,SqL K H t xs→xs[i]?=some x)∧(∀ ys,SqL K H l ys→ys[i]?=some y)∧H b=none∧v=.ref b∧H'=upd H b (.tup [x,y]),
   fun i H=>∃ xs ys,SqL K H t xs∧SqL K H l ys∧(xs.length≤i∨ys.length≤i)⟩
theorem turn_zipl {P:Program}{w:World}{K:PySem.W.Frag}{els:List Expr}{x1}{pt:Pos}(t l z TI TO i1 i2:Addr)(D:ZipApart z TI TO i1 i2 t l):
    Turn P w K (.Tuple els x1 pt) (Itzl K t l) [z,TI,TO,i1,i2] z (fun i h=>IsZip h z TI TO .none∧IsPair h TI (.ref i1) (.ref i2)∧(∃ a b,IsPair h TO a b)∧h.IsListIter i1 t i∧h.IsListIter i2 l i) where
  mem:=by simp
  obj:=fun i h st b hb=>by
    obtain ⟨h1,h2,⟨_,_,h3⟩,⟨o4,h4,_,d4⟩,⟨o5,h5,_,d5⟩⟩:=st
    have hb':b=z∨b=TI∨b=TO∨b=i1∨b=i2:=by simpa using hb
    rcases hb' with rfl | rfl | rfl | rfl | rfl
    · exact ⟨_,h1,fun v z=>by cases z⟩
    · exact ⟨_,h2,fun v z=>by cases z⟩
    · exact ⟨_,h3,fun v z=>by cases z⟩
    · exact ⟨_,h4,fun v z=>by rw [d4] at z;cases z⟩
    · exact ⟨_,h5,fun v z=>by rw [d5] at z;cases z⟩
  keep:=fun i h h' st k=>by
    obtain ⟨h1,h2,⟨a,b,h3⟩,h4,h5⟩:=st
    exact ⟨k z (by simp) _ h1,k TI (by simp) _ h2,⟨a,b,k TO (by simp) _ h3⟩,h4.at fun o q=>k i1 (by simp) o q,h5.at fun o q=>k i2 (by simp) o q⟩
  item:=by
    intro X hP hw hK hc i pins s σ H E I hf st hg
    subst hP hw hK
    obtain ⟨xs,ys,x,y,hqx,hqy,hx,hy⟩:=hg
    obtain ⟨hz,hTI,⟨a,b,hTO⟩,h1,h2⟩:=st
    obtain ⟨its,rv,p,_⟩:=I.list hqx
    obtain ⟨its2,rv2,p2,_⟩:=I.list hqy
    obtain ⟨u,hu,ru⟩:=rv.get hx
    obtain ⟨v,hv,rv'⟩:=rv2.get hy
    refine wpAny_pyNext_zip_item D hz hTI hTO h1 h2 p.isList p2.isList (x:=u) (y:=v) (by simpa using hu) (by simpa using hv) fun h1' hz1 hTO1 hi1 hi2 hT1 hsz1 hk1=>⟨_,rfl,?_⟩
    refine wpAny_letOwnedTupleGo_zip (s:={ s with heap:=h1' }) hz1 fun h2' hz2 hs2=>?_
    replace hs2:Heap.SameBut z h1' h2':=hs2
    have zH:z<s.heap.objs.size:=Heap.lt_size hz
    have TOH:TO<s.heap.objs.size:=Heap.lt_size hTO
    have TIH:TI<s.heap.objs.size:=Heap.lt_size hTI
    have i1H:i1<s.heap.objs.size:=by obtain ⟨_,q,_⟩:=id h1;exact Heap.lt_size q
    have i2H:i2<s.heap.objs.size:=by obtain ⟨_,q,_⟩:=id h2;exact Heap.lt_size q
    have hTI2:IsPair h2' TI (.ref i1) (.ref i2):=hs2.extBut _ _ D.TIz (hk1 _ _ D.TIz D.TITO D.TIi1 D.TIi2 hTI)
    have hTO2:IsPair h2' TO u v:=hs2.extBut _ _ D.TOz hTO1
    have hi12:h2'.IsListIter i1 t (i+1):=hi1.extBut hs2.extBut D.i1z
    have hi22:h2'.IsListIter i2 l (i+1):=hi2.extBut hs2.extBut D.i2z
    have hT2:IsPair h2' s.heap.objs.size u v:=hs2.extBut _ _ (Nat.ne_of_gt zH) hT1
    obtain ⟨o1,ho1,_,hd1⟩:=id hi12
    obtain ⟨o2,ho2,_,hd2⟩:=id hi22
    obtain ⟨mid,hm1,hm2,hm3⟩:=mids (h:=s.heap) (h2:=h2') [z,TI,TO,i1,i2] (fun b hb=>by
      have hb':b=z∨b=TI∨b=TO∨b=i1∨b=i2:=by simpa using hb
      rcases hb' with rfl | rfl | rfl | rfl | rfl
      · exact ⟨_,hz⟩
      · exact ⟨_,hTI⟩
      · exact ⟨_,hTO⟩
      · obtain ⟨o,q,_⟩:=id h1;exact ⟨o,q⟩
      · obtain ⟨o,q,_⟩:=id h2;exact ⟨o,q⟩) (fun b hb=>by
      have hb':b=z∨b=TI∨b=TO∨b=i1∨b=i2:=by simpa using hb
      rcases hb' with rfl | rfl | rfl | rfl | rfl
      · exact ⟨_,hz2,rfl⟩
      · exact ⟨_,hTI2,rfl⟩
      · exact ⟨_,hTO2,rfl⟩
      · exact ⟨_,ho1,Obj.isFreed_of_fields hd1⟩
      · exact ⟨_,ho2,Obj.isFreed_of_fields hd2⟩)
    have I1:Inv X pins σ H { s with heap:=mid }:=I.turnedL (t':=s.toks) (fs:=[z,TI,TO,i1,i2]) (fun b o hb q=>(hm3 b hb).trans q) hf
    have k2:∀ b o,mid.get? b=some o→h2'.get? b=some o:=fun b o q=>by
      by_cases c:b∈[z,TI,TO,i1,i2]
      · exact (hm2 b c).symm.trans q
      · rw [hm3 b c] at q
        have c':b≠z∧b≠TI∧b≠TO∧b≠i1∧b≠i2:=by simpa using c
        exact hs2.extBut _ _ c'.1 (hk1 _ _ c'.1 c'.2.2.1 c'.2.2.2.1 c'.2.2.2.2 q)
    have fz:mid.objs.size≤s.heap.objs.size:=by rw [hm1];exact Nat.le_refl _
    have I3:Inv X pins σ (upd H s.heap.objs.size (.tup [x,y])) { s with heap:=h2' }:=
      I1.laid (t':=s.toks) k2 fz (show ObjOk X.prog X.w _ h2' _ (.tup [x,y]) from ⟨by show 2≤sizeLine;rw [sizeLine_eq];decide,[u,v],.cons ru (.cons rv' .nil),⟨_,hT2,rfl,_,rfl⟩⟩)
    refine ⟨.ref s.heap.objs.size,_,I3,rfl,⟨x,y,s.heap.objs.size,(fun zs hz=>by rw [I.list_inj hz hqx];exact hx),(fun zs hz=>by rw [I.list_inj hz hqy];exact hy),I.hok.fresh (Nat.le_refl _),rfl,rfl⟩,⟨hz2,hTI2,⟨_,_,hTO2⟩,hi12,hi22⟩,fun b hb=>?_⟩
    have lt:b<s.heap.objs.size:=by
      have hb':b=z∨b=TI∨b=TO∨b=i1∨b=i2:=by simpa using hb
      rcases hb' with rfl | rfl | rfl | rfl | rfl <;> assumption
    rw [upd_ne (Nat.ne_of_lt lt)]
    exact (hf b hb).1
  done:=by
    intro X hP hw hK hc i pins s σ H E I hf st hg
    subst hP hw hK
    obtain ⟨xs,ys,hqx,hqy,hx⟩:=hg
    obtain ⟨hz,hTI,⟨a,b,hTO⟩,h1,h2⟩:=st
    obtain ⟨its,rv,p,_⟩:=I.list hqx
    obtain ⟨its2,rv2,p2,_⟩:=I.list hqy
    have l1:=rv.length
    have l2:=rv2.length
    refine wpAny_pyNext_zip_end (I.ok.hd hc) D hz hTI hTO h1 h2 p.isList p2.isList (hx.imp (fun q=>by simp;omega) (fun q=>by simp;omega)) fun h' hk=>⟨rfl,?_⟩
    refine I.turnedL (t':=s.toks) (fs:=[z,TI,TO,i1,i2]) (fun b o hb q=>?_) hf
    have c':b≠z∧b≠TI∧b≠TO∧b≠i1∧b≠i2:=by simpa using hb
    exact hk _ _ c'.1 c'.2.2.1 c'.2.2.2.1 c'.2.2.2.2 q
  self:=fun _ _ _ _ _ st h=>wpAny_pyIter_zip st.1 h
section
variable {X:Cx}
def iZipl (K:PySem.W.Frag)(ta:TA):TI:=fun σ H R=>ta σ H fun vs H1=>∃ t l,vs=[V.ref t,V.ref l]∧(∃ xs,SqL K H1 t xs)∧(∃ ys,SqL K H1 l ys)∧R (Itzl K t l) H1
theorem pi_zipl {a c:Expr}{ta:TA}{p pos pt:Pos}{els:List Expr}{x1}(hg:Gl X "zip")(hm:X.mg "zip"=none)(hv:bootBuiltins "zip"=some (.type "zip"))(ha:PA X [a,c] ta)(hs:starEach [a,c] X.env=(false,eval a X.env)::starEach [c] X.env:=by rfl)(hs2:(backTo pos (starEach [c] X.env)).any (·.1)=false:=by rfl):
    PI X (.Tuple els x1 pt) (.Call (.Name "zip" p) [a,c] [] pos) (iZipl X.K ta):=by
  intro pins s σ H R I h
  refine Call_ (ld_blt I hg hm hv (PyProof.Rows.callWith_type1 (thn (ha pos pins s σ H _ I h) fun us s1 ⟨vs,H1,I1,r1,q1⟩=>?_) hs hs2))
  obtain ⟨t,l,e,⟨xs,hqx⟩,⟨ys,hqy⟩,q⟩:=q1
  subst e
  obtain ⟨u,v,rfl,ru,rv⟩:=Vals.two r1
  cases ru
  cases rv
  obtain ⟨its,rv,pt',_⟩:=I1.list hqx
  obtain ⟨its2,rv2,pl,_⟩:=I1.list hqy
  have tl:t<s1.heap.objs.size:=by obtain ⟨o,q,_⟩:=pt'.isList;exact Heap.lt_size q
  have ll:l<s1.heap.objs.size:=by obtain ⟨o,q,_⟩:=pl.isList;exact Heap.lt_size q
  refine call_zip_2 pt'.isList pl.isList fun h' hz hTI hTO hi1 hi2 hsz kp=>wpAny_pyIter_zip (s:={ s1 with heap:=h' }) hz ?_
  have I2:Inv X pins σ H1 { s1 with heap:=h' }:=I1.kept (t':=s1.toks) kp
  generalize hn:s1.heap.objs.size=n at *
  have ge:∀ b∈[n+4,n+2,n+3,n,n+1],n≤b:=fun b hb=>by
    have hb':b=n+4∨b=n+2∨b=n+3∨b=n∨b=n+1:=by simpa using hb
    rcases hb' with rfl | rfl | rfl | rfl | rfl
    · exact Nat.le_add_right _ _
    · exact Nat.le_add_right _ _
    · exact Nat.le_add_right _ _
    · exact Nat.le_refl _
    · exact Nat.le_add_right _ _
  have D:ZipApart (n+4) (n+2) (n+3) n (n+1) t l:=by
    have a1:t<n+4:=Nat.lt_of_lt_of_le tl (Nat.le_add_right _ _)
    have a2:l<n+4:=Nat.lt_of_lt_of_le ll (Nat.le_add_right _ _)
    have b1:t<n+3:=Nat.lt_of_lt_of_le tl (Nat.le_add_right _ _)
    have b2:l<n+3:=Nat.lt_of_lt_of_le ll (Nat.le_add_right _ _)
    have c1:t<n+1:=Nat.lt_of_lt_of_le tl (Nat.le_add_right _ _)
    have c2:l<n+1:=Nat.lt_of_lt_of_le ll (Nat.le_add_right _ _)
    have nn:∀ {i j:Nat},i≠j→(n+i:Nat)≠n+j:=fun h z=>h (Nat.add_left_cancel z)
    exact ⟨nn (by decide),nn (by decide),nn (i:=0) (by decide),nn (by decide),nn (by decide),nn (j:=0) (by decide),nn (by decide),nn (j:=0) (by decide),nn (by decide),nn (i:=0) (by decide),
      Nat.ne_of_lt a1,Nat.ne_of_lt b1,Nat.ne_of_lt tl,Nat.ne_of_lt c1,Nat.ne_of_lt a2,Nat.ne_of_lt b2,Nat.ne_of_lt ll,Nat.ne_of_lt c2⟩
  exact ⟨n+4,_,_,_,H1,rfl,I2,turn_zipl t l _ _ _ _ _ D,⟨hz,hTI,⟨_,_,hTO⟩,hi1,hi2⟩,fun b hb=>I1.fpOk (by rw [hn];exact ge b hb) (I1.hok.fresh (by rw [hn];exact ge b hb)),q⟩
end
end L2
namespace L2
open PySem PySem.Spec PyProof.Rows
section
variable {X:Cx}
def rRepT:R2:=fun x y H Q=>∃ t v n,x=.ref t∧y=.int ((n:Nat):Int)∧H t=some (.tup [v])∧1≤n∧n≤1000∧∀ p H',H' p=some (.tup (List.replicate n v))→Same H H'→Q (.ref p) H'
theorem ext_tup (l:Addr)(its:Array Value)(n:Nat)(b:Addr)(its2:Array Value)(n2:Nat)(dd:Option Addr)(sl:Array (Option Value))(hs0:¬(!its.isEmpty&&Builtin.List.listTooLong (its.size+its2.size))=true)(hs1:its.size≤sizeLine)(hs2:its.size+its2.size≤sizeLine+1):
    Meets (Builtin.«list.extend» ⟨[.ref l,.ref b],[]⟩) (fun _ R s=>s.heap.get? l=some { cls:=.type "list",dict:=none,data:=.seq its n,slots:=#[] }∧s.heap.get? b=some ⟨.type "tuple",dd,.seq its2 n2,sl⟩∧R (.ok (.ret Value.none)) { s with heap:=s.heap.update l (Obj.mapSeq fun x=>x++its2),toks:=s.toks }):=
  .of_wp fun prog w A R s h=>by
    obtain ⟨hp,g,d,tk,os⟩:=s
    obtain ⟨hl,hb,h⟩:=h
    have f1:=PySem.AutoSeq1.idx_int
    have f2:=PySem.AutoSeq1.sub_tuple_tuple
    have f3:=PySem.AutoSeq1.sub_list_list
    have f4:=PySem.AutoSeq1.sub_tuple_list
    have f5:=PySem.AutoSeq1.sub_list_tuple
    have hz':(its++its2).size≤sizeLine+1:=by rw [Array.size_append];exact hs2
    wp_walk using (wpAny_updateSeq hl rfl (hz:=hs1) (_hz':=hz')),wpAny_loadPart' hl,wpAny_loadPart' hb
    exact ⟨_,rfl,h⟩
def rExtT:V→List V→Hp→VK→Prop:=fun x vs H Q=>∃ l b xs zs,x=.ref l∧vs=[.ref b]∧H l=some (.lst xs)∧H b=some (.tup zs)∧xs.length+zs.length≤sizeLine∧Q .non (upd H l (.lst (xs++zs)))
theorem mt_extendT:MtM X "list.extend" rExtT:=by
  intro pins s σ H x vs v us Q I rx rv h
  obtain ⟨l,b,xs,zs,rfl,rfl,hH,hB,hz,q⟩:=h
  cases rx
  obtain ⟨u,rfl,ru⟩:=rv.one
  cases ru
  obtain ⟨z,its,n,r,hl,e⟩:=I.lstM hH
  obtain ⟨z2,its2,r2,o2,e2,c2,n2,d2⟩:=I.hok b _ hB
  obtain ⟨oc,od,oda,osl⟩:=o2
  dsimp only at c2 d2
  subst c2 d2
  have hsz:its.toArray.size+its2.toArray.size≤sizeLine:=by rw [List.size_toArray,List.size_toArray,← r2.length];omega
  have hlong:¬ (!its.toArray.isEmpty&&Builtin.List.listTooLong (its.toArray.size+its2.toArray.size))=true:=by
    rw [notLongL hsz,Bool.and_false]
    exact Bool.false_ne_true
  refine call_meets F.slot_list_extend ⟨_,e,rfl⟩ F.entry_list_extend (F.args_list_extend_2 _ _)
    (ext_tup l its.toArray n b its2.toArray n2 od osl hlong (by rw [List.size_toArray];omega) (by omega)) ⟨e,e2,?_⟩
  refine ⟨.non,_,I.lset (its':=its++its2) hH e (by simp) (r.append r2) ?_,rfl,q⟩
  rw [List.length_append]
  omega
end
end L2
namespace L2
open PySem PySem.Spec PyProof.Rows
structure CompScopeK (X:Cx)(scope:Scope)(cl:List (Str×Addr))(x:Str)(fv:List Str)(js:List Nat):Prop where
  kind:scope.kind=.function
  nc:∀ y∈scope.names,y.2=.cell→y.1=x
  nm:∀ y∈scope.names,y.2=.local→scope.names.lookup y.1=some .local
  hx:scope.names.lookup x=some .cell
  fr:∀ y∈scope.names,y.2=.free→y.1∈fv
  nd:(x::fv).Nodup
  vis:∀ y∈fv,scope.names.lookup y=some .free∧X.env.scope.names.lookup y=some .cell∧(cl.lookup y).isSome=true
  cls:∀ p∈cl,X.env.cells.lookup p.1=some p.2
  sl:Paired (fun y j=>X.N[j]?=some y) fv js
  cf:∀ n l,cellsFrom n scope.names l=(x,n)::l
  pc:∀ h:Heap,pushCells h scope.names=h.push { cls:=.type "cell",data:=.cell none }
section
variable {M:Model}{A:Around}{E:Value→Shared→Prop}{s:Shared}
end
section
variable {X:Cx}{scope:Scope}{cl:List (Str×Addr)}{x:Str}{fv:List Str}{js:List Nat}
theorem CompScopeK.cell_of (S:CompScopeK X scope cl x fv js){y:Str}{c:Addr}(h:cl.lookup y=some c):X.env.cells.lookup y=some c:=S.cls (y,c) (PySem.mem_of_lookup h)
theorem CompScopeK.ne (S:CompScopeK X scope cl x fv js){y:Str}(h:y∈fv):y≠x:=fun e=>(List.nodup_cons.mp S.nd).1 (e▸h)
theorem CompScopeK.own (S:CompScopeK X scope cl x fv js){C:Addr}{cl':List (Str×Addr)}{y:Str}{k:NameKind}(h:(compEnvC scope cl' C X.env).kindOf y=some k)(hk:k=.cell∨k=.free):y=x∨y∈fv:=by
  have h':(scope.names.map fun (n,k)=>if (k==NameKind.free&&X.env.scope.kind==.function&&X.env.kindOf n==some .cell) then (n,NameKind.cell) else (n,k)).lookup y=some k:=h
  rcases lookup_relabel_back h' with q | ⟨q,_⟩
  · rcases hk with rfl | rfl
    · exact .inl (S.nc _ (PySem.mem_of_lookup q) rfl)
    · exact .inr (S.fr _ (PySem.mem_of_lookup q) rfl)
  · exact .inr (S.fr _ (PySem.mem_of_lookup q) rfl)
end
end L2
namespace L2
open PySem PySem.Spec PyProof.Rows
theorem pairs_at {P:Program}{w:World}{κ:Type}[DecidableEq κ]{knd:KeyKind P w κ}:∀ {es:List DictEntry} {kvs:List (κ×Value)} {i:Nat} {kv:κ×Value},Pairs knd es kvs→kvs[i]?=some kv→∃ e,es[i]?=some e∧knd.is kv.1 e.key=true
  | _,_,_,_,.nil,h=>by simp at h
  | _,_,0,_,.cons a _ _,h=>by simp at h;subst h;exact ⟨_,rfl,a⟩
  | _,_,i+1,kv,.cons _ _ t,h=>by
    obtain ⟨e,h1,h2⟩:=pairs_at (i:=i) (kv:=kv) t (by simpa using h)
    exact ⟨e,by simpa using h1,h2⟩
theorem kV_rel {P:Program}{w:World}{k:Key}{u:Value}(h:(mixKind P w).is k u=true):RelV (kV k) u:=by
  rcases keyIs_shape h with ⟨i,t,rfl,rfl⟩ | ⟨x,t,rfl,rfl⟩
  · exact ⟨t,rfl⟩
  · exact ⟨t,rfl⟩
section
variable {X:Cx}{tg:Expr}{pins:List (Addr×Obj)}{σ:St}{H:Hp}{s:Shared}
theorem Inv.freezeK {a:Addr}{kvs:List (Key×V)}{o:Obj}(I:Inv X pins σ H s)(e:H a=some (.dK kvs))(ho:s.heap.get? a=some o):Inv X pins σ (upd H a (.frz o (.dK kvs))) s:=by
  have ne:∀ {b:Addr} {u:HO},H b=some u→(∀ k,u≠.dK k)→b≠a:=fun h n z=>by
    subst z
    rw [e] at h
    exact n _ (Option.some.inj h).symm
  have tup:∀ b xs,H b=some (.tup xs)→upd H a (.frz o (.dK kvs)) b=some (.tup xs):=fun b xs q=>by rw [upd_ne (ne q fun k z=>nomatch z)];exact q
  refine I.un (t':=s.toks) (h':=s.heap) ⟨fun b u q _ _ _=>q,fun b u q _ _ _=>⟨u.slots,q⟩,fun b u q n _=>?_,fun b u q _=>⟨u,q⟩,tup,fun b u v q=>?_,fun b ps q=>⟨#[],?_⟩⟩ fun b u q=>?_
  · rw [upd_ne fun z=>by rw [z,e] at n;cases n];exact n
  · rw [upd_ne (ne q fun k z=>nomatch z)];exact q
  · rw [upd_ne (ne q fun k z=>nomatch z),q];simp
  · by_cases hb:b=a
    · subst hb
      rw [upd_same] at q
      cases q
      exact ⟨ho,(I.hok b _ e).stay (fun _ _ _ z=>z) (fun c z=>by rw [upd_ne (ne z fun k z=>nomatch z)];exact z) tup⟩
    · rw [upd_ne hb] at q
      exact (I.hok b u q).stay (fun _ _ _ z=>z) (fun c z=>by rw [upd_ne (ne z fun k z=>nomatch z)];exact z) tup
def Itk (a:Addr)(o:Obj):It:=
  ⟨fun i H=>∃ kvs,H a=some (.frz o (.dK kvs))∧i<kvs.length,
   fun i H x H'=>H'=H∧∀ kvs,H a=some (.frz o (.dK kvs))→∃ k v,kvs[i]?=some (k,v)∧x=kV k,
   fun i H=>∃ kvs,H a=some (.frz o (.dK kvs))∧kvs.length≤i⟩
theorem turn_dK {P:Program}{w:World}{K:PySem.W.Frag}{tg:Expr}(a it:Addr){o:Obj}{es:Array DictEntry}{ep:Nat}(hx:o.ExactDict)(hd:o.data=.dict es ep):
    Turn P w K tg (Itk a o) [it] it (fun i h=>h.IsKeyIter it a i es.size ep) where
  mem:=by simp
  obj:=fun i h st b hb=>by
    have e:b=it:=by simpa using hb
    subst e
    obtain ⟨o,e,c,d⟩:=st
    exact ⟨o,e,fun v z=>by rw [d] at z;cases z⟩
  keep:=fun i h h' st k=>st.at fun o e=>k it (by simp) o e
  item:=by
    intro X hP hw hK hc i pins s σ H E I hf st hg
    subst hP hw hK
    obtain ⟨kvs,hq,hi⟩:=hg
    obtain ⟨ho,z,y,xs,r,o',es',ep',h1,h2,h3,h4,h5,h6⟩:=(show ObjOk X.prog X.w H s.heap a (.frz o (.dK kvs)) from I.hok a _ hq)
    rw [ho] at h1
    cases h1
    rw [hd] at h3
    cases h3
    obtain ⟨f0,f1,f2,f3,f4,f5⟩:=hf it (by simp)
    have e1:kvs[i]?=some (kvs[i]'hi):=List.getElem?_eq_getElem _
    obtain ⟨q,hq2,rel⟩:=paired_at r e1
    obtain ⟨en,hen,hkey⟩:=pairs_at h5 hq2
    have he:es[i]?=some en:=by rw [← Array.getElem?_toList];exact hen
    have hrel:RelV (kV kvs[i].1) en.key:=by rw [rel.1];exact kV_rel hkey
    refine raw_next st ⟨ho,hx,hd⟩ he fun h' st' sb=>?_
    have I1:Inv X pins σ H { s with heap:=h' }:=I.turned (t':=s.toks) (fun b o hb e=>(sb.2 b hb).trans e) f0 f1 f3 f4 f5
    obtain ⟨oo,e,c,dd⟩:=id st'
    refine ⟨_,rfl,go_of (s:={ s with heap:=h' }) e c dd (by decide) ⟨kV kvs[i].1,H,I1,hrel,⟨rfl,fun kvs' hk=>?_⟩,st',fun b hb=>(hf b hb).1⟩⟩
    rw [hq] at hk
    cases hk
    exact ⟨_,_,e1,rfl⟩
  done:=by
    intro X hP hw hK hc i pins s σ H E I hf st hg
    subst hP hw hK
    obtain ⟨kvs,hq,hi⟩:=hg
    obtain ⟨ho,z,y,xs,r,o',es',ep',h1,h2,h3,h4,h5,h6⟩:=(show ObjOk X.prog X.w H s.heap a (.frz o (.dK kvs)) from I.hok a _ hq)
    rw [ho] at h1
    cases h1
    rw [hd] at h3
    cases h3
    obtain ⟨f0,f1,f2,f3,f4,f5⟩:=hf it (by simp)
    have hl:es.size=kvs.length:=by rw [KV.length r,← Array.length_toList,h5.length]
    exact raw_end (I.ok.hd hc) st ⟨ho,hx,hd⟩ (by omega) fun h' eb=>⟨rfl,I.turned (t':=s.toks) (fun b o hb e=>eb b o hb e) f0 f1 f3 f4 f5⟩
  self:=fun _ _ _ _ _ st h=>wpAny_pyIter_keyiter st h
def iDK (tl:TE):TI:=fun σ H R=>tl σ H fun x H1=>∃ a kvs,x=.ref a∧H1 a=some (.dK kvs)∧∀ o,R (Itk a o) (upd H1 a (.frz o (.dK kvs)))
theorem pi_dK {l:Expr}{tl:TE}(hl:PE X l tl):PI X tg l (iDK tl):=by
  intro pins s σ H R I h
  refine thn (hl pins s σ H _ I h) fun v s1 ⟨x,H1,I1,r1,q1⟩=>?_
  obtain ⟨a,kvs,e,hq,q⟩:=q1
  subst e
  cases r1
  obtain ⟨z,y,xs,r,o,es,ep,h1,h2,h3,h4,h5,h6⟩:=(show ObjOk X.prog X.w H1 s1.heap a (.dK kvs) from I1.hok a _ hq)
  have I2:=I1.freezeK hq h1
  refine raw_iter ⟨h1,h2,h3⟩ y ?_
  refine ⟨s1.heap.objs.size,[s1.heap.objs.size],_,_,_,rfl,I2.kept (t':=s1.toks) fun b o e=>Heap.get?_push_of_some _ e,turn_dK a _ h2 h3,⟨_,Heap.get?_push_size _ rfl,rfl,rfl⟩,fun b hb=>?_,q o⟩
  have e:b=s1.heap.objs.size:=by simpa using hb
  subst e
  exact I2.fpOk (Nat.le_refl _) (I2.hok.fresh (Nat.le_refl _))
end
theorem for_dK {a:Addr}{o:Obj}{kvs:List (Key×V)}{g:TG}{tb:TS}{D:Ends}{σ:St}{H:Hp}(Pv:Nat→St→Hp→Prop)(h0:Pv 0 σ H)(hl:∀ i σ H,i≤kvs.length→Pv i σ H→H a=some (.frz o (.dK kvs)))
    (hs:∀ i k v σ H,kvs[i]?=some (k,v)→Pv i σ H→g (kV k) σ H fun σ2 H2=>tb { D with nx:=Pv (i+1),ct:=Pv (i+1),bk:=D.nx } σ2 H2) (hd:∀ σ H,Pv kvs.length σ H→D.nx σ H):
    ∃ W:Nat→Nat→St→Hp→Prop,(∃ m,W 0 m σ H)∧∀ i m σ H,W i m σ H→
      ((Itk a o).stop i H∧D.nx σ H)∨((Itk a o).go i H∧∃ N:St→Hp→Prop,(∀ σ' H',N σ' H'→∃ m',m'<m∧W (i+1) m' σ' H')∧∀ x H',(Itk a o).yld i H x H'→g x σ H' fun σ2 H2=>tb { D with nx:=N,ct:=N,bk:=D.nx } σ2 H2):=by
  refine ⟨fun i m σ H=>m=kvs.length-i∧i≤kvs.length∧Pv i σ H,⟨kvs.length,by simp,Nat.zero_le _,h0⟩,?_⟩
  rintro i m σ H ⟨rfl,hi,p⟩
  have q:=hl i σ H hi p
  by_cases hlt:i<kvs.length
  · refine .inr ⟨⟨kvs,q,hlt⟩,Pv (i+1),fun σ' H' p'=>⟨kvs.length-(i+1),by omega,rfl,hlt,p'⟩,fun x H' y=>?_⟩
    obtain ⟨e,y⟩:=y
    subst e
    obtain ⟨k,v,h1,rfl⟩:=y kvs q
    exact hs i k v σ _ h1 p
  · have e:i=kvs.length:=by omega
    subst e
    exact .inl ⟨⟨kvs,q,Nat.le_refl _⟩,hd σ H p⟩
theorem for_zipl {K:PySem.W.Frag}{t l:Addr}{xs ys:List V}{g:TG}{tb:TS}{D:Ends}{σ:St}{H:Hp}(Pv:Nat→St→Hp→Prop)(hxy:xs.length=ys.length)(h0:Pv 0 σ H)(hl:∀ i σ H,i≤xs.length→Pv i σ H→SqL K H t xs∧SqL K H l ys)
    (hs:∀ i x y σ H b,xs[i]?=some x→ys[i]?=some y→Pv i σ H→H b=none→g (.ref b) σ (upd H b (.tup [x,y])) fun σ2 H2=>tb { D with nx:=Pv (i+1),ct:=Pv (i+1),bk:=D.nx } σ2 H2) (hd:∀ σ H,Pv xs.length σ H→D.nx σ H):
    ∃ W:Nat→Nat→St→Hp→Prop,(∃ m,W 0 m σ H)∧∀ i m σ H,W i m σ H→
      ((Itzl K t l).stop i H∧D.nx σ H)∨((Itzl K t l).go i H∧∃ N:St→Hp→Prop,(∀ σ' H',N σ' H'→∃ m',m'<m∧W (i+1) m' σ' H')∧∀ x H',(Itzl K t l).yld i H x H'→g x σ H' fun σ2 H2=>tb { D with nx:=N,ct:=N,bk:=D.nx } σ2 H2):=by
  refine ⟨fun i m σ H=>m=xs.length-i∧i≤xs.length∧Pv i σ H,⟨xs.length,by simp,Nat.zero_le _,h0⟩,?_⟩
  rintro i m σ H ⟨rfl,hi,p⟩
  obtain ⟨qx,qy⟩:=hl i σ H hi p
  by_cases hlt:i<xs.length
  · have hlt2:i<ys.length:=by omega
    refine .inr ⟨⟨xs,ys,xs[i],ys[i],qx,qy,by simp [hlt],by simp [hlt2]⟩,Pv (i+1),fun σ' H' p'=>⟨xs.length-(i+1),by omega,rfl,hlt,p'⟩,fun v H' y=>?_⟩
    obtain ⟨x0,y0,b,y1,y2,hb,rfl,rfl⟩:=y
    exact hs i x0 y0 σ H b (y1 xs qx) (y2 ys qy) p hb
  · have e:i=xs.length:=by omega
    subst e
    exact .inl ⟨⟨xs,ys,qx,qy,.inl (Nat.le_refl _)⟩,hd σ H p⟩
end L2
namespace Mx
def dv (t b:Int):Int:=if b<0 then -(Nat.gcd t.natAbs b.natAbs:Int) else (Nat.gcd t.natAbs b.natAbs:Int)
def lowT (t b:Int):Int:=t.fdiv (dv t b)
def lowB (t b:Int):Int:=b.fdiv (dv t b)
theorem gcd_pos {t b:Int}(h:b≠0):0<Nat.gcd t.natAbs b.natAbs:=Nat.gcd_pos_of_pos_right _ (by omega)
theorem dv_ne {t b:Int}(h:b≠0):dv t b≠0:=by
  have:=gcd_pos (t:=t) h
  unfold dv;split <;> omega
theorem dv_dvd_t (t b:Int):dv t b ∣ t:=by
  have h:((Nat.gcd t.natAbs b.natAbs:Nat):Int) ∣ t:=Int.natAbs_dvd_natAbs.mp (by simpa using Nat.gcd_dvd_left t.natAbs b.natAbs)
  unfold dv;split
  · exact Int.neg_dvd.mpr h
  · exact h
theorem dv_dvd_b (t b:Int):dv t b ∣ b:=by
  have h:((Nat.gcd t.natAbs b.natAbs:Nat):Int) ∣ b:=Int.natAbs_dvd_natAbs.mp (by simpa using Nat.gcd_dvd_right t.natAbs b.natAbs)
  unfold dv;split
  · exact Int.neg_dvd.mpr h
  · exact h
theorem fdiv_mul {t d:Int}(h:d ∣ t):t.fdiv d*d=t:=by
  obtain ⟨c,rfl⟩:=h
  by_cases hd:d=0
  · subst hd;simp
  · rw [Int.mul_comm d c,Int.mul_fdiv_cancel _ hd]
theorem low_t (t b:Int):lowT t b*dv t b=t:=fdiv_mul (dv_dvd_t t b)
theorem low_b (t b:Int):lowB t b*dv t b=b:=fdiv_mul (dv_dvd_b t b)
theorem natAbs_dv (t b:Int):(dv t b).natAbs=Nat.gcd t.natAbs b.natAbs:=by
  unfold dv;split <;> omega
theorem lowB_pos {t b:Int}(h:b≠0):0<lowB t b:=by
  have e:=low_b t b
  have g:=gcd_pos (t:=t) h
  have hd:dv t b=if b<0 then -(Nat.gcd t.natAbs b.natAbs:Int) else (Nat.gcd t.natAbs b.natAbs:Int):=rfl
  rcases Int.lt_trichotomy (lowB t b) 0 with q | q | q
  · exfalso
    split at hd
    · have:0<lowB t b*dv t b:=Int.mul_pos_of_neg_of_neg q (by omega)
      omega
    · have:lowB t b*dv t b<0:=Int.mul_neg_of_neg_of_pos q (by omega)
      omega
  · rw [q] at e;omega
  · exact q
theorem low_cop {t b:Int}(h:b≠0):Nat.gcd (lowT t b).natAbs (lowB t b).natAbs=1:=by
  have g:=gcd_pos (t:=t) h
  have e1:t.natAbs=(lowT t b).natAbs*Nat.gcd t.natAbs b.natAbs:=by rw [← natAbs_dv,← Int.natAbs_mul,low_t]
  have e2:b.natAbs=(lowB t b).natAbs*Nat.gcd t.natAbs b.natAbs:=by rw [← natAbs_dv,← Int.natAbs_mul,low_b]
  have e3:Nat.gcd t.natAbs b.natAbs=Nat.gcd (lowT t b).natAbs (lowB t b).natAbs*Nat.gcd t.natAbs b.natAbs:=by
    have q:=Nat.gcd_mul_right (lowT t b).natAbs (Nat.gcd t.natAbs b.natAbs) (lowB t b).natAbs
    rw [← e1,← e2] at q
    exact q
  have:1*Nat.gcd t.natAbs b.natAbs=Nat.gcd (lowT t b).natAbs (lowB t b).natAbs*Nat.gcd t.natAbs b.natAbs:=by omega
  exact (Nat.eq_of_mul_eq_mul_right g this).symm
theorem low_cross (t b:Int):lowT t b*b=t*lowB t b:=by
  have e1:=low_t t b
  have e2:=low_b t b
  grind
structure Low (x y:Int):Prop where
  pos:0<y
  cop:Nat.gcd x.natAbs y.natAbs=1
theorem low_low {t b:Int}(h:b≠0):Low (lowT t b) (lowB t b):=⟨lowB_pos h,low_cop h⟩
theorem Low.dv {x y:Int}(h:Low x y):Mx.dv x y=1:=by
  have h1:=h.pos;have h2:=h.cop
  unfold Mx.dv;rw [if_neg (by omega),h2];rfl
theorem Low.t {x y:Int}(h:Low x y):lowT x y=x:=by have e:=low_t x y;rw [h.dv] at e;omega
theorem Low.b {x y:Int}(h:Low x y):lowB x y=y:=by have e:=low_b x y;rw [h.dv] at e;omega
theorem Low.uniq {x y u v:Int}(h:Low x y)(g:Low u v)(e:x*v=u*y):x=u∧y=v:=by
  have hp:=h.pos;have gp:=g.pos
  have e':x.natAbs*v.natAbs=u.natAbs*y.natAbs:=by rw [← Int.natAbs_mul,← Int.natAbs_mul,e]
  have d1:y.natAbs ∣ v.natAbs:=by
    have:y.natAbs ∣ x.natAbs*v.natAbs:=by rw [e'];exact Nat.dvd_mul_left _ _
    exact Nat.Coprime.dvd_of_dvd_mul_left (Nat.coprime_comm.mp h.cop) this
  have d2:v.natAbs ∣ y.natAbs:=by
    have:v.natAbs ∣ u.natAbs*y.natAbs:=by rw [← e'];exact Nat.dvd_mul_left _ _
    exact Nat.Coprime.dvd_of_dvd_mul_left (Nat.coprime_comm.mp g.cop) this
  have e2:y=v:=by have:=Nat.dvd_antisymm d1 d2;omega
  subst e2
  exact ⟨Int.eq_of_mul_eq_mul_right (by omega) e,rfl⟩
theorem low_eq {t b t' b':Int}(h:b≠0)(h':b'≠0)(e:t*b'=t'*b):lowT t b=lowT t' b'∧lowB t b=lowB t' b':=by
  refine (low_low h).uniq (low_low h') ?_
  have d1:=dv_ne (t:=t) h
  have d2:=dv_ne (t:=t') h'
  have e1:=low_t t b;have e2:=low_b t b;have e3:=low_t t' b';have e4:=low_b t' b'
  have e5:(lowT t b*lowB t' b')*(dv t b*dv t' b')=(lowT t' b'*lowB t b)*(dv t b*dv t' b'):=by grind
  exact Int.eq_of_mul_eq_mul_right (Int.mul_ne_zero d1 d2) e5
theorem low_size_t (t b:Int)(h:b≠0):(lowT t b).natAbs≤t.natAbs:=by
  have e:t.natAbs=(lowT t b).natAbs*(dv t b).natAbs:=by rw [← Int.natAbs_mul,low_t]
  have:0<(dv t b).natAbs:=by have:=dv_ne (t:=t) h;omega
  rw [e];exact Nat.le_mul_of_pos_right _ this
theorem low_size_b (t b:Int)(h:b≠0):(lowB t b).natAbs≤b.natAbs:=by
  have e:b.natAbs=(lowB t b).natAbs*(dv t b).natAbs:=by rw [← Int.natAbs_mul,low_b]
  have:0<(dv t b).natAbs:=by have:=dv_ne (t:=t) h;omega
  conv=>rhs;rw [e]
  exact Nat.le_mul_of_pos_right _ this
theorem gcd_turn {m n:Nat}:Nat.gcd n (m%n)=Nat.gcd m n:=by
  rw [Nat.gcd_comm m n,Nat.gcd_rec n m,Nat.gcd_comm]
end Mx
namespace Mx
section
variable {a b c d e f:Int}
theorem pos2 {x y:Int}(h:0<x)(g:0<y):0<x*y:=Int.mul_pos h g
end
end Mx
namespace Fs
open PySem L2 Mx
structure Df (K:PySem.W.Frag)(mg:Str→Option Value)(x:Str)(st:Stmt)(ps:List Str)(f:Addr)(fd:FuncData):Prop where
  fn:Fun K x x st f fd
  gl:mg x=some (.ref f)
  b:Binds K fd ps []
theorem pe_cl {X:Cx}{k:Nat}{f:Addr}{fd:FuncData}{ps:List Str}{sp:Sp}{x:Str}{st:Stmt}{e:Expr}{es:List Expr}{t:TA}{p pos:Pos}(D:Df X.K X.mg x st ps f fd)(F:FnOk X.prog X.w X.K X.mg X.base CX0 k f fd ps sp)(hr:Room k X.A)
    (ha:PA X (e::es) t) (hg:Gl X x:=by rfl) (hdb:(x==("__debug__":Str))=false:=by decide) (he:starEach (e::es) X.env=(false,eval e X.env)::starEach es X.env:=by rfl) (hpl:(backTo pos (starEach es X.env)).any (·.1)=false:=by rfl):
    PE X (.Call (.Name x p) (e::es) [] pos) (tCall sp [] E0 t):=pe_call F hr hg D.gl D.fn.kp D.b .nil pass0 ha hdb he hpl
theorem boot_abs:bootBuiltins "abs"=some (.builtin "abs"):=by decide +kernel
def KeepX (p:Addr)(H H':Hp):Prop:=∀ b o,b≠p→H b=some o→H' b=some o
theorem KeepX.refl (p:Addr)(H:Hp):KeepX p H H:=fun _ _ _ e=>e
theorem KeepX.trans {p:Addr}{H H1 H2:Hp}(a:KeepX p H H1)(b:KeepX p H1 H2):KeepX p H H2:=fun c o hc e=>b c o hc (a c o hc e)
theorem KeepX.upd {p:Addr}{H:Hp}{o:HO}:KeepX p H (upd H p o):=fun b u hb e=>by rw [upd_ne hb];exact e
theorem Same.keep {p:Addr}{H H':Hp}(h:Same H H'):KeepX p H H':=fun b o _ e=>h b o e
theorem Same.new {H:Hp}{p:Addr}{o:HO}(h:H p=none):Same H (upd H p o):=fun b u e=>by rw [upd_ne (ne_of_none e h)];exact e
def PenAt (H:Hp)(p:Addr)(k:Nat):Prop:=∃ a b c:Int,H p=some (.lst [.int a,.int b,.int c])∧0≤c∧c≤k
theorem PenAt.same {H H':Hp}{p:Addr}{k:Nat}(h:PenAt H p k)(s:Same H H'):PenAt H' p k:=let ⟨a,b,c,e,r⟩:=h;⟨a,b,c,s _ _ e,r⟩
theorem PenAt.mono {H:Hp}{p:Addr}{k m:Nat}(h:PenAt H p k)(s:k≤m):PenAt H p m:=let ⟨a,b,c,e,r,q⟩:=h;⟨a,b,c,e,r,by omega⟩
def lastN:St→Nat
  | [_,_,_,some (V.int n)]=>n.toNat
  | [_,_,_,some (V.int n),_]=>n.toNat
  | _=>0
theorem abs_if (i:Int):(if i<0 then -i else i)=(i.natAbs:Int):=by split <;> omega
theorem sz64 {x:Int}(h1:-18446744073709551616<x)(h2:x<18446744073709551616):Sz 64 x:=by unfold Sz;omega
theorem sz4000 {x:Int}(h1:-18446744073709551616<x)(h2:x<18446744073709551616):Sz 4000 x:=(sz64 h1 h2).mono (by decide)
theorem sz_dv {t b:Int}{n:Nat}(hb:b≠0)(h:Sz n b):Sz n (dv t b):=by
  unfold Sz at *
  rw [natAbs_dv]
  exact Nat.lt_of_le_of_lt (Nat.gcd_le_right _ (by omega)) h
theorem two_le:2≤sizeLine:=by decide
theorem three_le:3≤sizeLine:=by decide
structure NumAt (H:Hp)(p:Addr)(x y:Int)(n:Nat):Prop where
  ob:H p=some (.tup [.int x,.int y])
  low:Low x y
  sx:Sz n x
  sy:Sz n y
theorem NumAt.same {H H':Hp}{p:Addr}{x y:Int}{n:Nat}(h:NumAt H p x y n)(s:Same H H'):NumAt H' p x y n:=⟨s _ _ h.ob,h.low,h.sx,h.sy⟩
theorem NumAt.mono {H:Hp}{p:Addr}{x y:Int}{n m:Nat}(h:NumAt H p x y n)(s:n≤m):NumAt H p x y m:=⟨h.ob,h.low,h.sx.mono s,h.sy.mono s⟩
theorem NumAt.keep {H H':Hp}{p q:Addr}{x y:Int}{n:Nat}(h:NumAt H p x y n)(s:KeepX q H H')(hq:p≠q):NumAt H' p x y n:=⟨s _ _ hq h.ob,h.low,h.sx,h.sy⟩
def spGd:Sp:=fun vs H Q _=>∃ a b:Int,vs=[.int a,.int b]∧Q (.int (Nat.gcd a.natAbs b.natAbs:Nat)) H
def spLow:Sp:=fun vs H Q _=>∃ t b:Int,vs=[.int t,.int b]∧b≠0∧Sz 4000 b∧∀ p,H p=none→Q (.ref p) (upd H p (.tup [.int (lowT t b),.int (lowB t b)]))
def spTake:Sp:=fun vs H Q _=>∃ (p:Addr) (m:Int) (k:Nat),vs=[.ref p,.int m]∧0<m∧Sz 4000 m∧PenAt H p k∧k≤100000∧∀ (r:Int) (H':Hp),0≤r→r<m→PenAt H' p (k+1)→KeepX p H H'→Q (.int r) H'
def spPen (K:PySem.W.Frag):Sp:=fun vs H Q _=>∃ (a:Addr) (ns:List Int) (k:Int),vs=[.ref a,.int k]∧SqL K H a (ns.map V.int)∧0≤k∧k≤1000∧∀ (p:Addr) (H':Hp),H p=none→PenAt H' p 0→Same H H'→Q (.ref p) H'
def sp2 (f g:Int→Int→Int→Int→Int)(e:Nat→Nat→Nat)(C:Int→Int→Int→Int→Prop):Sp:=fun vs H Q _=>∃ (p q:Addr) (a b c d:Int) (m n:Nat),vs=[.ref p,.ref q]∧NumAt H p a b m∧NumAt H q c d n∧m+n≤3000∧C a b c d∧
  ∀ (r:Addr) (H':Hp),Same H H'→NumAt H' r (lowT (f a b c d) (g a b c d)) (lowB (f a b c d) (g a b c d)) (e m n)→Q (.ref r) H'
abbrev eMN (m n:Nat):Nat:=m+n+1
abbrev spSum:Sp:=sp2 (fun a b c d=>a*d+c*b) (fun _ b _ d=>b*d) eMN (fun _ _ _ _=>True)
abbrev spDif:Sp:=sp2 (fun a b c d=>a*d-c*b) (fun _ b _ d=>b*d) eMN (fun _ _ _ _=>True)
abbrev spPro:Sp:=sp2 (fun a _ c _=>a*c) (fun _ b _ d=>b*d) eMN (fun _ _ _ _=>True)
abbrev spQuo:Sp:=sp2 (fun a _ _ d=>a*d) (fun _ b c _=>b*c) eMN (fun _ _ c _=>c≠0)
def spLess:Sp:=fun vs H Q _=>∃ (p q:Addr) (a b c d:Int) (m n:Nat),vs=[.ref p,.ref q]∧NumAt H p a b m∧NumAt H q c d n∧m+n≤3000∧Q (.bl (decide (a*d<c*b))) H
def spRight (K:PySem.W.Frag)(C:Addr):Sp:=fun vs H Q _=>∃ a:Addr,vs=[.ref a]∧H a=some (excO a (.ref C))∧∀ H',Same H H'→Q (.bl true) H'
def spWhole:Sp:=fun vs H Q _=>∃ i:Int,vs=[.int i]∧Q (.bl true) H
def spIsNum:Sp:=fun vs H Q _=>∃ (p:Addr) (x y:Int) (n:Nat),vs=[.ref p]∧NumAt H p x y n∧n≤4000∧∀ H',Same H H'→Q (.bl true) H'
def spFar:Sp:=fun vs H Q _=>∃ (p:Addr) (k:Nat),vs=[.ref p]∧PenAt H p k∧k≤90000∧∀ (r:Int) (H':Hp),Sz 250 r→PenAt H' p (k+5)→KeepX p H H'→Q (.int r) H'
def spLaw (K:PySem.W.Frag):Sp:=fun vs H Q _=>∃ (a:Addr) (ns:List Int),vs=[.ref a]∧SqL K H a (ns.map V.int)∧ns.length≤63∧∀ H',Q (.bl true) H'
theorem eqI {x y:Int}(h:x=y):V.bl (decide (V.int x=V.int y))=V.bl true:=by subst h;simp
theorem rtv {Q:VK}{v w:V}{H:Hp}(e:v=w)(q:Q w H):Q v H:=by rw [e];exact q
theorem boot_isinstance:bootBuiltins "isinstance"=some (.builtin "isinstance"):=by decide +kernel
theorem boot_max:bootBuiltins "max"=some (.builtin "max"):=by decide +kernel
theorem boot_int:bootBuiltins "int"=some (.type "int"):=by decide +kernel
theorem boot_bool:bootBuiltins "bool"=some (.type "bool"):=by decide +kernel
theorem boot_str:bootBuiltins "str"=some (.type "str"):=by decide +kernel
theorem boot_list:bootBuiltins "list"=some (.type "list"):=by decide +kernel
theorem boot_tuple:bootBuiltins "tuple"=some (.type "tuple"):=by decide +kernel
theorem pe_typ {X:Cx}{x:Str}{T:String}{pos:Pos}(hm:X.mg x=none)(hv:bootBuiltins x=some (.type T))(hg:Gl X x:=by rfl)(hn:x≠"__name__":=by decide)(hd:(x==("__debug__":Str))=false:=by decide):PE X (.Name x pos) (tC (.ty T)):=pe_bltn hg hm hv rfl hn hd
theorem szlit {n:Nat}{x:Int}(h:decide (x.natAbs<2 ^ n)=true):Sz n x:=(of_decide_eq_true h:x.natAbs<2 ^ n)
theorem kit_tt (K:PySem.W.Frag)(t:Value):PySem.W.kitOne K t t=some true:=by unfold PySem.W.kitOne;simp
def GStr (mg:Str→Option Value)(x z:Str):Prop:=∃ u,mg x=some u∧RelV (.str z) u
def GInt (mg:Str→Option Value)(x:Str)(i:Int):Prop:=∃ u,mg x=some u∧RelV (.int i) u
theorem pe_gint {X:Cx}{x:Str}{i:Int}{pos:Pos}(hm:GInt X.mg x i)(hg:Gl X x:=by rfl)(hd:(x==("__debug__":Str))=false:=by decide):PE X (.Name x pos) (tC (.int i)):=by
  obtain ⟨u,h,r⟩:=hm
  exact pe_glob hg h r hd
def rInS:R2:=fun x y H Q=>∃ i j,x=.str i∧y=.str j∧Q (.bl (!(Builtin.Str.occurrences j i 0 j.length 1).isEmpty)) H
theorem sl_lt {n:Nat}(h:n≤1000):n<sizeLine:=small1000 h
theorem sl_le {n:Nat}(h:n≤1000):n≤sizeLine:=Nat.le_of_lt (small1000 h)
structure Nm (z:Str):Prop where
  lo:1≤z.length
  hi:z.length≤6
  az:∀ c∈z.cps.toList,97≤c∧c≤122
def colL (c:Int):Str:=⟨#[64+c.toNat]⟩
def num (r:Int):Str:=Str.ofString (toString r)
def cellTx (z:Str)(r c:Int):Str:=((z++Str.ofString "!")++colL c)++num r
structure Dg (z:Str)(n:Int):Prop where
  lo:1≤z.length
  hi:z.length≤640
  fig:∀ c∈z.cps.toList,c∈(Str.ofString "0123456789").cps.toList
  rd:PySem.intText? z=some n
  c0:∃ c,z.cps.toList[0]?=some c∧(c≠48∨z=Str.ofString "0")
structure PlAt (H:Hp)(p:Addr)(z:Str)(r c:Int):Prop where
  ob:H p=some (.tup [.str z,.int r,.int c])
  nm:Nm z
  r0:1≤r
  r1:r≤16
  c0:1≤c
  c1:c≤8
theorem PlAt.same {H H':Hp}{p:Addr}{z:Str}{r c:Int}(h:PlAt H p z r c)(s:Same H H'):PlAt H' p z r c:=⟨s _ _ h.ob,h.nm,h.r0,h.r1,h.c0,h.c1⟩
structure BkAt (H:Hp)(p:Addr)(z:Str)(r c r2 c2:Int):Prop where
  ob:H p=some (.tup [.str z,.int r,.int c,.int r2,.int c2])
  nm:Nm z
  r0:1≤r
  r1:r≤r2
  r16:r2≤16
  c0:1≤c
  c1:c≤c2
  c8:c2≤8
theorem BkAt.same {H H':Hp}{p:Addr}{z:Str}{r c r2 c2:Int}(h:BkAt H p z r c r2 c2)(s:Same H H'):BkAt H' p z r c r2 c2:=⟨s _ _ h.ob,h.nm,h.r0,h.r1,h.r16,h.c0,h.c1,h.c8⟩
def CsAt (H:Hp)(l:Addr)(z:Str)(r c:Int)(w n:Nat):Prop:=∃ vs:List V,H l=some (.lst vs)∧vs.length=n∧∀ (k:Nat) (v:V),vs[k]?=some v→∃ a:Addr,v=.ref a∧H a=some (.tup [.str z,.int (r+((k / w:Nat):Int)),.int (c+((k%w:Nat):Int))])
theorem CsAt.same {H H':Hp}{l:Addr}{z:Str}{r c:Int}{w n:Nat}(h:CsAt H l z r c w n)(s:Same H H'):CsAt H' l z r c w n:=by
  obtain ⟨vs,a,b,d⟩:=h
  exact ⟨vs,s _ _ a,b,fun k v e=>let ⟨p,q,u⟩:=d k v e;⟨p,q,s _ _ u⟩⟩
def spRdW:Sp:=fun vs H Q _=>∃ (z:Str) (m n:Int),vs=[.str z,.int m]∧Dg z n∧(z.length:Int)≤m∧∀ H',Same H H'→Q (.int n) H'
def spShN:Sp:=fun vs H Q _=>∃ z:Str,vs=[.str z]∧Nm z∧∀ H',Same H H'→Q (.bl true) H'
def spWith:Sp:=fun vs H Q _=>∃ i l:Int,vs=[.int i,.int l]∧1≤i∧i≤l∧Q (.bl true) H
def spIsC:Sp:=fun vs H Q _=>∃ (p:Addr) (z:Str) (r c:Int),vs=[.ref p]∧PlAt H p z r c∧∀ H',Same H H'→Q (.bl true) H'
def spIsB:Sp:=fun vs H Q _=>∃ (p:Addr) (z:Str) (r c r2 c2:Int),vs=[.ref p]∧BkAt H p z r c r2 c2∧∀ H',Same H H'→Q (.bl true) H'
def spCT:Sp:=fun vs H Q _=>∃ (p:Addr) (z:Str) (r c:Int),vs=[.ref p]∧PlAt H p z r c∧Q (.str (cellTx z r c)) H
def spRC:Sp:=fun vs H Q _=>∃ (z:Str) (r c:Int),vs=[.str (cellTx z r c)]∧Nm z∧1≤r∧r≤16∧1≤c∧c≤8∧∀ (p:Addr) (H':Hp),Same H H'→PlAt H' p z r c→Q (.ref p) H'
def spCs:Sp:=fun vs H Q _=>∃ (p:Addr) (z:Str) (r c r2 c2:Int),vs=[.ref p]∧BkAt H p z r c r2 c2∧∀ (l:Addr) (H':Hp),H l=none→Same H H'→CsAt H' l z r c (c2-c+1).toNat ((r2-r+1).toNat*(c2-c+1).toNat)→Q (.ref l) H'
def spSheet:Sp:=fun vs H Q _=>∃ (p:Addr) (k:Nat),vs=[.ref p]∧PenAt H p k∧k≤90000∧∀ (z:Str) (H':Hp),Nm z→PenAt H' p (k+8)→KeepX p H H'→Q (.str z) H'
def spPlace:Sp:=fun vs H Q _=>∃ (p:Addr) (k:Nat),vs=[.ref p]∧PenAt H p k∧k≤80000∧∀ (q:Addr) (z:Str) (r c:Int) (H':Hp),PlAt H' q z r c→PenAt H' p (k+10)→KeepX p H H'→Q (.ref q) H'
def spBlock:Sp:=fun vs H Q _=>∃ (p:Addr) (k:Nat),vs=[.ref p]∧PenAt H p k∧k≤70000∧∀ (q:Addr) (z:Str) (r c r2 c2:Int) (H':Hp),BkAt H' q z r c r2 c2→PenAt H' p (k+12)→KeepX p H H'→Q (.ref q) H'
def spIsP:Sp:=fun vs H Q _=>∃ (p q:Addr) (z:Str) (r c:Int),vs=[.ref p,.ref q]∧H p=some (.tup [.str z,.int r,.int c])∧H q=some (.tup [.str z,.int r,.int c])∧Q (.bl true) H
def spBkR:Sp:=fun vs H Q _=>∃ (p:Addr) (z:Str) (r c r2 c2:Int),vs=[.ref p]∧BkAt H p z r c r2 c2∧∀ H',Same H H'→Q (.bl true) H'
theorem CsAt.push {H:Hp}{l q:Addr}{z:Str}{r c r' c':Int}{w n:Nat}{vs:List V}(h1:H l=some (.lst vs))(h2:vs.length=n)
    (h3:∀ (k:Nat) (v:V),vs[k]?=some v→∃ a:Addr,v=.ref a∧H a=some (.tup [.str z,.int (r+((k / w:Nat):Int)),.int (c+((k%w:Nat):Int))]))
    (hq:H q=none) (er:r'=r+((n / w:Nat):Int)) (ec:c'=c+((n%w:Nat):Int)):CsAt (upd (upd H q (.tup [.str z,.int r',.int c'])) l (.lst (vs++[.ref q]))) l z r c w (n+1):=by
  have nql:q≠l:=fun e=>by subst e;rw [hq] at h1;cases h1
  refine ⟨_,upd_same,by rw [List.length_append,h2];rfl,fun k v e=>?_⟩
  by_cases hk:k<n
  · rw [List.getElem?_append_left (by omega)] at e
    obtain ⟨a,ea,ha⟩:=h3 k v e
    have n1:a≠l:=ne_of ha h1 (by intro z;cases z)
    have n2:a≠q:=ne_of_none ha hq
    exact ⟨a,ea,by rw [upd_ne n1,upd_ne n2];exact ha⟩
  · rw [List.getElem?_append_right (by omega)] at e
    have hk2:k-vs.length=0:=by
      obtain ⟨hlt,_⟩:=List.getElem?_eq_some_iff.mp e
      simp at hlt
      omega
    rw [hk2] at e
    have e':V.ref q=v:=by simpa using e
    have hkn:k=n:=by omega
    subst hkn
    exact ⟨q,e'.symm,by rw [upd_ne nql,upd_same,er,ec]⟩
theorem Same.step {H H3:Hp}{l q:Addr}{o o':HO}(s:Same H H3)(hl:H l=none)(hq:H3 q=none):Same H (upd (upd H3 q o) l o'):=fun b u e=>by
  rw [upd_ne (ne_of_none e hl),upd_ne (ne_of_none (s _ _ e) hq)]
  exact s _ _ e
theorem nm_lit {z:Str}(h:(decide (1≤z.length)&&decide (z.length≤6)&&z.cps.toList.all fun c=>decide (97≤c)&&decide (c≤122))=true):Nm z:=by
  simp only [Bool.and_eq_true,decide_eq_true_eq,List.all_eq_true] at h
  exact ⟨h.1.1,h.1.2,fun c hc=>h.2 c hc⟩
inductive Vl where
  | none | num (t b:Int) | txt (z:Str) | tru (b:Bool) | flt (w z:Str) (r c:Int)
  deriving DecidableEq
def faults:List Str:=[Str.ofString "kind",Str.ofString "nought",Str.ofString "gone",Str.ofString "name",Str.ofString "shape",Str.ofString "blocked",Str.ofString "miss",Str.ofString "ring",Str.ofString "great"]
def VlOk:Vl→Prop
  | .num t b=>Low t b∧t.natAbs<10 ^ 30∧b.natAbs<10 ^ 30
  | .txt z=>z.length≤20∧∀ c∈z.cps.toList,c∈(Str.ofString "abcdefghijklmnopqrstuvwxyz0123456789 ").cps.toList
  | .flt w z r c=>w∈faults∧Nm z∧1≤r∧r≤16∧1≤c∧c≤8
  | _=>True
def ntext (t b:Int):Str:=if b=1 then num t else num t++Str.ofString "/"++num b
def vtext:Vl→Str
  | .none=>Str.ofString ""
  | .num t b=>ntext t b
  | .txt z=>Str.ofString "'"++z
  | .tru b=>if b=true then Str.ofString "yes" else Str.ofString "no"
  | .flt w z r c=>((Str.ofString "!"++w)++Str.ofString " ")++cellTx z r c
def GTup (K:PySem.W.Frag)(mg:Str→Option Value)(x:Str)(xs:List V):Prop:=∃ (a:Addr) (o:Obj),mg x=some (.ref a)∧K.lookup a=some o∧o.cls=.type "tuple"∧∃ its n,o.data=.seq its n∧its.size≤sizeLine∧Vals xs its.toList
def tGT (K:PySem.W.Frag)(xs:List V):TE:=fun _ H Q=>∀ a,(∀ H',SqT K H' a xs)→Q (.ref a) H
def VlAt (H:Hp)(p:Addr):Vl→Prop
  | .none=>H p=some (.tup [.str (Str.ofString "none")])
  | .num t b=>H p=some (.tup [.str (Str.ofString "number"),.int t,.int b])
  | .txt z=>H p=some (.tup [.str (Str.ofString "text"),.str z])
  | .tru b=>H p=some (.tup [.str (Str.ofString "truth"),.bl b])
  | .flt w z r c=>∃ q,H p=some (.tup [.str (Str.ofString "fault"),.str w,.ref q])∧H q=some (.tup [.str z,.int r,.int c])
theorem VlAt.same {H H':Hp}{p:Addr}{v:Vl}(h:VlAt H p v)(s:Same H H'):VlAt H' p v:=by
  cases v with
  | none=>exact s _ _ h
  | num t b=>exact s _ _ h
  | txt z=>exact s _ _ h
  | tru b=>exact s _ _ h
  | flt w z r c=>obtain ⟨q,a,b⟩:=h;exact ⟨q,s _ _ a,s _ _ b⟩
def spIsN:Sp:=fun vs H Q _=>∃ t b:Int,vs=[.int t,.int b]∧Low t b∧Q (.bl true) H
def spFew:Sp:=fun vs H Q _=>∃ i:Int,vs=[.int i]∧i.natAbs<10 ^ 30∧Q (.bl true) H
def spShort:Sp:=fun vs H Q _=>∃ t b:Int,vs=[.int t,.int b]∧Low t b∧t.natAbs<10 ^ 30∧b.natAbs<10 ^ 30∧Q (.bl true) H
def spIsT:Sp:=fun vs H Q _=>∃ z:Str,vs=[.str z]∧VlOk (.txt z)∧∀ H',Same H H'→Q (.bl true) H'
def spFW:Sp:=fun vs H Q _=>∃ w:Str,vs=[.str w]∧w∈faults∧Q (.bl true) H
def spIsV:Sp:=fun vs H Q _=>∃ (p:Addr) (v:Vl),vs=[.ref p]∧VlOk v∧VlAt H p v∧∀ H',Same H H'→Q (.bl true) H'
def spNT:Sp:=fun vs H Q _=>∃ t b:Int,vs=[.int t,.int b]∧t.natAbs<10 ^ 30∧b.natAbs<10 ^ 30∧Q (.str (ntext t b)) H
def spVT:Sp:=fun vs H Q _=>∃ (p:Addr) (v:Vl),vs=[.ref p]∧VlOk v∧VlAt H p v∧∀ H',Same H H'→Q (.str (vtext v)) H'
def spNM:Sp:=fun vs H Q _=>∃ t b:Int,vs=[.str (ntext t b)]∧Low t b∧t.natAbs<10 ^ 30∧b.natAbs<10 ^ 30∧∀ (p:Addr) (H':Hp),Same H H'→VlAt H' p (.num t b)→Q (.ref p) H'
def spFM:Sp:=fun vs H Q _=>∃ (w z:Str) (r c:Int),vs=[.str ((w++Str.ofString " ")++cellTx z r c)]∧VlOk (.flt w z r c)∧∀ (p:Addr) (H':Hp),Same H H'→VlAt H' p (.flt w z r c)→Q (.ref p) H'
def spTM:Sp:=fun vs H Q _=>∃ v:Vl,vs=[.str (vtext v)]∧VlOk v∧∀ (p:Addr) (H':Hp),Same H H'→VlAt H' p v→Q (.ref p) H'
def spFar5:Sp:=fun vs H Q _=>∃ (p:Addr) (k:Nat),vs=[.ref p]∧PenAt H p k∧k≤90000∧∀ (r:Int) (H':Hp),r.natAbs<10 ^ 30-3→PenAt H' p (k+5)→KeepX p H H'→Q (.int r) H'
def spNum5:Sp:=fun vs H Q _=>∃ (p:Addr) (k:Nat),vs=[.ref p]∧PenAt H p k∧k≤80000∧∀ (q:Addr) (x y:Int) (H':Hp),H' q=some (.tup [.int x,.int y])→Low x y→x.natAbs<10 ^ 30→y.natAbs<10 ^ 30→PenAt H' p (k+12)→KeepX p H H'→Q (.ref q) H'
def spVal:Sp:=fun vs H Q _=>∃ (p:Addr) (k:Nat),vs=[.ref p]∧PenAt H p k∧k≤60000∧∀ (q:Addr) (v:Vl) (H':Hp),VlOk v→VlAt H' q v→PenAt H' p (k+40)→KeepX p H H'→Q (.ref q) H'
def spSame:Sp:=fun vs H Q _=>∃ (p q:Addr) (v:Vl),vs=[.ref p,.ref q]∧VlAt H p v∧VlAt H q v∧∀ H',Same H H'→Q (.bl true) H'
theorem VlAt.keep {H H':Hp}{p q:Addr}{v:Vl}{xs:List V}(h:VlAt H q v)(hp:H p=some (.lst xs))(s:KeepX p H H'):VlAt H' q v:=by
  have ne:∀ {b:Addr} {ys:List V},H b=some (.tup ys)→b≠p:=fun e=>ne_of e hp (by intro z;cases z)
  cases v with
  | none=>exact s _ _ (ne h) h
  | num t b=>exact s _ _ (ne h) h
  | txt z=>exact s _ _ (ne h) h
  | tru b=>exact s _ _ (ne h) h
  | flt w z r c=>obtain ⟨u,a,b⟩:=h;exact ⟨u,s _ _ (ne a) a,s _ _ (ne b) b⟩
def rNeV:R2:=fun x y H Q=>∃ a b v,x=.ref a∧y=.ref b∧VlAt H a v∧VlAt H b v∧Q (.bl false) H
theorem kid1 {α:Type}{us:List α}(h:us.length=1):∃ a,us=[a]:=match us,h with | [a],_=>⟨a,rfl⟩
theorem kid2 {α:Type}{us:List α}(h:us.length=2):∃ a b,us=[a,b]:=match us,h with | [a,b],_=>⟨a,b,rfl⟩
abbrev kS (z:String):Key:=.inr (Str.ofString z)
def penK (a:Addr)(t r m u:Int):List (Key×V):=[(kS "cells",.ref a),(kS "at",.int t),(kS "rest",.int r),(kS "mode",.int m),(kS "used",.int u)]
section
variable {H:Hp}{p a:Addr}{t r m u:Int}
end
theorem SqL.kx {K:PySem.W.Frag}{H H':Hp}{a p:Addr}{xs:List V}{kvs:List (Key×V)}(h:SqL K H a xs)(hp:H p=some (.dK kvs))(s:KeepX p H H'):SqL K H' a xs:=by
  rcases h with (h | ⟨o,h⟩) | h
  · exact .inl (.inl (s _ _ (ne_of h hp (by intro z;cases z)) h))
  · exact .inl (.inr ⟨o,s _ _ (ne_of h hp (by intro z;cases z)) h⟩)
  · exact .inr h
def PenD (K:PySem.W.Frag)(S:Addr×List Int)(H:Hp)(p:Addr)(k:Nat):Prop:=∃ t r m u:Int,H p=some (.dK (penK S.1 t r m u))∧SqL K H S.1 (S.2.map V.int)∧0≤t∧0≤u∧u≤k∧(m=0∨(m=1∧0<S.2.length))∧S.2.length≤63
section
variable {K:PySem.W.Frag}{S:Addr×List Int}{H H':Hp}{p D:Addr}{k n:Nat}
theorem PenD.same (h:PenD K S H p k)(s:Same H H'):PenD K S H' p k:=let ⟨t,r,m,u,e,q,z⟩:=h;⟨t,r,m,u,s _ _ e,s.seq q,z⟩
theorem PenD.mono (h:PenD K S H p k)(s:k≤n):PenD K S H p n:=let ⟨t,r,m,u,e,q,x,y,v,w⟩:=h;⟨t,r,m,u,e,q,x,y,by omega,w⟩
theorem PenD.ob (h:PenD K S H p k):∃ kvs,H p=some (.dK kvs):=let ⟨_,_,_,_,e,_⟩:=h;⟨_,e⟩
theorem PenD.ne (h:PenD K S H p k)(hD:H D=none):D≠p:=fun z=>by
  obtain ⟨kvs,e⟩:=h.ob
  rw [← z,hD] at e;cases e
theorem PenD.put {o:HO}(h0:PenD K S H p k)(hD:H D=none)(h:PenD K S H' p n):PenD K S (upd H' D o) p n:=by
  have ne:=h0.ne hD
  obtain ⟨_,_,_,_,_,q0,_⟩:=h0
  obtain ⟨t,r,m,u,e,q,z⟩:=h
  refine ⟨t,r,m,u,by rw [upd_ne (Ne.symm ne)];exact e,?_,z⟩
  rcases q0 with (q0 | ⟨o0,q0⟩) | q0
  · have na:=ne_of_none q0 hD
    rcases q with (q | ⟨o1,q⟩) | q
    · exact .inl (.inl (by rw [upd_ne na];exact q))
    · exact .inl (.inr ⟨o1,by rw [upd_ne na];exact q⟩)
    · exact .inr q
  · have na:=ne_of_none q0 hD
    rcases q with (q | ⟨o1,q⟩) | q
    · exact .inl (.inl (by rw [upd_ne na];exact q))
    · exact .inl (.inr ⟨o1,by rw [upd_ne na];exact q⟩)
    · exact .inr q
  · exact .inr q0
end
def spPenD (K:PySem.W.Frag):Sp:=fun vs H Q _=>∃ (a:Addr) (ns:List Int),vs=[.ref a]∧SqL K H a (ns.map V.int)∧ns.length≤63∧∀ (p:Addr) (H':Hp),H p=none→PenD K (a,ns) H' p 0→Same H H'→Q (.ref p) H'
def spTakD (K:PySem.W.Frag):Sp:=fun vs H Q _=>∃ (p:Addr) (m:Int) (k:Nat) (S:Addr×List Int),vs=[.ref p,.int m]∧0<m∧Sz 4000 m∧PenD K S H p k∧k≤10000000∧∀ (r:Int) (H':Hp),0≤r→r<m→PenD K S H' p (k+1)→KeepX p H H'→Q (.int r) H'
theorem atI_ints {ns:List Int}{r:Int}(h0:0≤r)(h1:r<(ns.length:Int)):∃ v,atI (ns.map V.int) r=some (V.int v):=by
  obtain ⟨j,rfl⟩:∃ j:Nat,r=(j:Int):=⟨r.toNat,by omega⟩
  have hj:j<ns.length:=by omega
  exact ⟨ns[j],atI_nat (by rw [List.getElem?_map,List.getElem?_eq_getElem hj];rfl)⟩
abbrev vS (z:String):V:=.str (Str.ofString z)
def KN14:List V:=[vS "sum",vS "yes",vS "if",vS "grid",vS "outer",vS "no",vS "su",vS "sums",vS "iff",vS "yess",vS "neg",vS "own",vS "abcdef",vS "z"]
def RS1:List V:=[vS "yes",vS "no",vS "if",vS "sum",vS "count",vS "least",vS "most",vS "sumif",vS "find",vS "turn",vS "stack"]
def RS2:List V:=[vS "grid",vS "outer"]
def rsv (z:Str):Bool:=inV (.str z) RS1||inV (.str z) RS2
def knB (j:Nat):Bool:=match KN14[j]? with
  | some (.str z)=>(decide (1≤z.length)&&decide (z.length≤6)&&z.cps.toList.all fun c=>decide (97≤c)&&decide (c≤122))&&(decide (j<6)||!rsv z)
  | _=>false
def spLet (K:PySem.W.Frag):Sp:=fun vs H Q _=>∃ (p:Addr) (fr:Bool) (n:Nat) (S:Addr×List Int),vs=[.ref p,.bl fr]∧PenD K S H p n∧n≤9500000∧∀ (z:Str) (H':Hp),Nm z→(fr=true→rsv z=false)→PenD K S H' p (n+8)→KeepX p H H'→Q (.str z) H'
def shV:Option Str→V
  | none=>.non
  | some z=>.str z
def ShOk:Option Str→Prop
  | none=>True
  | some z=>Nm z
def spShD (K:PySem.W.Frag):Sp:=fun vs H Q _=>∃ (p:Addr) (n:Nat) (S:Addr×List Int),vs=[.ref p]∧PenD K S H p n∧n≤9000000∧∀ (s:Option Str) (H':Hp),ShOk s→PenD K S H' p (n+9)→KeepX p H H'→Q (shV s) H'
def Kp (H H':Hp):Prop:=∀ a xs,H a=some (.tup xs)→H' a=some (.tup xs)
theorem Kp.same {H H':Hp}(s:Same H H'):Kp H H':=fun a xs e=>s _ _ e
theorem Kp.keepD {H H':Hp}{p:Addr}{kvs:List (Key×V)}(hp:H p=some (.dK kvs))(s:KeepX p H H'):Kp H H':=fun a xs e=>s _ _ (ne_of e hp (by intro z;cases z)) e
theorem Kp.pen {K:PySem.W.Frag}{S:Addr×List Int}{H H':Hp}{p:Addr}{n:Nat}(h:PenD K S H p n)(s:KeepX p H H'):Kp H H':=let ⟨_,e⟩:=h.ob;Kp.keepD e s
theorem Kp.lst {H H':Hp}{p:Addr}{ys:List V}(hp:H p=some (.lst ys))(s:KeepX p H H'):Kp H H':=fun a xs e=>s _ _ (ne_of e hp (by intro z;cases z)) e
theorem Kp.trans {H H1 H2:Hp}(a:Kp H H1)(b:Kp H1 H2):Kp H H2:=fun c xs e=>b c xs (a c xs e)
structure Cor where
  r:Int
  c:Int
  x:Bool
  y:Bool
abbrev corV (c:Cor):List V:=[.int c.r,.int c.c,.bl c.x,.bl c.y]
structure CorOk (c:Cor):Prop where
  r0:1≤c.r
  r1:c.r≤16
  c0:1≤c.c
  c1:c.c≤8
inductive Lf where
  | val (v:Vl) | cell (s:Option Str) (c:Cor) | rng (s:Option Str) (c d:Cor) | cols (s:Option Str) (a:Int) (x:Bool) (b:Int) (y:Bool) | gone | nam (z:Str) | par (i:Int) | flt
def LfAt (H:Hp)(a:Addr):Lf→Prop
  | .val v=>∃ q,H a=some (.tup [vS "value",.ref q])∧VlAt H q v
  | .cell s c=>∃ q,H a=some (.tup [vS "cell",shV s,.ref q])∧H q=some (.tup (corV c))
  | .rng s c d=>∃ q u,H a=some (.tup [vS "range",shV s,.ref q,.ref u])∧H q=some (.tup (corV c))∧H u=some (.tup (corV d))
  | .cols s i x j y=>∃ q u,H a=some (.tup [vS "columns",shV s,.ref q,.ref u])∧H q=some (.tup [.int i,.bl x])∧H u=some (.tup [.int j,.bl y])
  | .gone=>H a=some (.tup [vS "gone"])
  | .nam z=>H a=some (.tup [vS "name",.str z])
  | .par i=>H a=some (.tup [vS "param",.int i])
  | .flt=>H a=some (.tup [vS "fault",vS "name"])
def VlW:Vl→Prop
  | .num t b=>b=1∧0≤t∧t≤999999999
  | .txt _=>True
  | .tru _=>True
  | _=>False
def LfOk (pr:Nat):Lf→Prop
  | .val v=>VlOk v∧VlW v
  | .cell s c=>ShOk s∧CorOk c
  | .rng s c d=>ShOk s∧CorOk c∧CorOk d∧c.r≤d.r∧c.c≤d.c
  | .cols ..=>False
  | .gone=>False
  | .nam _=>False
  | .par _=>False
  | .flt=>True
theorem VlAt.kp {H H':Hp}{p:Addr}{v:Vl}(h:VlAt H p v)(s:Kp H H'):VlAt H' p v:=by
  cases v with
  | none=>exact s _ _ h
  | num t b=>exact s _ _ h
  | txt z=>exact s _ _ h
  | tru b=>exact s _ _ h
  | flt w z r c=>obtain ⟨q,a,b⟩:=h;exact ⟨q,s _ _ a,s _ _ b⟩
theorem LfAt.kp {H H':Hp}{a:Addr}{l:Lf}(h:LfAt H a l)(s:Kp H H'):LfAt H' a l:=by
  cases l with
  | val v=>obtain ⟨q,h1,h2⟩:=h;exact ⟨q,s _ _ h1,VlAt.kp h2 s⟩
  | cell z c=>obtain ⟨q,h1,h2⟩:=h;exact ⟨q,s _ _ h1,s _ _ h2⟩
  | rng z c d=>obtain ⟨q,u,h1,h2,h3⟩:=h;exact ⟨q,u,s _ _ h1,s _ _ h2,s _ _ h3⟩
  | cols z i x j y=>obtain ⟨q,u,h1,h2,h3⟩:=h;exact ⟨q,u,s _ _ h1,s _ _ h2,s _ _ h3⟩
  | gone=>exact s _ _ h
  | nam z=>exact s _ _ h
  | par i=>exact s _ _ h
  | flt=>exact s _ _ h
def spCorD (K:PySem.W.Frag):Sp:=fun vs H Q _=>∃ (p:Addr) (r c:Int) (n:Nat) (S:Addr×List Int),vs=[.ref p,.int r,.int c]∧PenD K S H p n∧n≤9000000∧∀ (q:Addr) (x y:Bool) (H':Hp),H' q=some (.tup (corV ⟨r,c,x,y⟩))→PenD K S H' p (n+2)→KeepX p H H'→Q (.ref q) H'
def spRefD (K:PySem.W.Frag):Sp:=fun vs H Q _=>∃ (p:Addr) (w:Int) (n:Nat) (S:Addr×List Int),vs=[.ref p,.int w]∧PenD K S H p n∧n≤8000000∧∀ (a:Addr) (l:Lf) (H':Hp),LfAt H' a l→(∀ pr,LfOk pr l)→PenD K S H' p (n+30)→KeepX p H H'→Q (.ref a) H'
def spValD (K:PySem.W.Frag):Sp:=fun vs H Q _=>∃ (p:Addr) (w:Int) (n:Nat) (S:Addr×List Int),vs=[.ref p,.int w]∧PenD K S H p n∧n≤8000000∧∀ (q:Addr) (v:Vl) (H':Hp),VlAt H' q v→VlOk v→VlW v→PenD K S H' p (n+30)→KeepX p H H'→Q (.ref q) H'
def spLeafD (K:PySem.W.Frag):Sp:=fun vs H Q _=>∃ (p:Addr) (pr:Nat) (n:Nat) (S:Addr×List Int),vs=[.ref p,.int pr]∧pr≤3∧PenD K S H p n∧n≤7000000∧∀ (a:Addr) (l:Lf) (H':Hp),LfAt H' a l→LfOk pr l→PenD K S H' p (n+40)→KeepX p H H'→Q (.ref a) H'
theorem low_one {n:Int}:Low n 1:=⟨by decide,by simp⟩
inductive Kd where
  | op (z:Str) | neg | own (z:Str) | sumif (z:Str) | grid (i j:Int) | wd (z:Str)
def frV:Kd→List V
  | .op z=>[vS "op",.str z]
  | .neg=>[vS "neg"]
  | .own z=>[vS "own",.str z]
  | .sumif z=>[vS "sumif",.str z]
  | .grid i j=>[vS "grid",.int i,.int j]
  | .wd z=>[.str z]
def layV (t:Addr):Kd→List V→List V
  | .op z,us=>vS "op"::.str z::us
  | .neg,us=>vS "neg"::us
  | .own z,_=>[vS "own",.str z,.ref t]
  | .sumif z,us=>vS "sumif"::(us.take 1++.str z::us.drop 1)
  | .grid i j,us=>vS "grid"::.int i::.int j::us
  | .wd z,us=>.str z::us
def isOwn:Kd→Bool
  | .own _=>true
  | _=>false
def OPS:List Str:=["+","-","*","/","&","=","<"].map Str.ofString
def WDS:List (Str×Nat):=[("if",3),("sum",1),("count",1),("least",1),("most",1),("find",3),("turn",1),("stack",2),("outer",1)].map fun x=>(Str.ofString x.1,x.2)
def KdOk:Kd→Nat→Prop
  | .op z,m=>z∈OPS∧m=2
  | .neg,m=>m=1
  | .own z,m=>m≤3∧False
  | .sumif z,m=>(z=Str.ofString "="∨z=Str.ofString "<")∧m=3
  | .grid i j,m=>1≤i∧i≤16∧1≤j∧j≤8∧m=2
  | .wd z,m=>(z,m)∈WDS
theorem KdOk.le {k:Kd}{m:Nat}(h:KdOk k m):m≤3:=by
  cases k with
  | op z=>have:=h.2;omega
  | neg=>have:m=1:=h;omega
  | own z=>exact h.1
  | sumif z=>have:=h.2;omega
  | grid i j=>have:=h.2.2.2.2;omega
  | wd z=>
    have h:(z,m)∈WDS:=h
    have:∀ x∈WDS,x.2≤3:=by decide +kernel
    exact this _ h
def spFrmD (K:PySem.W.Frag):Sp:=fun vs H Q _=>∃ (p:Addr) (n:Nat) (S:Addr×List Int),vs=[.ref p]∧PenD K S H p n∧n≤8000000∧∀ (a f:Addr) (k:Kd) (m:Nat) (H':Hp),H' a=some (.tup [.ref f,.int m])→H' f=some (.tup (frV k))→KdOk k m→PenD K S H' p (n+12)→KeepX p H H'→Q (.ref a) H'
def spMadD:Sp:=fun vs H Q _=>∃ (f l:Addr) (k:Kd) (us:List V),vs=[.ref f,.ref l]∧H f=some (.tup (frV k))∧H l=some (.lst us)∧KdOk k us.length∧∀ (a t:Addr) (H':Hp),H' a=some (.tup (layV t k us))→(isOwn k=true→H' t=some (.tup us))→Same H H'→Q (.ref a) H'
def WD9:List Str:=["if","sum","count","least","most","find","turn","stack","outer"].map Str.ofString
inductive Fm where
  | lf (l:Lf) | nd (k:Kd) (ps:List Fm)
inductive FmAt (H:Hp):V→Fm→Prop where
  | lf {a:Addr} {l:Lf} (h:LfAt H a l):FmAt H (.ref a) (.lf l)
  | nd {a t:Addr} {k:Kd} {us:List V} {ps:List Fm} (h:H a=some (.tup (layV t k us))) (ht:isOwn k=true→H t=some (.tup us)) (hl:us.length=ps.length)
      (hh:∀ (j:Nat) (u:V) (f:Fm),us[j]?=some u→ps[j]?=some f→FmAt H u f):FmAt H (.ref a) (.nd k ps)
theorem FmAt.kp {H H':Hp}{v:V}{f:Fm}(h:FmAt H v f)(s:Kp H H'):FmAt H' v f:=by
  induction h with
  | lf h=>exact .lf (LfAt.kp h s)
  | nd h ht hl _ ih=>exact .nd (s _ _ h) (fun z=>s _ _ (ht z)) hl ih
abbrev FmsAt (H:Hp)(us:List V)(fs:List Fm):Prop:=Paired (FmAt H) us fs
theorem FmsAt.kp {H H':Hp}{us:List V}{fs:List Fm}(h:FmsAt H us fs)(s:Kp H H'):FmsAt H' us fs:=Paired.imp' (fun _ _ x=>FmAt.kp x s) h
inductive FO (pr:Nat):Nat→Fm→Prop where
  | lf {n:Nat} {l:Lf} (h:LfOk pr l):FO pr (n+1) (.lf l)
  | nd {n:Nat} {k:Kd} {ps:List Fm} (h:KdOk k ps.length) (hp:∀ f∈ps,FO pr n f):FO pr (n+1) (.nd k ps)
theorem FO.mono {pr:Nat}{n:Nat}{f:Fm}(h:FO pr n f):∀ {m:Nat},n≤m→FO pr m f:=by
  induction h with
  | lf h=>
    intro m hm
    obtain ⟨m,rfl⟩:∃ k,m=k+1:=⟨m-1,by omega⟩
    exact .lf h
  | nd h _ ih=>
    intro m hm
    obtain ⟨m,rfl⟩:∃ k,m=k+1:=⟨m-1,by omega⟩
    exact .nd h fun f hf=>ih f hf (by omega)
def spGrow (K:PySem.W.Frag)(n:Nat):Sp:=fun vs H Q _=>∃ (p:Addr) (room d:Int) (pr:Nat) (c:Nat) (S:Addr×List Int),vs=[.ref p,.int room,.int d,.int pr]∧d=(n:Int)+1∧1≤room∧room≤24∧pr≤3∧PenD K S H p c∧c+80*room.toNat≤6000000∧
  ∀ (v:V) (f:Fm) (H':Hp),FmAt H' v f→FO pr (n+1) f→PenD K S H' p (c+80*room.toNat)→KeepX p H H'→Q v H'
theorem psnoc {α β:Type}{F:α→β→Prop}:∀ {xs:List α} {ys:List β} {x:α} {y:β},Paired F xs ys→F x y→Paired F (xs++[x]) (ys++[y])
  | _,_,_,_,.nil,h=>.cons h .nil
  | _,_,_,_,.cons r t,h=>.cons r (psnoc t h)
abbrev zS (z:String):Str:=Str.ofString z
theorem atI_hd {α:Type}{x:α}{r:List α}:atI (x::r) 0=some x:=atI_nat (j:=0) rfl
theorem atI_1 {α:Type}{x y:α}{r:List α}:atI (x::y::r) 1=some y:=atI_nat (j:=1) rfl
theorem atI_2 {α:Type}{x y z:α}{r:List α}:atI (x::y::z::r) 2=some z:=atI_nat (j:=2) rfl
def prtF:Fm→List Fm
  | .lf _=>[]
  | .nd _ ps=>ps
def kw:Kd→Str
  | .op _=>zS "op"
  | .neg=>zS "neg"
  | .own _=>zS "own"
  | .sumif _=>zS "sumif"
  | .grid _ _=>zS "grid"
  | .wd z=>z
theorem lay_kw (t:Addr)(k:Kd)(us:List V):∃ r,layV t k us=.str (kw k)::r:=by cases k <;> exact ⟨_,rfl⟩
theorem FmAt.parts {H:Hp}{us:List V}{ps:List Fm}(hl:us.length=ps.length)(hh:∀ (j:Nat) (u:V) (f:Fm),us[j]?=some u→ps[j]?=some f→FmAt H u f):FmsAt H us ps:=by
  induction us generalizing ps with
  | nil=>
    cases ps with
    | nil=>exact .nil
    | cons _ _=>simp at hl
  | cons u us ih=>
    cases ps with
    | nil=>simp at hl
    | cons p ps=>exact .cons (hh 0 u p rfl rfl) (ih (by simpa using hl) fun j u f e1 e2=>hh (j+1) u f (by simpa using e1) (by simpa using e2))
def isRefV:V→Bool
  | .ref _=>true
  | _=>false
def PartOr (H:Hp)(x:V):Prop:=(∃ b ys,x=.ref b∧H b=some (.tup ys))∨(∃ z,x=.str z)∨∃ i,x=.int i
theorem kw_own {k:Kd}{m:Nat}(ok:KdOk k m):decide (V.str (kw k)=vS "own")=isOwn k:=by
  cases k with
  | wd z=>
    have hw:(z,m)∈WDS:=ok
    have:∀ x∈WDS,decide (V.str x.1=vS "own")=false:=by decide +kernel
    exact this _ hw
  | op z=>show decide (vS "op"=vS "own")=false;decide +kernel
  | neg=>show decide (vS "neg"=vS "own")=false;decide +kernel
  | own z=>show decide (vS "own"=vS "own")=true;decide +kernel
  | sumif z=>show decide (vS "sumif"=vS "own")=false;decide +kernel
  | grid i j=>show decide (vS "grid"=vS "own")=false;decide +kernel
def spPrt:Sp:=fun vs H Q _=>∃ (v:V) (f:Fm) (pr n:Nat),vs=[v]∧FmAt H v f∧FO pr n f∧∀ (l:Addr) (us:List V) (H':Hp),H l=none→H' l=some (.lst us)→FmsAt H' us (prtF f)→Same H H'→Q (.ref l) H'
theorem Same.back0 {H H':Hp}{b:Addr}(s:Same H H')(h:H' b=none):H b=none:=by
  cases e:H b with
  | none=>rfl
  | some o=>rw [s _ _ e] at h;cases h
theorem slm {n:Nat}(h:n≤16000000):n≤sizeLine:=Nat.le_trans h (by decide)
def PPK:List (Key×List V):=[(kS "op",[.int 2,.int 3]),(kS "neg",[.int 1]),(kS "if",[.int 1,.int 2,.int 3]),(kS "sum",[.int 1]),(kS "count",[.int 1]),(kS "least",[.int 1]),(kS "most",[.int 1]),(kS "sumif",[.int 1,.int 3,.int 4]),(kS "find",[.int 1,.int 2,.int 3]),(kS "turn",[.int 1]),(kS "stack",[.int 1,.int 2]),(kS "grid",[.int 3,.int 4]),(kS "outer",[.int 1])]
def ppAt (k:Str):Option (List V):=(PPK.find? fun kt=>decide (kt.1=(Sum.inr k:Key))).map (·.2)
abbrev KTs (K:PySem.W.Frag):List (Key×V)→List (Key×List V)→Prop:=Paired (fun (kv:Key×V) (kt:Key×List V)=>kv.1=kt.1∧∃ a,kv.2=.ref a∧∀ H,SqT K H a kt.2)
theorem pp_get {K:PySem.W.Frag}{k:Key}{ys:List V}:∀ {kvs:List (Key×V)} {kts:List (Key×List V)},KTs K kvs kts→(kts.find? fun kt=>decide (kt.1=k)).map (·.2)=some ys→∃ a,valV kvs k=some (.ref a)∧∀ H,SqT K H a ys
  | _,_,.nil,h=>by simp at h
  | (kv::kvs),(kt::kts),.cons r t,h=>by
    obtain ⟨e,a,ea,sq⟩:=r
    by_cases c:kt.1=k
    · rw [List.find?_cons_of_pos (by simpa using c)] at h
      simp only [Option.map_some,Option.some.injEq] at h
      subst h
      exact ⟨a,by rw [valV_pos (e.trans c),ea],sq⟩
    · rw [List.find?_cons_of_neg (by simpa using c)] at h
      obtain ⟨b,hb,sb⟩:=pp_get t h
      exact ⟨b,by rw [valV_neg (fun z=>c (e.symm.trans z))];exact hb,sb⟩
def up1 (m:Nat):List Nat:=(List.range m).map (·+1)
theorem lay_pl {t:Addr}{k:Kd}{us:List V}(ok:KdOk k us.length)(no:isOwn k=false):∃ pl:List Nat,ppAt (kw k)=some (pl.map fun (p:Nat)=>V.int p)∧pl.length=us.length∧∀ j,j<us.length→∃ p u,pl[j]?=some p∧us[j]?=some u∧atI (layV t k us) (p:Int)=some u:=by
  cases k with
  | op z=>
    obtain ⟨u1,u2,rfl⟩:=kid2 ok.2
    refine ⟨[2,3],(by show ppAt (zS "op")=_;decide +kernel),rfl,fun j hj=>?_⟩
    match j,hj with
    | 0,_=>exact ⟨2,u1,rfl,rfl,rfl⟩
    | 1,_=>exact ⟨3,u2,rfl,rfl,rfl⟩
  | neg=>
    obtain ⟨u1,rfl⟩:=kid1 (show us.length=1 from ok)
    refine ⟨[1],(by show ppAt (zS "neg")=_;decide +kernel),rfl,fun j hj=>?_⟩
    match j,hj with
    | 0,_=>exact ⟨1,u1,rfl,rfl,rfl⟩
  | own z=>cases no
  | sumif z=>
    have h3:us.length=3:=ok.2
    match us,h3 with
    | [u1,u2,u3],_=>
    refine ⟨[1,3,4],(by show ppAt (zS "sumif")=_;decide +kernel),rfl,fun j hj=>?_⟩
    match j,hj with
    | 0,_=>exact ⟨1,u1,rfl,rfl,rfl⟩
    | 1,_=>exact ⟨3,u2,rfl,rfl,rfl⟩
    | 2,_=>exact ⟨4,u3,rfl,rfl,rfl⟩
  | grid i j=>
    obtain ⟨u1,u2,rfl⟩:=kid2 ok.2.2.2.2
    refine ⟨[3,4],(by show ppAt (zS "grid")=_;decide +kernel),rfl,fun j hj=>?_⟩
    match j,hj with
    | 0,_=>exact ⟨3,u1,rfl,rfl,rfl⟩
    | 1,_=>exact ⟨4,u2,rfl,rfl,rfl⟩
  | wd z=>
    have hw:(z,us.length)∈WDS:=ok
    have hz:∀ x∈WDS,ppAt x.1=some ((up1 x.2).map fun (p:Nat)=>V.int p):=by decide +kernel
    refine ⟨up1 us.length,hz _ hw,by simp [up1],fun j hj=>⟨j+1,us[j],?_,List.getElem?_eq_getElem hj,?_⟩⟩
    · unfold up1
      rw [List.getElem?_map,List.getElem?_range hj];rfl
    · exact atI_nat (j:=j+1) (by show (V.str z::us)[j+1]?=_;rw [List.getElem?_cons_succ,List.getElem?_eq_getElem hj])
mutual
def szF:Fm→Nat
  | .lf _=>1
  | .nd _ ps=>1+szs ps
def szs:List Fm→Nat
  | []=>0
  | f::fs=>szF f+szs fs
end
theorem szs_app:∀ a b:List Fm,szs (a++b)=szs a+szs b
  | [],b=>by rw [List.nil_append,szs];omega
  | x::a,b=>by rw [List.cons_append,szs,szs,szs_app a b];omega
theorem szF_prt (f:Fm):szF f=1+szs (prtF f):=by
  cases f with
  | lf l=>rw [szF];show 1=1+szs [];rw [szs]
  | nd k ps=>rw [szF];rfl
theorem szs_len:∀ fs:List Fm,fs.length≤szs fs
  | []=>Nat.zero_le _
  | f::fs=>by
    have:=szs_len fs
    have:=szF_prt f
    rw [szs,List.length_cons];omega
theorem szs_le {B:Nat}:∀ fs:List Fm,(∀ f∈fs,szF f≤B)→szs fs≤fs.length*B
  | [],_=>by rw [szs];exact Nat.zero_le _
  | f::fs,h=>by
    have a:=szs_le fs fun g hg=>h g (List.mem_cons_of_mem _ hg)
    have b:=h f (by simp)
    rw [szs,List.length_cons,Nat.add_mul];omega
def SB:Nat→Nat
  | 0=>0
  | n+1=>1+3*SB n
theorem FO.sz {pr n:Nat}{f:Fm}(h:FO pr n f):szF f≤SB n:=by
  induction h with
  | lf h=>rw [szF];show 1≤1+3*SB _;omega
  | @nd n k ps ok _ ih=>
    rw [szF]
    have a:=szs_le ps ih
    have b:ps.length*SB n≤3*SB n:=Nat.mul_le_mul_right _ ok.le
    show 1+szs ps≤1+3*SB n
    omega
theorem FO.sz8 {pr:Nat}{f:Fm}(h:FO pr 8 f):szF f≤3280:=Nat.le_trans h.sz (by decide)
theorem FO.prt {pr n:Nat}{f:Fm}(h:FO pr n f):∀ g∈prtF f,FO pr n g:=fun g hg=>by
  cases h with
  | lf _=>cases hg
  | nd _ hp=>exact (hp g hg).mono (Nat.le_succ _)
theorem psplit {α β:Type}{F:α→β→Prop}:∀ {xs:List α} {x:α} {ys:List β},Paired F (xs++[x]) ys→∃ ys' y,ys=ys'++[y]∧Paired F xs ys'∧F x y
  | [],_,_,.cons r .nil=>⟨[],_,rfl,.nil,r⟩
  | _::_,_,_,.cons r t=>by
    obtain ⟨ys',y,rfl,p,q⟩:=psplit t
    exact ⟨_::ys',y,rfl,.cons r p,q⟩
theorem papp {α β:Type}{F:α→β→Prop}:∀ {xs zs:List α} {ys ws:List β},Paired F xs ys→Paired F zs ws→Paired F (xs++zs) (ys++ws)
  | _,_,_,_,.nil,h=>h
  | _,_,_,_,.cons r t,h=>.cons r (papp t h)
def itOk (x:V):Prop:=flatV x=true∨∃ a,x=.ref a
theorem itOk.tr {H:Hp}{n:Nat}{x:V}(h:itOk x):TrEq H n x x:=by
  rcases h with h | ⟨a,rfl⟩
  · exact .fl h
  · exact .rf
theorem LfAt.pp {H:Hp}{a:Addr}{l:Lf}(h:LfAt H a l):∃ w r,H a=some (.tup (.str w::r))∧V.bl (decide (V.str w=vS "own"))=V.bl false∧ppAt w=none∧(∀ x∈(.str w::r),itOk x)∧r.length≤5:=by
  have sh:∀ s:Option Str,itOk (shV s):=fun s=>by cases s <;> exact .inl rfl
  cases l with
  | val v=>obtain ⟨q,h1,_⟩:=h;exact ⟨_,_,h1,by decide +kernel,by decide +kernel,by simp [itOk,flatV],by simp⟩
  | cell s c=>obtain ⟨q,h1,_⟩:=h;exact ⟨_,_,h1,by decide +kernel,by decide +kernel,by simp [itOk,flatV];exact sh s,by simp⟩
  | rng s c d=>obtain ⟨q,u,h1,_⟩:=h;exact ⟨_,_,h1,by decide +kernel,by decide +kernel,by simp [itOk,flatV];exact sh s,by simp⟩
  | cols s i x j y=>obtain ⟨q,u,h1,_⟩:=h;exact ⟨_,_,h1,by decide +kernel,by decide +kernel,by simp [itOk,flatV];exact sh s,by simp⟩
  | gone=>exact ⟨_,_,h,by decide +kernel,by decide +kernel,by simp [itOk,flatV],by simp⟩
  | nam z=>exact ⟨_,_,h,by decide +kernel,by decide +kernel,by simp [itOk,flatV],by simp⟩
  | par i=>exact ⟨_,_,h,by decide +kernel,by decide +kernel,by simp [itOk,flatV],by simp⟩
  | flt=>exact ⟨_,_,h,by decide +kernel,by decide +kernel,by simp [itOk,flatV],by simp⟩
theorem pp_none {K:PySem.W.Frag}{k:Key}:∀ {kvs:List (Key×V)} {kts:List (Key×List V)},KTs K kvs kts→(kts.find? fun kt=>decide (kt.1=k)).map (·.2)=none→valV kvs k=none
  | _,_,.nil,_=>rfl
  | (kv::kvs),(kt::kts),.cons r t,h=>by
    obtain ⟨e,a,ea,sq⟩:=r
    by_cases c:kt.1=k
    · rw [List.find?_cons_of_pos (by simpa using c)] at h
      simp at h
    · rw [List.find?_cons_of_neg (by simpa using c)] at h
      rw [valV_neg (fun z=>c (e.symm.trans z))]
      exact pp_none t h
theorem szF_le {pr n:Nat}{f:Fm}(h:FO pr n f)(h8:n≤8):szF f≤3280:=(h.mono h8).sz8
theorem one_le:1≤sizeLine:=by decide
mutual
def alF:Fm→List Fm
  | .lf l=>[.lf l]
  | .nd k ps=>alL ps++[.nd k ps]
def alL:List Fm→List Fm
  | []=>[]
  | f::fs=>alF f++alL fs
end
theorem alF_prt (f:Fm):alF f=alL (prtF f)++[f]:=by
  cases f with
  | lf l=>rw [alF];show [Fm.lf l]=alL []++[Fm.lf l];rw [alL];rfl
  | nd k ps=>rw [alF];rfl
theorem alL_app:∀ a b:List Fm,alL (a++b)=alL a++alL b
  | [],b=>by rw [List.nil_append,alL,List.nil_append]
  | x::a,b=>by rw [List.cons_append,alL,alL,alL_app a b,List.append_assoc]
mutual
theorem alF_len:∀ f:Fm,(alF f).length=szF f
  | .lf l=>by rw [alF,szF];rfl
  | .nd k ps=>by rw [alF,szF,List.length_append,alL_len ps,List.length_singleton];omega
theorem alL_len:∀ fs:List Fm,(alL fs).length=szs fs
  | []=>by rw [alL,szs];rfl
  | f::fs=>by rw [alL,szs,List.length_append,alF_len f,alL_len fs]
end
def spAll:Sp:=fun vs H Q _=>∃ (v:V) (f:Fm) (pr n:Nat),vs=[v]∧FmAt H v f∧FO pr n f∧n≤8∧∀ l ws H',H l=none→H' l=some (.lst ws)→FmsAt H' ws (alF f)→Same H H'→Q (.ref l) H'
theorem prev {α β:Type}{R:α→β→Prop}{xs:List α}{ys:List β}(h:Paired R xs ys):Paired R xs.reverse ys.reverse:=by
  induction h with
  | nil=>exact .nil
  | cons h _ ih=>rw [List.reverse_cons,List.reverse_cons];exact papp ih (.cons h .nil)
theorem FmAt.tup {H:Hp}{v:V}{f:Fm}(h:FmAt H v f):∃ b ys,v=.ref b∧H b=some (.tup ys):=by
  cases h with
  | lf h=>obtain ⟨w,r,h1,_⟩:=h.pp;exact ⟨_,_,rfl,h1⟩
  | nd h _ _ _=>exact ⟨_,_,rfl,h⟩
theorem SqT.sm {K:PySem.W.Frag}{H H':Hp}{a:Addr}{xs:List V}(h:SqT K H a xs)(s:Same H H'):SqT K H' a xs:=by
  rcases h with (h | ⟨o,h⟩) | h
  · exact .inl (.inl (s _ _ h))
  · exact .inl (.inr ⟨o,s _ _ h⟩)
  · exact .inr h
mutual
theorem FO.al {pr n:Nat}:∀ (f:Fm),FO pr n f→∀ g∈alF f,FO pr n g
  | .lf l,h,g,hg=>by rw [alF] at hg;rw [List.mem_singleton.mp hg];exact h
  | .nd k ps,h,g,hg=>by
    rw [alF] at hg
    rcases List.mem_append.mp hg with q | q
    · exact FO.als ps (fun x hx=>h.prt x hx) g q
    · rw [List.mem_singleton.mp q];exact h
theorem FO.als {pr n:Nat}:∀ (fs:List Fm),(∀ f∈fs,FO pr n f)→∀ g∈alL fs,FO pr n g
  | [],_,g,hg=>by rw [alL] at hg;cases hg
  | f::fs,h,g,hg=>by
    rw [alL] at hg
    rcases List.mem_append.mp hg with q | q
    · exact FO.al f (h f (List.mem_cons_self ..)) g q
    · exact FO.als fs (fun x hx=>h x (List.mem_cons_of_mem _ hx)) g q
end
theorem cut_hi {xs:List V}{j:Nat}(h:j≤xs.length):cutV xs (some (j:Int)) none=xs.drop j:=by
  unfold cutV
  have e1:HT.sIx xs.length 0 (some (j:Int))=j:=by unfold HT.sIx;simp;split <;> omega
  have e2:HT.sIx xs.length xs.length none=xs.length:=rfl
  rw [e1,e2,← List.length_drop]
  exact List.take_length
theorem cut_lo {xs:List V}{j:Nat}(h:j≤xs.length):cutV xs none (some (j:Int))=xs.take j:=by
  unfold cutV
  have e1:HT.sIx xs.length xs.length (some (j:Int))=j:=by unfold HT.sIx;simp;split <;> omega
  have e2:HT.sIx xs.length 0 none=0:=rfl
  rw [e1,e2,Nat.sub_zero];rfl
theorem pdrop {α β:Type}{F:α→β→Prop}:∀ {xs:List α} {ys:List β} (n:Nat),Paired F xs ys→Paired F (xs.drop n) (ys.drop n)
  | _,_,0,h=>by simpa using h
  | _,_,n+1,.nil=>by simpa using Paired.nil
  | _,_,n+1,.cons _ t=>by simpa using pdrop n t
theorem ptake {α β:Type}{F:α→β→Prop}:∀ {xs:List α} {ys:List β} (n:Nat),Paired F xs ys→Paired F (xs.take n) (ys.take n)
  | _,_,0,h=>by simpa using Paired.nil
  | _,_,n+1,.nil=>by simpa using Paired.nil
  | _,_,n+1,.cons r t=>by simpa using Paired.cons r (ptake n t)
def spBsh:Sp:=fun vs H Q _=>∃ (q:Addr) (x:V) (a b c d:Int),vs=[.ref q]∧H q=some (.tup [x,.int a,.int b,.int c,.int d])∧∀ r,H r=none→Q (.ref r) (upd H r (.tup [.int (c-a+1),.int (d-b+1)]))
def VvAt (H:Hp)(u:V)(v:Vl):Prop:=∃ q,u=.ref q∧VlAt H q v
theorem VvAt.kp {H H':Hp}{u:V}{v:Vl}(h:VvAt H u v)(s:Kp H H'):VvAt H' u v:=let ⟨q,e,x⟩:=h;⟨q,e,VlAt.kp x s⟩
abbrev VsAt (H:Hp)(us:List V)(vs:List Vl):Prop:=Paired (VvAt H) us vs
theorem VsAt.kp {H H':Hp}{us:List V}{vs:List Vl}(h:VsAt H us vs)(s:Kp H H'):VsAt H' us vs:=Paired.imp' (fun _ _ x=>VvAt.kp x s) h
def RsAt (H:Hp)(u:V)(row:List V):Prop:=∃ b,u=.ref b∧H b=some (.tup row)
def RowsAt (H:Hp)(u:V)(rows:List (List V)):Prop:=∃ b us,u=.ref b∧H b=some (.tup us)∧Paired (RsAt H) us rows
theorem RowsAt.kp {H H':Hp}{u:V}{rows:List (List V)}(h:RowsAt H u rows)(s:Kp H H'):RowsAt H' u rows:=let ⟨b,us,e,x,p⟩:=h;⟨b,us,e,s _ _ x,Paired.imp' (fun _ _ ⟨c,e,y⟩=>⟨c,e,s _ _ y⟩) p⟩
abbrev VtAt (H:Hp)(rows:List (List V))(m:List (List Vl)):Prop:=Paired (Paired (VvAt H)) rows m
theorem VtAt.kp {H H':Hp}{rows:List (List V)}{m:List (List Vl)}(h:VtAt H rows m)(s:Kp H H'):VtAt H' rows m:=Paired.imp' (fun _ _ x=>VsAt.kp x s) h
def TbAt (H:Hp)(u:V)(m:List (List Vl)):Prop:=∃ rows,RowsAt H u rows∧VtAt H rows m
theorem TbAt.kp {H H':Hp}{u:V}{m:List (List Vl)}(h:TbAt H u m)(s:Kp H H'):TbAt H' u m:=let ⟨r,x,y⟩:=h;⟨r,x.kp s,VtAt.kp y s⟩
theorem Kp.del (q:Str)(H:Hp):Kp H (L2.del q H):=fun _ _ e=>del_of e rfl
theorem Kp.put {q:Str}(H H':Hp)(h:Kp (L2.del q H) H'):Kp H (L2.put q H H'):=fun a xs e=>by
  have n:kn q (H a)=none:=by rw [e];rfl
  rw [put_out n]
  exact h a xs (del_of e rfl)
theorem Kp.new {H:Hp}{p:Addr}{o:HO}(h:H p=none):Kp H (upd H p o):=Kp.same (Same.new h)
def dat:HO→Bool
  | .frz _ (.own 0)=>false
  | .tbl _=>false
  | _=>true
def SmD (H H':Hp):Prop:=∀ b o,H b=some o→dat o=true→H' b=some o
theorem dat_kn {q:Str}{o:HO}(h:dat o=true):kn q (some o)=none:=by
  unfold kn
  split
  · rename_i e;cases e;cases h
  · rfl
theorem SmD.of {H H':Hp}(h:Same H H'):SmD H H':=fun b o e _=>h b o e
theorem SmD.refl (H:Hp):SmD H H:=fun _ _ e _=>e
theorem SmD.trans {H H1 H2:Hp}(a:SmD H H1)(b:SmD H1 H2):SmD H H2:=fun c o e d=>b c o (a c o e d) d
theorem SmD.kp {H H':Hp}(h:SmD H H'):Kp H H':=fun a xs e=>h a _ e rfl
theorem SmD.del (q:Str)(H:Hp):SmD H (L2.del q H):=fun _ _ e d=>del_of e (dat_kn d)
theorem SmD.put {q:Str}{H H':Hp}(h:SmD (L2.del q H) H'):SmD H (L2.put q H H'):=fun b o e d=>by
  have n:kn q (H b)=none:=by rw [e];exact dat_kn d
  rw [put_out n]
  exact h b o (del_of e (dat_kn d)) d
theorem SmD.tab {H H':Hp}{P:Addr}{ps:Array Value}(hp:H P=some (.tbl ps))(h:KeepX P H H'):SmD H H':=fun b o e d=>h b o (fun z=>by subst z;rw [hp] at e;cases e;cases d) e
theorem Kp.back {q:Str}{H H':Hp}(h:∀ b o,kn q (H b)=some o→H' b=none):Kp H' (L2.put q H H'):=fun a xs e=>by
  have n:kn q (H a)=none:=by
    cases w:kn q (H a) with
    | none=>rfl
    | some o=>rw [h a o w] at e;cases e
  rw [put_out n];exact e
theorem SmD.seq {K:PySem.W.Frag}{H H':Hp}{a:Addr}{xs:List V}(h:SmD H H')(q:SqL K H a xs):SqL K H' a xs:=by
  rcases q with (q | ⟨o,q⟩) | q
  · exact .inl (.inl (h _ _ q rfl))
  · exact .inl (.inr ⟨o,h _ _ q rfl⟩)
  · exact .inr q
def tag:Vl→Str
  | .none=>Str.ofString "none"
  | .num ..=>Str.ofString "number"
  | .txt _=>Str.ofString "text"
  | .tru _=>Str.ofString "truth"
  | .flt ..=>Str.ofString "fault"
def itm:Vl→List Itm
  | .none=>[.fl (vS "none")]
  | .num t b=>[.fl (vS "number"),.fl (.int t),.fl (.int b)]
  | .txt z=>[.fl (vS "text"),.fl (.str z)]
  | .tru b=>[.fl (vS "truth"),.fl (.bl b)]
  | .flt w z r c=>[.fl (vS "fault"),.fl (.str w),.tp [.str z,.int r,.int c]]
def eqVl (x y:Vl):Bool:=eqL eqItm (itm x) (itm y)
theorem VlAt.itm {H:Hp}{p:Addr}{v:Vl}(h:VlAt H p v):∃ xs,H p=some (.tup (.str (tag v)::xs))∧Paired (ItAt H) (.str (tag v)::xs) (itm v):=by
  cases v with
  | none=>exact ⟨_,h,.cons ⟨rfl,rfl⟩ .nil⟩
  | num t b=>exact ⟨_,h,.cons ⟨rfl,rfl⟩ (.cons ⟨rfl,rfl⟩ (.cons ⟨rfl,rfl⟩ .nil))⟩
  | txt z=>exact ⟨_,h,.cons ⟨rfl,rfl⟩ (.cons ⟨rfl,rfl⟩ .nil)⟩
  | tru b=>exact ⟨_,h,.cons ⟨rfl,rfl⟩ (.cons ⟨rfl,rfl⟩ .nil)⟩
  | flt w z r c=>
    obtain ⟨q,a,b⟩:=h
    exact ⟨_,a,.cons ⟨rfl,rfl⟩ (.cons ⟨rfl,rfl⟩ (.cons ⟨q,rfl,b,rfl⟩ .nil))⟩
def isF (v:Vl):Bool:=decide (V.str (tag v)=vS "fault")
structure Hm where
  z:Str
  r:Int
  c:Int
def HmAt (H:Hp)(u:V)(h:Hm):Prop:=∃ q,u=.ref q∧H q=some (.tup [.str h.z,.int h.r,.int h.c])
theorem HmAt.kp {H H':Hp}{u:V}{h:Hm}(x:HmAt H u h)(s:Kp H H'):HmAt H' u h:=let ⟨q,e,y⟩:=x;⟨q,e,s _ _ y⟩
def fltK (w:String)(h:Hm):Vl:=.flt (Str.ofString w) h.z h.r h.c
structure Rect {α:Type}(m:List (List α))(w:Nat):Prop where
  ne:m≠[]
  w1:1≤w
  row:∀ r∈m,r.length=w
def blk (g:Str→Int→Int→Vl)(z:Str)(r c:Int)(h w:Nat):List (List Vl):=(List.range h).map fun (i:Nat)=>(List.range w).map fun (j:Nat)=>g z (r+i) (c+j)
def chunk {α:Type}(us:List α)(w h:Nat):List (List α):=(List.range h).map fun (i:Nat)=>(us.drop (i*w)).take w
theorem chunk_paired {α β:Type}{F:α→β→Prop}{us:List α}{vs:List β}{w h:Nat}(p:Paired F us vs):Paired (Paired F) (chunk us w h) (chunk vs w h):=by
  unfold chunk
  induction (List.range h) with
  | nil=>exact .nil
  | cons i l ih=>exact .cons (ptake w (pdrop (i*w) p)) ih
theorem chunk_blk {g:Str→Int→Int→Vl}{z:Str}{r c:Int}{h w:Nat}(hw:1≤w):chunk ((List.range (h*w)).map fun (k:Nat)=>g z (r+((k / w:Nat):Int)) (c+((k%w:Nat):Int))) w h=blk g z r c h w:=by
  unfold chunk blk
  refine List.map_congr_left fun i hi=>?_
  have hi':i<h:=List.mem_range.mp hi
  refine List.ext_getElem? fun j=>?_
  by_cases hj:j<w
  · have hlt:i*w+j<h*w:=by
      have:(i+1)*w≤h*w:=Nat.mul_le_mul_right w hi'
      rw [Nat.succ_mul] at this
      omega
    rw [List.getElem?_take_of_lt hj,List.getElem?_drop,List.getElem?_map,List.getElem?_map,List.getElem?_range hlt,List.getElem?_range hj]
    simp only [Option.map_some]
    rw [Nat.mul_comm i w,Nat.mul_add_div (by omega),Nat.div_eq_of_lt hj,Nat.mul_add_mod,Nat.mod_eq_of_lt hj,Nat.add_zero]
  · rw [List.getElem?_eq_none (by rw [List.length_take];omega),List.getElem?_eq_none (by rw [List.length_map,List.length_range];omega)]
theorem blk_len {g:Str→Int→Int→Vl}{z:Str}{r c:Int}{h w:Nat}:(blk g z r c h w).length=h:=by unfold blk;rw [List.length_map,List.length_range]
theorem blk_rect {g:Str→Int→Int→Vl}{z:Str}{r c:Int}{h w:Nat}(h1:1≤h)(w1:1≤w):Rect (blk g z r c h w) w:=by
  refine ⟨fun e=>?_,w1,fun x hx=>?_⟩
  · have:=congrArg List.length e
    rw [blk_len] at this
    simp at this
    omega
  · unfold blk at hx
    obtain ⟨i,_,rfl⟩:=List.mem_map.mp hx
    rw [List.length_map,List.length_range]
def isCol (v:Vl)(w:Nat):Bool:=match v with
  | .num t b=>decide (b=1)&&(decide (1≤t)&&decide (t≤(w:Int)))
  | _=>false
def colOf:Vl→Nat
  | .num t _=>(t-1).toNat
  | _=>0
def srch (k:Vl)(j:Nat):List (List Vl)→Option Vl
  | []=>none
  | r::m=>if eqVl (r.headD .none) k=true then some (r.getD j .none) else srch k j m
def fnd (k:Vl)(m:List (List Vl))(a:Vl)(h:Hm):Vl:=
  if isF k=true then k else if isF a=true then a else if isCol a (m.headD []).length=false then fltK "kind" h else (srch k (colOf a) m).getD (fltK "miss" h)
def spOne:Sp:=fun vs H Q _=>∃ u:V,vs=[u]∧∀ x H',RowsAt H' x [[u]]→Same H H'→Q x H'
def spInR:Sp:=fun vs H Q _=>∃ (l:Addr) (us:List V) (w h:Nat),vs=[.ref l,.int w]∧H l=some (.lst us)∧us.length=h*w∧1≤w∧w≤100∧h≤100∧∀ x H',RowsAt H' x (chunk us w h)→Same H H'→Q x H'
def fstF:List V→List Vl→V
  | u::us,v::vs=>if isF v=true then u else fstF us vs
  | _,_=>.non
def spFst (K:PySem.W.Frag):Sp:=fun vs H Q _=>∃ (l:Addr) (us:List V) (ms:List Vl),vs=[.ref l]∧H l=some (.lst us)∧VsAt H us ms∧us.length≤1000∧Q (fstF us ms) H
def spCol:Sp:=fun vs H Q _=>∃ (u x:V) (v:Vl) (rows:List (List V)) (r0:List V),vs=[u,x]∧VvAt H u v∧RowsAt H x (r0::rows)∧r0.length≤1000∧Q (.bl (isCol v r0.length)) H
def spFnd:Sp:=fun vs H Q _=>∃ (u x a y:V) (k v:Vl) (m:List (List Vl)) (w:Nat) (hm:Hm),vs=[u,x,a,y]∧VvAt H u k∧TbAt H x m∧VvAt H a v∧HmAt H y hm∧Rect m w∧w≤1000∧m.length≤1000∧∀ z H',VvAt H' z (fnd k m v hm)→Same H H'→Q z H'
def spSh (D:Hp→Prop)(dom:Str→Int→Int→Prop)(g:Str→Int→Int→Vl):Sp:=fun vs H Q _=>∃ (q:Addr) (z:Str) (r c:Int),vs=[.ref q]∧H q=some (.tup [.str z,.int r,.int c])∧D H∧dom z r c∧∀ x H',VvAt H' x (g z r c)→Same H H'→Q x H'
def spShown (f:Addr)(D:Hp→Prop)(dom:Str→Int→Int→Prop)(g:Str→Int→Int→Vl):Sp:=fun vs H Q _=>∃ (b:Addr) (z:Str) (r c r2 c2:Int),vs=[.ref b,.ref f]∧BkAt H b z r c r2 c2∧D H∧(∀ i j:Int,r≤i→i≤r2→c≤j→j≤c2→dom z i j)∧
  ∀ x H',TbAt H' x (blk g z r c (r2-r+1).toNat (c2-c+1).toNat)→Same H H'→Q x H'
def lfB:Lf→Option (Str×Cor×Cor)
  | .cell (some z) c=>some (z,c,c)
  | .rng (some z) c d=>some (z,c,d)
  | _=>none
def lfT (g:Str→Int→Int→Vl)(l:Lf):List (List Vl):=match lfB l with
  | some (z,c,d)=>blk g z c.r c.c (d.r-c.r+1).toNat (d.c-c.c+1).toNat
  | none=>[]
structure LfGood (dom:Str→Int→Int→Prop)(l:Lf)(z:Str)(c d:Cor):Prop where
  b:lfB l=some (z,c,d)
  nm:Nm z
  r0:1≤c.r
  r1:c.r≤d.r
  r16:d.r≤16
  c0:1≤c.c
  c1:c.c≤d.c
  c8:d.c≤8
  dm:∀ i j:Int,c.r≤i→i≤d.r→c.c≤j→j≤d.c→dom z i j
def spBlt:Sp:=fun vs H Q _=>∃ (v:V) (l:Lf) (z:Str) (c d:Cor),vs=[v]∧FmAt H v (.lf l)∧lfB l=some (z,c,d)∧∀ r,H r=none→Q (.ref r) (upd H r (.tup [.str z,.int c.r,.int c.c,.int d.r,.int d.c]))
def spLtb (f:Addr)(D:Hp→Prop)(dom:Str→Int→Int→Prop)(g:Str→Int→Int→Vl):Sp:=fun vs H Q _=>∃ (v u:V) (l:Lf) (z:Str) (c d:Cor),vs=[v,u,.ref f]∧FmAt H v (.lf l)∧LfGood dom l z c d∧D H∧∀ x H',TbAt H' x (lfT g l)→Same H H'→Q x H'
theorem len_chunk {α:Type}{us:List α}{w h:Nat}:(chunk us w h).length=h:=by unfold chunk;rw [List.length_map,List.length_range]
theorem chunk_get {α:Type}{us:List α}{w h i:Nat}(hi:i<h):(chunk us w h)[i]?=some ((us.drop (i*w)).take w):=by unfold chunk;rw [List.getElem?_map,List.getElem?_range hi];rfl
theorem stepN_mul {w h:Nat}(hw:1≤w):stepN ((h*w:Nat):Int) (w:Int)=h:=by
  unfold stepN
  by_cases hh:h=0
  · subst hh;simp
  · have h1:0<h*w:=Nat.mul_pos (by omega) (by omega)
    rw [if_pos (by omega)]
    have e:(((h*w:Nat):Int)-1) / (w:Int)=((h*w-1) / w:Nat):=by
      rw [show ((h*w:Nat):Int)-1=((h*w-1:Nat):Int) by omega];rfl
    rw [e]
    have e2:(h*w-1) / w=h-1:=by
      have:h*w-1=w*(h-1)+(w-1):=by
        obtain ⟨k,rfl⟩:∃ k,h=k+1:=⟨h-1,by omega⟩
        rw [Nat.succ_mul,Nat.add_sub_cancel,Nat.mul_comm w k];omega
      rw [this,Nat.mul_add_div (by omega),Nat.div_eq_of_lt (by omega),Nat.add_zero]
    rw [e2];omega
theorem cut_both {xs:List V}{i j:Nat}(h:i+j≤xs.length):cutV xs (some ((i:Nat):Int)) (some ((i:Int)+(j:Int)))=(xs.drop i).take j:=by
  unfold cutV
  have e1:HT.sIx xs.length 0 (some ((i:Nat):Int))=i:=by unfold HT.sIx;simp;split <;> omega
  have e2:HT.sIx xs.length xs.length (some ((i:Int)+(j:Int)))=i+j:=by unfold HT.sIx;simp;split <;> omega
  rw [e1,e2,Nat.add_sub_cancel_left]
theorem VvAt.hd {H:Hp}{u:V}{v:Vl}(h:VvAt H u v):∃ q xs,u=.ref q∧H q=some (.tup (.str (tag v)::xs))∧Paired (ItAt H) (.str (tag v)::xs) (itm v):=by
  obtain ⟨q,e,x⟩:=h
  obtain ⟨xs,a,b⟩:=x.itm
  exact ⟨q,xs,e,a,b⟩
theorem pair_get {α β:Type}{F:α→β→Prop}:∀ {xs:List α} {ys:List β},Paired F xs ys→∀ {j:Nat} {y:β},ys[j]?=some y→∃ x,xs[j]?=some x∧F x y
  | _,_,.nil,_,_,e=>by simp at e
  | _,_,.cons r _,0,_,e=>by simp at e;subst e;exact ⟨_,rfl,r⟩
  | _,_,.cons _ t,j+1,y,e=>by
    obtain ⟨x,h1,h2⟩:=pair_get t (j:=j) (y:=y) (by simpa using e)
    exact ⟨x,by simpa using h1,h2⟩
theorem fstF_drop {us:List V}{ms:List Vl}{i:Nat}{u:V}{v:Vl}(h:us[i]?=some u)(g:ms[i]?=some v):fstF (us.drop i) (ms.drop i)=if isF v=true then u else fstF (us.drop (i+1)) (ms.drop (i+1)):=by
  have hi:=(List.getElem?_eq_some_iff.mp h).1
  have gi:=(List.getElem?_eq_some_iff.mp g).1
  rw [List.drop_eq_getElem_cons hi,List.drop_eq_getElem_cons gi,fstF]
  rw [List.getElem?_eq_getElem hi] at h
  rw [List.getElem?_eq_getElem gi] at g
  cases h;cases g;rfl
theorem VlAt.num_of {H:Hp}{p:Addr}{v:Vl}(h:VlAt H p v)(t:decide (V.str (tag v)=vS "number")=true):∃ a b,v=.num a b:=by
  cases v with
  | num a b=>exact ⟨a,b,rfl⟩
  | none=>exact absurd t (by decide +kernel)
  | txt z=>exact absurd t (by show ¬ decide (V.str (Str.ofString "text")=vS "number")=true;decide +kernel)
  | tru b=>exact absurd t (by show ¬ decide (V.str (Str.ofString "truth")=vS "number")=true;decide +kernel)
  | flt w z r c=>exact absurd t (by show ¬ decide (V.str (Str.ofString "fault")=vS "number")=true;decide +kernel)
theorem cons_of {α:Type}{l:List α}(h:1≤l.length):∃ a t,l=a::t:=match l,h with | a::t,_=>⟨a,t,rfl⟩
theorem HmAt.flt {H:Hp}{y:V}{h:Hm}{w:String}(x:HmAt H y h){p:Addr}(hp:H p=none):VvAt (upd H p (.tup [vS "fault",vS w,y])) (.ref p) (fltK w h):=by
  obtain ⟨q,rfl,hq⟩:=x
  exact ⟨p,rfl,q,upd_same,Same.new hp _ _ hq⟩
theorem Paired.snoc {α β:Type}{F:α→β→Prop}{xs:List α}{ys:List β}{x:α}{y:β}(p:Paired F xs ys)(h:F x y):Paired F (xs++[x]) (ys++[y]):=psnoc p h
theorem lfB_at {H:Hp}{a:Addr}{l:Lf}{z:Str}{c d:Cor}(h:LfAt H a l)(b:lfB l=some (z,c,d)):∃ w q u r,H a=some (.tup (.str w::.str z::.ref q::r))∧(w=zS "cell"∨w=zS "range")∧H q=some (.tup (corV c))∧H u=some (.tup (corV d))∧
    ((r=[]∧q=u)∨r=[.ref u]):=by
  cases l with
  | cell s c'=>
    obtain ⟨q,h1,h2⟩:=h
    cases s with
    | none=>cases b
    | some z'=>
      cases b
      exact ⟨_,q,q,[],h1,.inl rfl,h2,h2,.inl ⟨rfl,rfl⟩⟩
  | rng s c' d'=>
    obtain ⟨q,u,h1,h2,h3⟩:=h
    cases s with
    | none=>cases b
    | some z'=>
      cases b
      exact ⟨_,q,u,[.ref u],h1,.inr rfl,h2,h3,.inr rfl⟩
  | val v=>cases b
  | cols s i x j y=>cases b
  | gone=>cases b
  | nam z=>cases b
  | par i=>cases b
  | flt=>cases b
def hd0 (m:List (List Vl)):Vl:=(m.headD []).headD .none
theorem TbAt.hd0 {H:Hp}{u:V}{m:List (List Vl)}{w:Nat}(h:TbAt H u m)(rc:Rect m w):∃ b us x0 rt b0 y,u=.ref b∧H b=some (.tup (.ref b0::us))∧H b0=some (.tup (y::rt))∧VvAt H y (hd0 m)∧x0=y:=by
  obtain ⟨rows,⟨b,us,rfl,hb,pr⟩,vt⟩:=h
  obtain ⟨m0,mt,rfl⟩:∃ a t,m=a::t:=by
    cases m with
    | nil=>exact absurd rfl rc.ne
    | cons a t=>exact ⟨a,t,rfl⟩
  cases vt with
  | cons v0 vt'=>
    cases pr with
    | cons p0 pt=>
      obtain ⟨b0,rfl,hb0⟩:=p0
      have w1:=rc.w1
      have l0:=rc.row m0 List.mem_cons_self
      obtain ⟨y0,yt,rfl⟩:=cons_of (l:=m0) (by omega)
      cases v0 with
      | cons y ys=>exact ⟨b,_,_,_,b0,_,rfl,hb,hb0,y,rfl⟩
def spSgl:Sp:=fun vs H Q _=>∃ (v y o:V) (l a:Addr) (x0 x1 x2:V) (r:List V) (m0 m1 m2:List (List Vl)) (w0 w1 w2:Nat) (hm:Hm),vs=[v,.ref l,y,o]∧v=.ref a∧H a=some (.tup (vS "find"::r))∧H l=some (.lst [x0,x1,x2])∧
  TbAt H x0 m0∧TbAt H x1 m1∧TbAt H x2 m2∧Rect m0 w0∧Rect m1 w1∧Rect m2 w2∧w1≤1000∧m1.length≤1000∧HmAt H y hm∧∀ z H',VvAt H' z (fnd (hd0 m0) m1 (hd0 m2) hm)→Same H H'→Q z H'
def lfs (g:Str→Int→Int→Vl):Fm→List (List Vl)
  | .lf l=>lfT g l
  | _=>[]
def semF (g:Str→Int→Int→Vl)(hm:Hm):Fm→List (List Vl)
  | .lf l=>lfT g l
  | .nd _ [a,b,c]=>[[fnd (hd0 (lfs g a)) (lfs g b) (hd0 (lfs g c)) hm]]
  | _=>[]
def okL (dom:Str→Int→Int→Prop)(f:Fm):Prop:=∃ l z c d,f=.lf l∧LfGood dom l z c d
def okF (dom:Str→Int→Int→Prop)(f:Fm):Prop:=okL dom f∨∃ a b c,f=.nd (.wd (zS "find")) [a,b,c]∧okL dom a∧okL dom b∧okL dom c
def spTell {B:Type}(At:Hp→V→B→Prop)(sem:Fm→B)(ok:Fm→Prop)(Dp:Hp→Prop):Sp:=fun vs H Q _=>∃ (v:V) (f:Fm) (l:Addr) (us:List V) (n:Nat),vs=[v,.ref l]∧FmAt H v f∧FO 0 n f∧ok f∧Dp H∧H l=some (.lst us)∧Paired (At H) us ((prtF f).map sem)∧∀ x H',At H' x (sem f)→Same H H'→Q x H'
def spTold {B:Type}(f0:Addr)(At:Hp→V→B→Prop)(sem:Fm→B)(ok:Fm→Prop)(Dp:Hp→Prop):Sp:=fun vs H Q _=>∃ (l:Addr) (f:Fm) (ws:List V) (n:Nat),vs=[.ref l,.ref f0]∧H l=some (.lst ws)∧FmsAt H ws (alF f)∧FO 0 n f∧n≤8∧(∀ g∈alF f,ok g)∧Dp H∧∀ x H',At H' x (sem f)→Same H H'→Q x H'
def spTbp (f:Addr)(Dp:Hp→Prop)(dom:Str→Int→Int→Prop)(g:Str→Int→Int→Vl)(hm:Hm):Sp:=fun vs H Q _=>∃ (v y o:V) (fm:Fm) (l:Addr) (us:List V) (n:Nat),vs=[v,.ref l,y,.ref f,o]∧FmAt H v fm∧FO 0 n fm∧okF dom fm∧Dp H∧H l=some (.lst us)∧Paired (TbAt H) us ((prtF fm).map (semF g hm))∧HmAt H y hm∧∀ x H',TbAt H' x (semF g hm fm)→Same H H'→Q x H'
theorem LfGood.rect {dom:Str→Int→Int→Prop}{g:Str→Int→Int→Vl}{l:Lf}{z:Str}{c d:Cor}(h:LfGood dom l z c d):Rect (lfT g l) (d.c-c.c+1).toNat∧(lfT g l).length≤16∧(d.c-c.c+1).toNat≤8:=by
  have g1:=h.r0;have g2:=h.r1;have g3:=h.r16;have g4:=h.c0;have g5:=h.c1;have g6:=h.c8
  unfold lfT
  rw [h.b]
  exact ⟨blk_rect (by omega) (by omega),by rw [blk_len];omega,by omega⟩
theorem lf_FmAt {H:Hp}{v:V}{l:Lf}(h:FmAt H v (.lf l)):∃ a,v=.ref a∧LfAt H a l:=by
  cases h with | lf h=>exact ⟨_,rfl,h⟩
section
variable {B:Type}(sem:Fm→B)
def stepG (st:List B)(g:Fm):List B:=st.take (st.length-(prtF g).length)++[sem g]
theorem stepG_ok (st:List B)(g:Fm):stepG sem (st++(prtF g).map sem) g=st++[sem g]:=by
  unfold stepG
  rw [List.length_append,List.length_map,Nat.add_sub_cancel,List.take_left]
mutual
theorem fold_FG:∀ (f:Fm) (st:List B),(alF f).foldl (stepG sem) st=st++[sem f]
  | .lf l,st=>by
    rw [alF,List.foldl_cons,List.foldl_nil]
    have:=stepG_ok sem st (.lf l)
    rw [show prtF (.lf l)=[] from rfl,List.map_nil,List.append_nil] at this
    exact this
  | .nd k ps,st=>by
    rw [alF,List.foldl_append,fold_LG ps st,List.foldl_cons,List.foldl_nil]
    exact stepG_ok sem st (.nd k ps)
theorem fold_LG:∀ (fs:List Fm) (st:List B),(alL fs).foldl (stepG sem) st=st++fs.map sem
  | [],st=>by rw [alL,List.map_nil,List.append_nil];rfl
  | f::fs,st=>by rw [alL,List.foldl_append,fold_FG f st,fold_LG fs,List.map_cons,List.append_assoc];rfl
end
mutual
theorem pre_FG:∀ (f:Fm) (st:List B) (i:Nat) (g:Fm),(alF f)[i]?=some g→∃ st',((alF f).take i).foldl (stepG sem) st=st'++(prtF g).map sem
  | .lf l,st,i,g,h=>by
    rw [alF] at h ⊢
    have hi:i<1:=(List.getElem?_eq_some_iff.mp h).1
    have h0:i=0:=by omega
    subst h0
    cases h
    exact ⟨st,by rw [show prtF (.lf l)=[] from rfl,List.map_nil,List.append_nil];rfl⟩
  | .nd k ps,st,i,g,h=>by
    rw [alF] at h ⊢
    by_cases c:i<(alL ps).length
    · rw [List.getElem?_append_left c] at h
      obtain ⟨st',e⟩:=pre_LG ps st i g h
      exact ⟨st',by rw [List.take_append_of_le_length (by omega)];exact e⟩
    · have hi:i<(alL ps++[Fm.nd k ps]).length:=(List.getElem?_eq_some_iff.mp h).1
      rw [List.length_append,List.length_singleton] at hi
      have e:i=(alL ps).length:=by omega
      subst e
      rw [List.getElem?_append_right (Nat.le_refl _),Nat.sub_self] at h
      cases h
      exact ⟨st,by rw [List.take_left,fold_LG];rfl⟩
theorem pre_LG:∀ (fs:List Fm) (st:List B) (i:Nat) (g:Fm),(alL fs)[i]?=some g→∃ st',((alL fs).take i).foldl (stepG sem) st=st'++(prtF g).map sem
  | [],st,i,g,h=>by rw [alL] at h;simp at h
  | f::fs,st,i,g,h=>by
    rw [alL] at h ⊢
    by_cases c:i<(alF f).length
    · rw [List.getElem?_append_left c] at h
      obtain ⟨st',e⟩:=pre_FG f st i g h
      exact ⟨st',by rw [List.take_append_of_le_length (by omega)];exact e⟩
    · rw [List.getElem?_append_right (by omega)] at h
      obtain ⟨st',e⟩:=pre_LG fs (st++[sem f]) _ g h
      refine ⟨st',?_⟩
      rw [List.take_append,List.take_of_length_le (by omega),List.foldl_append,fold_FG]
      exact e
end
theorem foldG_len (fs:List Fm)(st:List B):(fs.foldl (stepG sem) st).length≤st.length+fs.length:=by
  induction fs generalizing st with
  | nil=>exact Nat.le_refl _
  | cons f fs ih=>
    rw [List.foldl_cons,List.length_cons]
    have:=ih (stepG sem st f)
    have h2:(stepG sem st f).length≤st.length+1:=by unfold stepG;rw [List.length_append,List.length_take,List.length_singleton];omega
    omega
end
def qR:Str:=Str.ofString "reckoned"++Str.ofString ".<locals>."++Str.ofString "<lambda>"
def spRck (Pr f:Addr)(Dp:Hp→Prop)(dom:Str→Int→Int→Prop)(g:Str→Int→Int→Vl):Sp:=fun vs H Q _=>∃ (v y o:V) (fm:Fm) (n:Nat) (hm:Hm),vs=[v,y,.ref f,o]∧FmAt H v fm∧FO 0 n fm∧n≤8∧(∀ x∈alF fm,okF dom x)∧Dp H∧HmAt H y hm∧TabAt H Pr qR∧
  ∀ x H',TbAt H' x (semF g hm fm)→KeepX Pr H H'→TabAt H' Pr qR→Q x H'
theorem SqL.kl {K:PySem.W.Frag}{H H':Hp}{a p b:Addr}{ns:List Int}{r:List V}(h:SqL K H a (ns.map V.int))(hp:H p=some (.lst (.ref b::r)))(s:KeepX p H H'):SqL K H' a (ns.map V.int):=by
  rcases h with (h | ⟨o,h⟩) | h
  · exact .inl (.inl (s _ _ (ne_of h hp (by intro z;injection z with z;cases ns <;> simp at z)) h))
  · exact .inl (.inr ⟨o,s _ _ (ne_of h hp (by intro z;cases z)) h⟩)
  · exact .inr h
def PenM (K:PySem.W.Frag)(S:Addr×List Int)(H:Hp)(p:Addr)(k:Nat):Prop:=∃ (b:Bool) (c r:Int),H p=some (.lst [.ref S.1,.bl b,.int c,.int r])∧SqL K H S.1 (S.2.map V.int)∧0≤c∧c≤k∧S.2.length≤63
section
variable {K:PySem.W.Frag}{S:Addr×List Int}{H H':Hp}{p D:Addr}{k n:Nat}
theorem PenM.same (h:PenM K S H p k)(s:Same H H'):PenM K S H' p k:=let ⟨b,c,r,e,q,z⟩:=h;⟨b,c,r,s _ _ e,s.seq q,z⟩
theorem PenM.smd (h:PenM K S H p k)(s:SmD H H'):PenM K S H' p k:=let ⟨b,c,r,e,q,z⟩:=h;⟨b,c,r,s _ _ e rfl,s.seq q,z⟩
theorem PenM.mono (h:PenM K S H p k)(s:k≤n):PenM K S H p n:=let ⟨b,c,r,e,q,y,v,w⟩:=h;⟨b,c,r,e,q,y,by omega,w⟩
theorem PenM.ob (h:PenM K S H p k):∃ vs,H p=some (.lst vs):=let ⟨_,_,_,e,_⟩:=h;⟨_,e⟩
theorem PenM.ne (h:PenM K S H p k)(hD:H D=none):D≠p:=fun z=>by
  obtain ⟨vs,e⟩:=h.ob
  rw [← z,hD] at e;cases e
theorem PenM.kp (h:PenM K S H p k)(s:KeepX p H H'):Kp H H':=let ⟨_,e⟩:=h.ob;Kp.lst e s
theorem PenM.put {o:HO}(h0:PenM K S H p k)(hD:H D=none)(h:PenM K S H' p n):PenM K S (upd H' D o) p n:=by
  have ne:=h0.ne hD
  obtain ⟨_,_,_,_,q0,_⟩:=h0
  obtain ⟨b,c,r,e,q,z⟩:=h
  refine ⟨b,c,r,by rw [upd_ne (Ne.symm ne)];exact e,?_,z⟩
  rcases q0 with (q0 | ⟨o0,q0⟩) | q0
  · have na:=ne_of_none q0 hD
    rcases q with (q | ⟨o1,q⟩) | q
    · exact .inl (.inl (by rw [upd_ne na];exact q))
    · exact .inl (.inr ⟨o1,by rw [upd_ne na];exact q⟩)
    · exact .inr q
  · have na:=ne_of_none q0 hD
    rcases q with (q | ⟨o1,q⟩) | q
    · exact .inl (.inl (by rw [upd_ne na];exact q))
    · exact .inl (.inr ⟨o1,by rw [upd_ne na];exact q⟩)
    · exact .inr q
  · exact .inr q0
end
def spCat (K:PySem.W.Frag):Sp:=fun vs H Q _=>∃ (a:Addr) (ns:List Int) (k:Int),vs=[.ref a,.int k]∧SqL K H a (ns.map V.int)∧0≤k∧∀ v:Int,Q (.int v) H
def spPeM (K:PySem.W.Frag):Sp:=fun vs H Q _=>∃ (a:Addr) (ns:List Int),vs=[.ref a]∧SqL K H a (ns.map V.int)∧ns.length≤63∧∀ (p:Addr) (H':Hp),H p=none→PenM K (a,ns) H' p 0→Same H H'→Q (.ref p) H'
def spTkM (K:PySem.W.Frag):Sp:=fun vs H Q _=>∃ (p:Addr) (m:Int) (k:Nat) (S:Addr×List Int),vs=[.ref p,.int m]∧0<m∧Sz 4000 m∧PenM K S H p k∧k≤10000000∧∀ (r:Int) (H':Hp),0≤r→r<m→PenM K S H' p (k+1)→KeepX p H H'→Q (.int r) H'
def spLoV:Sp:=fun vs H Q _=>∃ t b:Int,vs=[.int t,.int b]∧1≤b∧Sz 4000 b∧∀ q,H q=none→Q (.ref q) (upd H q (.tup [vS "number",.int (lowT t b),.int (lowB t b)]))
def spDcl (K:PySem.W.Frag):Sp:=fun vs H Q _=>∃ (p:Addr) (k:Nat) (S:Addr×List Int),vs=[.ref p]∧PenM K S H p k∧k≤9000000∧∀ (q:Addr) (h:Hm) (H':Hp),H' q=some (.tup [.str h.z,.int h.r,.int h.c])→Nm h.z→1≤h.r→h.r≤16→1≤h.c→h.c≤8→PenM K S H' p (k+3)→KeepX p H H'→Q (.ref q) H'
def spDvl (K:PySem.W.Frag):Sp:=fun vs H Q _=>∃ (p:Addr) (k:Nat) (S:Addr×List Int),vs=[.ref p]∧PenM K S H p k∧k≤8000000∧∀ (u:V) (v:Vl) (H':Hp),VvAt H' u v→VlOk v→PenM K S H' p (k+8)→KeepX p H H'→Q u H'
theorem at2 {x y:V}{r:Int}(h0:0≤r)(h1:r<2):∃ v,atI [x,y] r=some v∧(v=x∨v=y):=by
  have:r=0∨r=1:=by omega
  rcases this with rfl | rfl
  · exact ⟨_,rfl,.inl rfl⟩
  · exact ⟨_,rfl,.inr rfl⟩
theorem atR {xs:List V}{r:Int}(h0:0≤r)(h1:r<(xs.length:Int)):∃ v,atI xs r=some v∧v∈xs:=by
  obtain ⟨j,rfl⟩:∃ j:Nat,r=(j:Int):=⟨r.toNat,by omega⟩
  have hj:j<xs.length:=by omega
  exact ⟨xs[j],atI_nat (List.getElem?_eq_getElem hj),List.getElem_mem hj⟩
theorem kpl {K:PySem.W.Frag}{S:Addr×List Int}{H H':Hp}{p l:Addr}{k:Nat}{o:HO}(h:PenM K S H p k)(hl:H l=none)(s:KeepX p (upd H l o) H'):H' l=some o∧KeepX p H H':=
  ⟨s _ _ (h.ne hl) upd_same,(Same.keep (Same.new hl)).trans s⟩
theorem nm_b:Nm (Str.ofString "b"):=nm_lit (by decide +kernel)
theorem nm_main:Nm (Str.ofString "main"):=nm_lit (by decide +kernel)
theorem low_vl {t b:Int}(hb:1≤b)(h1:t.natAbs<10 ^ 30)(h2:b.natAbs<10 ^ 30):VlOk (.num (lowT t b) (lowB t b)):=
  ⟨low_low (by omega),Nat.lt_of_le_of_lt (low_size_t t b (by omega)) h1,Nat.lt_of_le_of_lt (low_size_b t b (by omega)) h2⟩
theorem vNum {H:Hp}{q:Addr}{x y:Int}:VvAt (upd H q (.tup [vS "number",.int x,.int y])) (.ref q) (.num x y):=⟨q,rfl,upd_same⟩
theorem one_vl {t:Int}(h1:t.natAbs<10 ^ 30):VlOk (.num t 1):=⟨low_one,h1,by decide⟩
theorem p28:(10:Int) ^ (28:Int).toNat=10000000000000000000000000000:=by decide +kernel
theorem p9:(10:Int) ^ (9:Int).toNat=1000000000:=by decide +kernel
theorem p30:(10:Int) ^ (30:Int).toNat=1000000000000000000000000000000:=by decide +kernel
theorem n30:(10:Nat) ^ 30=1000000000000000000000000000000:=by decide +kernel
theorem sz30 {x:Int}(h0:-1000000000000000000000000000000≤x)(h1:x≤1000000000000000000000000000000):Sz 4000 x:=by
  refine Sz.mono (m:=100) ?_ (by decide)
  unfold Sz
  have:(2:Nat) ^ 100=1267650600228229401496703205376:=by decide +kernel
  omega
def spGvl (K:PySem.W.Frag):Sp:=fun vs H Q _=>∃ (p:Addr) (k:Nat) (S:Addr×List Int),vs=[.ref p]∧PenM K S H p k∧k≤8500000∧∀ (u:V) (v:Vl) (H':Hp),VvAt H' u v→VlOk v→PenM K S H' p (k+4)→KeepX p H H'→Q u H'
def drawnTx:List V:=[vS "",vS "a",vS "ab",vS "b c",vS "12",vS "0",vS "abcdefghij klmnopqrs",vS "z"]
theorem drawnTx_ok:∀ v∈drawnTx,∃ z,v=.str z∧VlOk (.txt z):=by
  have h:∀ z∈["","a","ab","b c","12","0","abcdefghij klmnopqrs","z"].map Str.ofString,z.length≤20∧∀ c∈z.cps.toList,c∈(Str.ofString "abcdefghijklmnopqrstuvwxyz0123456789 ").cps.toList:=by decide +kernel
  intro v hv
  have e:drawnTx=(["","a","ab","b c","12","0","abcdefghij klmnopqrs","z"].map Str.ofString).map V.str:=rfl
  rw [e] at hv
  obtain ⟨z,hz,rfl⟩:=List.mem_map.mp hv
  exact ⟨z,rfl,h z hz⟩
theorem faults_mem {v:V}(h:v∈faults.map V.str):∃ w,v=.str w∧w∈faults:=by
  obtain ⟨z,hz,rfl⟩:=List.mem_map.mp h
  exact ⟨z,rfl,hz⟩
abbrev LsAt (H:Hp)(bs:List Addr)(rows:List (List V)):Prop:=Paired (fun b row=>H b=some (HO.lst row)) bs rows
def Oks (m:List (List Vl))(w:Nat):Prop:=∀ r∈m,r.length=w∧∀ v∈r,VlOk v
structure LTab (H:Hp)(p l:Addr)(bs:List Addr)(rows:List (List V))(m:List (List Vl)):Prop where
  ob:H l=some (.lst (bs.map V.ref))
  nd:bs.Nodup
  np:p∉bs
  nl:l∉bs
  lp:l≠p
  ls:LsAt H bs rows
  vt:VtAt H rows m
theorem pmem {α β:Type}{F G:α→β→Prop}:∀ {xs:List α} {ys:List β},Paired F xs ys→(∀ x y,x∈xs→F x y→G x y)→Paired G xs ys
  | _,_,.nil,_=>.nil
  | _,_,.cons r t,h=>.cons (h _ _ List.mem_cons_self r) (pmem t fun x y hx=>h x y (List.mem_cons_of_mem _ hx))
theorem LTab.kx {H H':Hp}{p l:Addr}{bs:List Addr}{rows:List (List V)}{m:List (List Vl)}(h:LTab H p l bs rows m)(s:KeepX p H H')(kp:Kp H H'):LTab H' p l bs rows m:=
  ⟨s _ _ h.lp h.ob,h.nd,h.np,h.nl,h.lp,pmem h.ls fun b row hb e=>s _ _ (fun z=>h.np (z▸hb)) e,VtAt.kp h.vt kp⟩
theorem LTab.smd {H H':Hp}{p l:Addr}{bs:List Addr}{rows:List (List V)}{m:List (List Vl)}(h:LTab H p l bs rows m)(s:SmD H H'):LTab H' p l bs rows m:=
  ⟨s _ _ h.ob rfl,h.nd,h.np,h.nl,h.lp,pmem h.ls fun b row _ e=>s _ _ e rfl,VtAt.kp h.vt s.kp⟩
def spDtb (K:PySem.W.Frag):Sp:=fun vs H Q _=>∃ (p:Addr) (h w:Nat) (k:Nat) (S:Addr×List Int),vs=[.ref p,.int h,.int w]∧1≤h∧h≤16∧1≤w∧w≤8∧PenM K S H p k∧k≤5000000∧∀ (l:Addr) (bs:List Addr) (rows:List (List V)) (m:List (List Vl)) (H':Hp),H l=none→(∀ b∈bs,H b=none)→LTab H' p l bs rows m→m.length=h→Oks m w→PenM K S H' p (k+1200)→KeepX p H H'→Q (.ref l) H'
theorem KeepX.fresh {p D:Addr}{H H':Hp}(s:KeepX p H H')(hp:D≠p)(h:H' D=none):H D=none:=by
  cases e:H D with
  | none=>rfl
  | some o=>rw [s _ _ hp e] at h;cases h
theorem kp_upd {H:Hp}{D:Addr}{us vs:List V}(h:H D=some (.lst us)):Kp H (upd H D (.lst vs)):=Kp.lst h KeepX.upd
abbrev cK (z:Str)(r c:Int):List Key:=[.inr z,.inl r,.inl c]
theorem cK_inj {z:Str}{r c r' c':Int}(h:cK z r c=cK z r' c'):r=r'∧c=c':=by
  injection h with _ h;injection h with h1 h2;injection h2 with h2 _
  injection h1 with h1;injection h2 with h2
  exact ⟨h1,h2⟩
def Laid (kvs:List (List Key×V))(z:Str)(hi wi:Int)(rows:List (List V))(i j:Nat):Prop:=
  ∀ (a b:Nat) (row:List V) (v:V),rows[a]?=some row→row[b]?=some v→(a<i∨(a=i∧b<j))→valV kvs (cK z (hi+a+1) (wi+b+1))=some v
def Else (kvs kvs':List (List Key×V))(z:Str):Prop:=∀ key:List Key,key.head?≠some (.inr z)→valV kvs' key=valV kvs key
def spLai (K:PySem.W.Frag):Sp:=fun vs H Q _=>∃ (kn l:Addr) (z:Str) (hi wi:Int) (kvs:List (List Key×V)) (bs:List Addr) (rows:List (List V)) (h w:Nat),vs=[.ref kn,.str z,.ref l,.int hi,.int wi]∧H kn=some (.dT kvs)∧kvs.length≤800∧H l=some (.lst (bs.map V.ref))∧LsAt H bs rows∧rows.length=h∧1≤h∧h≤16∧1≤w∧w≤8∧(∀ r∈rows,r.length=w)∧
  ∀ (a:Addr) (lf:Lf) (c d:Cor) (kvs':List (List Key×V)) (H':Hp),H' kn=some (.dT kvs')→kvs'.length≤kvs.length+h*w→Laid kvs' z hi wi rows h 0→Else kvs kvs' z→LfAt H' a lf→lfB lf=some (z,c,d)→c.r=hi+1→c.c=wi+1→d.r=hi+h→d.c=wi+w→KeepX kn H H'→Q (.ref a) H'
theorem Laid.next {kvs:List (List Key×V)}{z:Str}{hi wi:Int}{rows:List (List V)}{i j:Nat}{row:List V}{v:V}(h:Laid kvs z hi wi rows i j)(hr:rows[i]?=some row)(hv:row[j]?=some v):
    Laid (putK kvs (cK z (hi+i+1) (wi+j+1)) v) z hi wi rows i (j+1):=by
  intro a b row' v' h1 h2 h3
  rw [valV_put]
  by_cases e:cK z (hi+a+1) (wi+b+1)=cK z (hi+i+1) (wi+j+1)
  · rw [if_pos e]
    obtain ⟨e1,e2⟩:=cK_inj e
    have ea:a=i:=by omega
    have eb:b=j:=by omega
    subst ea eb
    rw [hr] at h1;cases h1
    rw [hv] at h2;exact h2
  · rw [if_neg e]
    refine h a b row' v' h1 h2 ?_
    rcases h3 with h3 | ⟨rfl,h3⟩
    · exact .inl h3
    · rcases Nat.lt_succ_iff_lt_or_eq.mp h3 with q | q
      · exact .inr ⟨rfl,q⟩
      · subst q;exact absurd rfl e
theorem Laid.row {kvs:List (List Key×V)}{z:Str}{hi wi:Int}{rows:List (List V)}{i j:Nat}{row:List V}(h:Laid kvs z hi wi rows i j)(hr:rows[i]?=some row)(hj:row.length≤j):Laid kvs z hi wi rows (i+1) 0:=by
  intro a b row' v' h1 h2 h3
  refine h a b row' v' h1 h2 ?_
  rcases h3 with h3 | ⟨_,h3⟩
  · rcases Nat.lt_succ_iff_lt_or_eq.mp h3 with q | q
    · exact .inl q
    · subst q
      rw [hr] at h1;cases h1
      have:=(List.getElem?_eq_some_iff.mp h2).1
      exact .inr ⟨rfl,by omega⟩
  · omega
theorem Else.put {kvs kvs':List (List Key×V)}{z:Str}{r c:Int}{v:V}(h:Else kvs kvs' z):Else kvs (putK kvs' (cK z r c) v) z:=fun key hk=>by
  rw [valV_put,if_neg (fun e=>hk (by rw [e];rfl))]
  exact h key hk
def spPut (K:PySem.W.Frag):Sp:=fun vs H Q _=>∃ (p kn l:Addr) (z:Str) (kvs:List (List Key×V)) (bs:List Addr) (rows:List (List V)) (h w n:Nat) (S:Addr×List Int),vs=[.ref p,.ref kn,.str z,.ref l]∧PenM K S H p n∧n≤9000000∧H kn=some (.dT kvs)∧kvs.length≤800∧H l=some (.lst (bs.map V.ref))∧l≠p∧p∉bs∧LsAt H bs rows∧rows.length=h∧1≤h∧h≤16∧1≤w∧w≤8∧(∀ r∈rows,r.length=w)∧
  ∀ (a:Addr) (lf:Lf) (c d:Cor) (hi wi:Int) (kvs':List (List Key×V)) (H':Hp),H' kn=some (.dT kvs')→kvs'.length≤kvs.length+h*w→Laid kvs' z hi wi rows h 0→Else kvs kvs' z→LfAt H' a lf→lfB lf=some (z,c,d)→c.r=hi+1→c.c=wi+1→d.r=hi+h→d.c=wi+w→0≤hi→hi+h≤16→0≤wi→wi+w≤8→
    PenM K S H' p (n+2)→(∀ b o,b≠p→b≠kn→H b=some o→H' b=some o)→Q (.ref a) H'
theorem PenM.kx {K:PySem.W.Frag}{S:Addr×List Int}{H H':Hp}{p kn:Addr}{k:Nat}{kvs:List (List Key×V)}(h:PenM K S H p k)(hk:H kn=some (.dT kvs))(s:KeepX kn H H'):PenM K S H' p k:=by
  obtain ⟨b,c,r,e,q,z⟩:=h
  refine ⟨b,c,r,s _ _ (ne_of e hk (by intro z;cases z)) e,?_,z⟩
  rcases q with (q | ⟨o,q⟩) | q
  · exact .inl (.inl (s _ _ (ne_of q hk (by intro z;cases z)) q))
  · exact .inl (.inr ⟨o,s _ _ (ne_of q hk (by intro z;cases z)) q⟩)
  · exact .inr q
def spTbd:Sp:=fun vs H Q _=>∃ (l:Addr) (bs:List Addr) (rows:List (List V)),vs=[.ref l]∧H l=some (.lst (bs.map V.ref))∧LsAt H bs rows∧rows.length≤100∧∀ x H',RowsAt H' x rows→Same H H'→Q x H'
inductive Tr where
  | bl (b:Bool) | int (i:Int) | str (z:Str) | tup (ts:List Tr)
inductive TrAt (H:Hp):V→Tr→Nat→Prop where
  | bl (b:Bool) (n:Nat):TrAt H (.bl b) (.bl b) n
  | int (i:Int) (n:Nat):TrAt H (.int i) (.int i) n
  | str (z:Str) (n:Nat):TrAt H (.str z) (.str z) n
  | tup {a:Addr} {us:List V} {ts:List Tr} {n:Nat} (e:H a=some (.tup us)) (hl:us.length≤100) (hn:us.length=ts.length) (hh:∀ (j:Nat) (u:V) (t:Tr),us[j]?=some u→ts[j]?=some t→TrAt H u t n):TrAt H (.ref a) (.tup ts) (n+1)
theorem TrAt.kp {H H':Hp}{v:V}{t:Tr}{n:Nat}(h:TrAt H v t n)(s:Kp H H'):TrAt H' v t n:=by
  induction h with
  | bl b n=>exact .bl b n
  | int i n=>exact .int i n
  | str z n=>exact .str z n
  | tup e hl hn _ ih=>exact .tup (s _ _ e) hl hn ih
theorem TrAt.ofP {H:Hp}{a:Addr}{us:List V}{ts:List Tr}{n:Nat}(e:H a=some (.tup us))(hl:us.length≤100)(p:Paired (fun u t=>TrAt H u t n) us ts):TrAt H (.ref a) (.tup ts) (n+1):=by
  refine .tup e hl (Paired.length p) fun j u t h1 h2=>?_
  obtain ⟨t',h3,h4⟩:=paired_at p h1
  rw [h2] at h3
  rw [Option.some.inj h3]
  exact h4
def trV:Vl→Tr
  | .none=>.tup [.str (Str.ofString "none")]
  | .num t b=>.tup [.str (Str.ofString "number"),.int t,.int b]
  | .txt z=>.tup [.str (Str.ofString "text"),.str z]
  | .tru b=>.tup [.str (Str.ofString "truth"),.bl b]
  | .flt w z r c=>.tup [.str (Str.ofString "fault"),.str w,.tup [.str z,.int r,.int c]]
theorem VvAt.tr {H:Hp}{u:V}{v:Vl}(h:VvAt H u v):TrAt H u (trV v) 2:=by
  obtain ⟨q,rfl,h⟩:=h
  cases v with
  | none=>exact .ofP h (by simp) (.cons (.str _ _) .nil)
  | num t b=>exact .ofP h (by simp) (.cons (.str _ _) (.cons (.int _ _) (.cons (.int _ _) .nil)))
  | txt z=>exact .ofP h (by simp) (.cons (.str _ _) (.cons (.str _ _) .nil))
  | tru b=>exact .ofP h (by simp) (.cons (.str _ _) (.cons (.bl _ _) .nil))
  | flt w z r c=>
    obtain ⟨p,h1,h2⟩:=h
    exact .ofP h1 (by simp) (.cons (.str _ _) (.cons (.str _ _) (.cons (.ofP (n:=0) h2 (by simp) (.cons (.str _ _) (.cons (.int _ _) (.cons (.int _ _) .nil)))) .nil)))
def spTya (n:Nat):Sp:=fun vs H Q _=>∃ (u v:V) (tr:Tr),vs=[u,v]∧TrAt H u tr n∧TrAt H v tr n∧∀ H',Same H H'→Q (.bl true) H'
theorem all_true (n:Nat):(List.replicate n true).all id=true:=by simp
def few (i:Int):Bool:=decide ((if i<0 then -i else i)≤999999999999999999999999999999)
def numV (t b:Int)(h:Hm):Vl:=if (few t&&few b)=true then .num t b else fltK "great" h
def numIn:Vl→Option (Int×Int)
  | .none=>some (0,1)
  | .num t b=>some (t,b)
  | _=>none
def NinAt (H:Hp)(x:V):Option (Int×Int)→Prop
  | some n=>∃ p,x=.ref p∧H p=some (.tup [.int n.1,.int n.2])
  | none=>x=.non
def spFewB:Sp:=fun vs H Q _=>∃ i:Int,vs=[.int i]∧Q (.bl (few i)) H
def spShB:Sp:=fun vs H Q _=>∃ t b:Int,vs=[.int t,.int b]∧Low t b∧Q (.bl (few t&&few b)) H
def ValK (K:PySem.W.Frag)(H:Hp)(u:V)(v:Vl):Prop:=VvAt H u v∨(v=.num 0 1∧∃ q,u=.ref q∧∀ H',SqT K H' q [vS "number",.int 0,.int 1])
def spNin (K:PySem.W.Frag):Sp:=fun vs H Q _=>∃ (u:V) (v:Vl),vs=[u]∧ValK K H u v∧∀ x H',NinAt H' x (numIn v)→Same H H'→Q x H'
def spNvl:Sp:=fun vs H Q _=>∃ (p:Addr) (t b:Int) (y:V) (hm:Hm),vs=[.ref p,y]∧H p=some (.tup [.int t,.int b])∧Low t b∧HmAt H y hm∧∀ x H',VvAt H' x (numV t b hm)→Same H H'→Q x H'
theorem numIn_low {v:Vl}{n:Int×Int}(ok:VlOk v)(h:numIn v=some n):Low n.1 n.2∧n.1.natAbs<10 ^ 30∧n.2.natAbs<10 ^ 30:=by
  cases v with
  | none=>cases h;exact ⟨low_one,by decide,by decide⟩
  | num t b=>cases h;exact ok
  | txt z=>cases h
  | tru b=>cases h
  | flt w z r c=>cases h
def opN (s:Str)(a b:Int×Int)(h:Hm):Vl:=
  if s=Str.ofString "+" then numV (lowT (a.1*b.2+b.1*a.2) (a.2*b.2)) (lowB (a.1*b.2+b.1*a.2) (a.2*b.2)) h
  else if s=Str.ofString "-" then numV (lowT (a.1*b.2-b.1*a.2) (a.2*b.2)) (lowB (a.1*b.2-b.1*a.2) (a.2*b.2)) h
  else if s=Str.ofString "*" then numV (lowT (a.1*b.1) (a.2*b.2)) (lowB (a.1*b.1) (a.2*b.2)) h
  else if s=Str.ofString "/" then (if b.1=0 then fltK "nought" h else numV (lowT (a.1*b.2) (a.2*b.1)) (lowB (a.1*b.2) (a.2*b.1)) h)
  else .tru (decide (a.1*b.2<b.1*a.2))
def spRnm:Sp:=fun vs H Q _=>∃ (s:Str) (p q:Addr) (a b:Int×Int) (y:V) (hm:Hm),vs=[.str s,.ref p,.ref q,y]∧NumAt H p a.1 a.2 100∧NumAt H q b.1 b.2 100∧HmAt H y hm∧∀ x H',VvAt H' x (opN s a b hm)→Same H H'→Q x H'
theorem sz30n {x:Int}(h:x.natAbs<10 ^ 30):Sz 100 x:=by
  unfold Sz
  have:(10:Nat) ^ 30≤2 ^ 100:=by decide +kernel
  omega
def sgn:Vl→Str
  | .txt z=>z
  | v=>vtext v
def SGL:Str:=Str.ofString "abcdefghijklmnopqrstuvwxyz0123456789 "
def txOk (z:Str):Bool:=!decide ((20:Int)<(z.length:Int))&&(z.cps.toList.map fun c=>decide (c∈SGL.cps.toList)).all id
def spIsTB:Sp:=fun vs H Q _=>∃ z:Str,vs=[.str z]∧z.length≤1000∧∀ H',Same H H'→Q (.bl (txOk z)) H'
def spSgn:Sp:=fun vs H Q _=>∃ (u:V) (v:Vl),vs=[u]∧VvAt H u v∧VlOk v∧∀ H',Same H H'→Q (.str (sgn v)) H'
def joinV (a b:Vl)(h:Hm):Vl:=if txOk (sgn a++sgn b)=true then .txt (sgn a++sgn b) else fltK "kind" h
def spJoi:Sp:=fun vs H Q _=>∃ (u v y:V) (a b:Vl) (hm:Hm),vs=[u,v,y]∧VvAt H u a∧VvAt H v b∧VlOk a∧VlOk b∧HmAt H y hm∧∀ x H',VvAt H' x (joinV a b hm)→Same H H'→Q x H'
def txLt (s:Str)(a b:Vl):Option Bool:=if s=Str.ofString "<" then (match a,b with | .txt x,.txt y=>some (decide (x.cps.toList<y.cps.toList)) | _,_=>none) else none
def numOp (s:Str)(a b:Vl)(h:Hm):Vl:=match numIn a,numIn b with
  | some m,some n=>opN s m n h
  | _,_=>fltK "kind" h
def numTx (o:Option Bool)(v:Vl):Vl:=match o with
  | some t=>.tru t
  | none=>v
def opM (s:Str)(a b:Vl)(h:Hm):Vl:=
  if isF a=true then a else if isF b=true then b
  else if s=Str.ofString "=" then .tru (eqVl a b)
  else if s=Str.ofString "&" then joinV a b h
  else numTx (txLt s a b) (numOp s a b h)
theorem num_at {H:Hp}{p:Addr}{v:Vl}{n:Int×Int}(ok:VlOk v)(e:numIn v=some n)(h:H p=some (.tup [.int n.1,.int n.2])):NumAt H p n.1 n.2 100:=by
  obtain ⟨l,h1,h2⟩:=numIn_low ok e
  exact ⟨h,l,sz30n h1,sz30n h2⟩
def SgIn (K:PySem.W.Frag)(s:Str)(hm:Hm)(H:Hp)(u v:V)(r:Vl):Prop:=(∃ a b,VvAt H u a∧VvAt H v b∧VlOk a∧VlOk b∧r=opM s a b hm)∨
  (s=Str.ofString "-"∧(∃ q,u=.ref q∧∀ H',SqT K H' q [vS "number",.int 0,.int 1])∧∃ b,VvAt H v b∧VlOk b∧r=opM s (.num 0 1) b hm)
theorem SgIn.kp {K:PySem.W.Frag}{s:Str}{hm:Hm}{H H':Hp}{u v:V}{r:Vl}(h:SgIn K s hm H u v r)(k:Kp H H'):SgIn K s hm H' u v r:=by
  rcases h with ⟨a,b,x,y,z⟩ | ⟨e,c,b,y,z⟩
  · exact .inl ⟨a,b,x.kp k,y.kp k,z⟩
  · exact .inr ⟨e,c,b,y.kp k,z⟩
def spSg2 (K:PySem.W.Frag):Sp:=fun vs H Q _=>∃ (s:Str) (u v y:V) (r:Vl) (hm:Hm),vs=[.str s,u,v,y]∧SgIn K s hm H u v r∧HmAt H y hm∧∀ x H',VvAt H' x r→Same H H'→Q x H'
def spSig:Sp:=fun vs H Q _=>∃ (s:Str) (u v y:V) (a b:Vl) (hm:Hm),vs=[.str s,u,v,y]∧VvAt H u a∧VvAt H v b∧VlOk a∧VlOk b∧HmAt H y hm∧∀ x H',VvAt H' x (opM s a b hm)→Same H H'→Q x H'
abbrev Sh:=Option (Int×Int)
abbrev prV (p:Int×Int):List V:=[.int p.1,.int p.2]
def ShAt (K:PySem.W.Frag)(H:Hp)(v:V):Sh→Prop
  | none=>v=.non
  | some p=>∃ a,v=.ref a∧SqT K H a (prV p)
abbrev ShsAt (K:PySem.W.Frag)(H:Hp)(vs:List V)(ss:List Sh):Prop:=Paired (ShAt K H) vs ss
theorem ShAt.same {K:PySem.W.Frag}{H H':Hp}{v:V}{s:Sh}(h:ShAt K H v s)(q:Same H H'):ShAt K H' v s:=by
  cases s with
  | none=>exact h
  | some p=>obtain ⟨a,e,h⟩:=h;exact ⟨a,e,SqT.sm h q⟩
theorem ShsAt.same {K:PySem.W.Frag}{H H':Hp}{vs:List V}{ss:List Sh}(h:ShsAt K H vs ss)(q:Same H H'):ShsAt K H' vs ss:=Paired.imp' (fun _ _ x=>ShAt.same x q) h
def fit (a b:Int×Int):Sh:=if a=b then some a else if b=(1,1) then some a else if a=(1,1) then some b else none
def spFit (K:PySem.W.Frag):Sp:=fun vs H Q _=>∃ (u v:V) (a b:Int×Int),vs=[u,v]∧ShAt K H u (some a)∧ShAt K H v (some b)∧∀ r H',ShAt K H' r (fit a b)→Same H H'→Q r H'
def hdV (m:List (List V)):V:=(m.headD []).headD .non
def fillM {α:Type}(h w:Nat)(v:α):List (List α):=List.replicate h (List.replicate w v)
def spTsh:Sp:=fun vs H Q _=>∃ (x:V) (m:List (List V)) (w:Nat),vs=[x]∧RowsAt H x m∧Rect m w∧∀ r,H r=none→Q (.ref r) (upd H r (.tup [.int m.length,.int w]))
def spFil (K:PySem.W.Frag):Sp:=fun vs H Q _=>∃ (p u:V) (h w:Nat),vs=[p,u]∧ShAt K H p (some (h,w))∧1≤h∧h≤1000∧1≤w∧w≤1000∧∀ x H',RowsAt H' x (fillM h w u)→Same H H'→Q x H'
def sprd (m:List (List V))(w h2 w2:Nat):List (List V):=if (m.length,w)=(1,1) then fillM h2 w2 (hdV m) else m
def spSpr (K:PySem.W.Frag):Sp:=fun vs H Q _=>∃ (x p:V) (m:List (List V)) (w h2 w2:Nat),vs=[x,p]∧RowsAt H x m∧Rect m w∧ShAt K H p (some (h2,w2))∧1≤h2∧h2≤1000∧1≤w2∧w2≤1000∧∀ y H',RowsAt H' y (sprd m w h2 w2)→Same H H'→Q y H'
def spVin:Sp:=fun vs H Q _=>∃ (x:V) (m:List (List V)) (w:Nat),vs=[x]∧RowsAt H x m∧Rect m w∧w≤30∧m.length≤30∧∀ l H',H l=none→H' l=some (.lst m.flatten)→Same H H'→Q (.ref l) H'
theorem flat_len {α:Type}{m:List (List α)}{w:Nat}(h:∀ r∈m,r.length=w):m.flatten.length=m.length*w:=by
  induction m with
  | nil=>simp
  | cons r m ih=>
    rw [List.flatten_cons,List.length_append,ih fun x hx=>h x (List.mem_cons_of_mem _ hx),h r List.mem_cons_self,List.length_cons,Nat.succ_mul]
    omega
theorem bt_zip:bootBuiltins "zip"=some (.type "zip"):=by decide +kernel
def spSgt (K:PySem.W.Frag):Sp:=fun vs H Q _=>∃ (s:Str) (x y z:V) (m n:List (List V)) (w1 w2 h w:Nat) (hm:Hm) (rs:List Vl),vs=[.str s,x,y,z]∧RowsAt H x m∧RowsAt H y n∧Rect m w1∧Rect n w2∧
  fit ((m.length:Int),(w1:Int)) ((n.length:Int),(w2:Int))=some ((h:Int),(w:Int))∧(sprd m w1 h w).length=h∧Rect (sprd m w1 h w) w∧(sprd n w2 h w).length=h∧Rect (sprd n w2 h w) w∧1≤h∧h≤30∧1≤w∧w≤30∧HmAt H z hm∧rs.length=h*w∧
  (∀ (i:Nat) (u v:V) (r:Vl),(sprd m w1 h w).flatten[i]?=some u→(sprd n w2 h w).flatten[i]?=some v→rs[i]?=some r→SgIn K s hm H u v r)∧∀ u H',TbAt H' u (chunk rs w h)→Same H H'→Q u H'
theorem flat_ok {m:List (List Vl)}(h:∀ r∈m,∀ v∈r,VlOk v):∀ v∈m.flatten,VlOk v:=fun v hv=>by
  obtain ⟨r,hr,hv'⟩:=List.mem_flatten.mp hv
  exact h r hr v hv'
def spIbd:Sp:=fun vs H Q _=>∃ (q:Addr) (t b:Int) (y:V) (hm:Hm),vs=[.ref q,y]∧H q=some (.tup [vS "number",.int t,.int b])∧Low t b∧HmAt H y hm∧∀ x H',VvAt H' x (numV t b hm)→Same H H'→Q x H'
theorem few_abs {t:Int}:(decide ((1000000000000000000000000000000:Int)≤(if t<0 then -t else t)))=!few t:=by
  unfold few
  by_cases h:(if t<0 then -t else t)≤999999999999999999999999999999
  · rw [decide_eq_true h,decide_eq_false (by omega)];rfl
  · rw [decide_eq_false h,decide_eq_true (by omega)];rfl
theorem few_pos {b:Int}(h:0<b):(decide ((1000000000000000000000000000000:Int)≤b))=!few b:=by
  rw [← few_abs,if_neg (by omega)]
def spPls:Sp:=fun vs H Q _=>∃ (u:V) (v:Vl),vs=[u]∧VvAt H u v∧VlOk v∧isF v=false∧∀ H',Same H H'→Q (.str (sgn v)) H'
def S5:List Str:=["+","-","*","/","<"].map Str.ofString
def spOfn:Sp:=fun vs H Q _=>∃ (sg:Str) (u v y:V) (a b:Vl) (hm:Hm),vs=[.str sg,u,v,y]∧sg∈S5∧VvAt H u a∧VvAt H v b∧VlOk a∧VlOk b∧HmAt H y hm∧∀ x H',VvAt H' x (numOp sg a b hm)→Same H H'→Q x H'
def PrsAt (H:Hp)(us:List V)(ns:List (Int×Int)):Prop:=Paired (fun u (n:Int×Int)=>∃ p,u=.ref p∧H p=some (.tup [.int n.1,.int n.2])) us ns
theorem PrsAt.kp {H H':Hp}{us:List V}{ns:List (Int×Int)}(h:PrsAt H us ns)(s:Kp H H'):PrsAt H' us ns:=Paired.imp' (fun _ _ ⟨p,e,x⟩=>⟨p,e,s _ _ x⟩) h
def rNinS:R2:=fun x y H Q=>∃ i j,x=.str i∧y=.str j∧Q (.bl (!(!(Builtin.Str.occurrences j i 0 j.length 1).isEmpty))) H
def S7:List Str:=["+","-","*","/","<","=","&"].map Str.ofString
def spOft:Sp:=fun vs H Q _=>∃ (s:Str) (u v y:V) (a b:Vl) (hm:Hm),vs=[.str s,u,v,y]∧s∈S7∧VvAt H u a∧VvAt H v b∧VlOk a∧VlOk b∧HmAt H y hm∧∀ x H',VvAt H' x (opM s a b hm)→Same H H'→Q x H'
def oddS (z:List Nat):List V:=(z.filter fun c=>!decide (c∈SGL.cps.toList)).map fun c=>V.str ⟨#[c]⟩
def cy {α:Type}(d:α)(m:List (List α))(j k:Nat):α:=(m.getD (j%m.length) []).getD (k%(m.headD []).length) d
def tabC {α:Type}(f:Nat→Nat→α)(h w:Nat):List (List α):=(List.range h).map fun j=>(List.range w).map (f j)
abbrev wd {α:Type}(m:List (List α)):Nat:=(m.headD []).length
theorem tabC_len {α:Type}{f:Nat→Nat→α}{h w:Nat}:(tabC f h w).length=h:=by unfold tabC;rw [List.length_map,List.length_range]
theorem tabC_rect {α:Type}{f:Nat→Nat→α}{h w:Nat}(h1:1≤h)(w1:1≤w):Rect (tabC f h w) w:=by
  refine ⟨fun z=>?_,w1,fun r hr=>?_⟩
  · have:=congrArg List.length z
    rw [tabC_len] at this
    simp at this;omega
  · obtain ⟨j,_,rfl⟩:=List.mem_map.mp hr
    rw [List.length_map,List.length_range]
theorem Rect.wd {α:Type}{m:List (List α)}{w:Nat}(h:Rect m w):(m.headD []).length=w:=by
  cases m with
  | nil=>exact absurd rfl h.ne
  | cons a t=>exact h.row a List.mem_cons_self
theorem Rect.len {α:Type}{m:List (List α)}{w:Nat}(h:Rect m w):1≤m.length:=by
  cases m with
  | nil=>exact absurd rfl h.ne
  | cons a t=>simp
theorem cy_paired {α β:Type}{F:α→β→Prop}{d:α}{d':β}{m:List (List α)}{n:List (List β)}{w:Nat}(p:Paired (Paired F) m n)(rc:Rect n w)(j k:Nat):F (cy d m j k) (cy d' n j k):=by
  have l1:=Paired.length p
  have hn:=rc.len
  have hj:j%n.length<n.length:=Nat.mod_lt _ (by omega)
  obtain ⟨r,hr,pr⟩:=pair_get p (List.getElem?_eq_getElem hj)
  have lw:=rc.row _ (List.getElem_mem hj)
  have w1:=rc.w1
  have hk:k%w<(n[j%n.length]).length:=by rw [lw];exact Nat.mod_lt _ (by omega)
  obtain ⟨x,hx,fx⟩:=pair_get pr (List.getElem?_eq_getElem hk)
  have wm:(m.headD []).length=w:=by
    rw [← rc.wd]
    cases p with
    | nil=>exact absurd rfl rc.ne
    | cons a _=>exact Paired.length a
  unfold cy
  rw [l1,wm,rc.wd,List.getD_eq_getElem?_getD (l:=m),hr,Option.getD_some,List.getD_eq_getElem?_getD (l:=r),hx,Option.getD_some,List.getD_eq_getElem?_getD (l:=n),List.getElem?_eq_getElem hj,Option.getD_some,List.getD_eq_getElem?_getD,List.getElem?_eq_getElem hk,Option.getD_some]
  exact fx
theorem paired_rect {α β:Type}{F:α→β→Prop}{m:List (List α)}{n:List (List β)}{w:Nat}(p:Paired (Paired F) m n)(rc:Rect n w):Rect m w:=by
  refine ⟨fun z=>?_,rc.w1,fun r hr=>?_⟩
  · have:=Paired.length p
    have:=rc.len
    rw [z] at *;simp at *;omega
  · obtain ⟨j,hj⟩:=List.getElem?_of_mem hr
    obtain ⟨mr,hmr,pv⟩:=paired_at p hj
    rw [Paired.length pv];exact rc.row mr (List.mem_of_getElem? hmr)
def fits {α β:Type}(m:List (List α))(n:List (List β)):Prop:=(m.length=n.length∧wd m=wd n)∨(n.length=1∧wd n=1)∨(m.length=1∧wd m=1)
def opT (s:Str)(m n:List (List Vl))(hm:Hm):List (List Vl):=tabC (fun j k=>opM s (cy .none m j k) (cy .none n j k) hm) (max m.length n.length) (max (wd m) (wd n))
def okl2 (dom:Str→Int→Int→Prop)(g:Str→Int→Int→Vl)(l:Lf):Prop:=(∃ z c d,LfGood dom l z c d)∧∀ r∈lfT g l,∀ v∈r,VlOk v
theorem cy_ok {m:List (List Vl)}{w:Nat}(rc:Rect m w)(h:∀ r∈m,∀ v∈r,VlOk v)(j k:Nat):VlOk (cy .none m j k):=by
  have hn:=rc.len
  have w1:=rc.w1
  have hj:j%m.length<m.length:=Nat.mod_lt _ (by omega)
  have lw:=rc.row _ (List.getElem_mem hj)
  have hk:k%w<(m[j%m.length]).length:=by rw [lw];exact Nat.mod_lt _ (by omega)
  unfold cy
  rw [rc.wd,List.getD_eq_getElem?_getD,List.getD_eq_getElem?_getD,List.getElem?_eq_getElem hj,Option.getD_some,List.getElem?_eq_getElem hk,Option.getD_some]
  exact h _ (List.getElem_mem hj) _ (List.getElem_mem hk)
def add2 (s n:Int×Int):Int×Int:=(s.1*n.2+n.1*s.2,s.2*n.2)
def fsl (l:List (Int×Int)):Int×Int:=l.foldl add2 (0,1)
def Sm (c:Int→Int)(l:List (Int×Int)):Int:=(l.map fun n=>n.1*c n.2).sum
theorem fsl_snoc {l:List (Int×Int)}{n:Int×Int}:fsl (l++[n])=add2 (fsl l) n:=by unfold fsl;rw [List.foldl_append];rfl
theorem fold_S {c:Int→Int}{B:Int}:∀ (l:List (Int×Int)) (s:Int×Int) (X:Int),(∀ n∈l,n.2*c n.2=B)→s.1*B=X*s.2→(l.foldl add2 s).1*B=(X+Sm c l)*(l.foldl add2 s).2
  | [],s,X,_,h=>by simp [Sm,h]
  | n::t,s,X,hc,h=>by
    rw [List.foldl_cons]
    have hn:=hc n List.mem_cons_self
    have:=fold_S t (add2 s n) (X+n.1*c n.2) (fun m hm=>hc m (List.mem_cons_of_mem _ hm)) (by
      show (s.1*n.2+n.1*s.2)*B=(X+n.1*c n.2)*(s.2*n.2)
      calc (s.1*n.2+n.1*s.2)*B=(s.1*B)*n.2+n.1*s.2*B:=by rw [Int.add_mul];congr 1;rw [Int.mul_assoc,Int.mul_assoc,Int.mul_comm n.2 B]
        _=(X*s.2)*n.2+n.1*s.2*(n.2*c n.2):=by rw [h,hn]
        _=(X+n.1*c n.2)*(s.2*n.2):=by
          rw [Int.add_mul]
          congr 1
          · rw [Int.mul_assoc]
          · ac_rfl)
    rw [this]
    congr 1
    unfold Sm
    rw [List.map_cons,List.sum_cons]
    omega
theorem fsl_S {c:Int→Int}{B:Int}{l:List (Int×Int)}(h:∀ n∈l,n.2*c n.2=B):(fsl l).1*B=Sm c l*(fsl l).2:=by
  have:=fold_S l (0,1) 0 h (by simp)
  rw [Int.zero_add] at this
  exact this
theorem fold_pos:∀ (l:List (Int×Int)) (s:Int×Int),(∀ n∈l,0<n.2)→0<s.2→0<(l.foldl add2 s).2
  | [],_,_,h=>h
  | n::t,s,hc,h=>by
    rw [List.foldl_cons]
    exact fold_pos t _ (fun m hm=>hc m (List.mem_cons_of_mem _ hm)) (Int.mul_pos h (hc n List.mem_cons_self))
theorem fsl_pos {l:List (Int×Int)}(h:∀ n∈l,0<n.2):0<(fsl l).2:=fold_pos l _ h (by decide)
def putI:List (Int×Int)→Int→Int→List (Int×Int)
  | [],b,v=>[(b,v)]
  | (k,s)::r,b,v=>if k=b then (k,v)::r else (k,s)::putI r b v
def lookI:List (Int×Int)→Int→Option Int
  | [],_=>none
  | (k,s)::r,b=>if k=b then some s else lookI r b
def sw (d:Int×Int):Int×Int:=(d.2,d.1)
def dK (ds:List (Int×Int)):List (Key×V):=ds.map fun d=>(Sum.inl d.1,V.int d.2)
theorem dK_val:∀ (ds:List (Int×Int)) (b:Int),valV (dK ds) (.inl b:Key)=(lookI ds b).map V.int
  | [],b=>rfl
  | (k,s)::r,b=>by
    have ih:=dK_val r b
    unfold lookI
    by_cases e:k=b
    · rw [if_pos e]
      exact valV_pos (p:=((.inl k:Key),V.int s)) (by rw [e])
    · rw [if_neg e,← ih]
      exact valV_neg (p:=((.inl k:Key),V.int s)) (fun z=>e (Sum.inl.inj z))
theorem put_keys:∀ (ds:List (Int×Int)) (b v:Int),(ds.map (·.1)).Nodup→((putI ds b v).map (·.1)).Nodup∧∀ x,x∈(putI ds b v).map (·.1)→x=b∨x∈ds.map (·.1)
  | [],b,v,_=>⟨by simp [putI],by simp [putI]⟩
  | (k,s)::r,b,v,nd=>by
    rw [List.map_cons,List.nodup_cons] at nd
    obtain ⟨h1,h2⟩:=put_keys r b v nd.2
    unfold putI
    by_cases e:k=b
    · rw [if_pos e]
      refine ⟨by rw [List.map_cons,List.nodup_cons];exact nd,fun x hx=>.inr ?_⟩
      simpa using hx
    · rw [if_neg e]
      refine ⟨?_,fun x hx=>?_⟩
      · rw [List.map_cons,List.nodup_cons]
        refine ⟨fun z=>?_,h1⟩
        rcases h2 _ z with z | z
        · exact e z
        · exact nd.1 z
      · rw [List.map_cons,List.mem_cons] at hx
        rcases hx with hx | hx
        · exact .inr (by rw [List.map_cons,List.mem_cons];exact .inl hx)
        · rcases h2 x hx with z | z
          · exact .inl z
          · exact .inr (by rw [List.map_cons,List.mem_cons];exact .inr z)
theorem any_dK:∀ (ds:List (Int×Int)) (b:Int),((dK ds).any fun kv=>decide (kv.1=(.inl b:Key)))=(lookI ds b).isSome:=fun ds b=>by
  rw [valV_any,dK_val]
  cases lookI ds b <;> rfl
theorem map_no:∀ (ds:List (Int×Int)) (b v:Int),b∉ds.map (·.1)→((dK ds).map fun kv=>if kv.1=(.inl b:Key) then (kv.1,V.int v) else kv)=dK ds
  | [],_,_,_=>rfl
  | (k,s)::r,b,v,h=>by
    rw [List.map_cons,List.mem_cons,not_or] at h
    have ih:=map_no r b v h.2
    show ((if ((.inl k:Key),V.int s).1=(.inl b:Key) then _ else _)::(dK r).map _)=_
    rw [if_neg (fun z=>h.1 (Sum.inl.inj z).symm),ih]
    rfl
theorem dK_put:∀ (ds:List (Int×Int)) (b v:Int),(ds.map (·.1)).Nodup→putK (dK ds) (.inl b:Key) (.int v)=dK (putI ds b v)
  | [],b,v,_=>rfl
  | (k,s)::r,b,v,nd=>by
    have nd':=nd
    rw [List.map_cons,List.nodup_cons] at nd
    have ih:=dK_put r b v nd.2
    unfold putK at ih ⊢
    rw [any_dK] at ih ⊢
    unfold putI lookI
    by_cases e:k=b
    · rw [if_pos e,if_pos e,Option.isSome_some,if_pos rfl]
      show ((if ((.inl k:Key),V.int s).1=(.inl b:Key) then _ else _)::(dK r).map _)=_
      rw [if_pos (by rw [e]),map_no r b v (e▸nd.1)]
      rfl
    · rw [if_neg e,if_neg e]
      by_cases c:(lookI r b).isSome=true
      · rw [if_pos c] at ih ⊢
        show ((if ((.inl k:Key),V.int s).1=(.inl b:Key) then _ else _)::(dK r).map _)=_
        rw [if_neg (fun z=>e (Sum.inl.inj z)),ih]
        rfl
      · rw [if_neg c] at ih ⊢
        show ((.inl k:Key),V.int s)::(dK r++_)=_
        rw [ih]
        rfl
theorem put_S {c:Int→Int}:∀ (ds:List (Int×Int)) (b t:Int),Sm c ((putI ds b ((lookI ds b).getD 0+t)).map sw)=Sm c (ds.map sw)+t*c b
  | [],b,t=>by simp [putI,lookI,Sm,sw]
  | (k,s)::r,b,t=>by
    have ih:=put_S (c:=c) r b t
    unfold putI lookI
    by_cases e:k=b
    · rw [if_pos e,if_pos e,Option.getD_some]
      subst e
      show Sm c ((s+t,k)::r.map sw)=Sm c ((s,k)::r.map sw)+_
      unfold Sm
      rw [List.map_cons,List.sum_cons,List.map_cons,List.sum_cons]
      show (s+t)*c k+_=s*c k+_+_
      rw [Int.add_mul]
      omega
    · rw [if_neg e,if_neg e]
      show Sm c (sw (k,s)::(putI r b _).map sw)=Sm c (sw (k,s)::r.map sw)+_
      unfold Sm at ih ⊢
      rw [List.map_cons,List.sum_cons,List.map_cons,List.sum_cons,ih]
      omega
theorem put_len:∀ (ds:List (Int×Int)) (b v:Int),(putI ds b v).length≤ds.length+1
  | [],_,_=>by simp [putI]
  | (k,s)::r,b,v=>by
    unfold putI
    have:=put_len r b v
    split
    · simp
    · simp only [List.length_cons];omega
theorem put_mem:∀ (ds:List (Int×Int)) (b v:Int) (d:Int×Int),d∈putI ds b v→d∈ds∨d=(b,v)
  | [],b,v,d,h=>.inr (by simpa [putI] using h)
  | (k,s)::r,b,v,d,h=>by
    unfold putI at h
    by_cases e:k=b
    · rw [if_pos e] at h
      rcases List.mem_cons.mp h with h | h
      · exact .inr (by rw [h,e])
      · exact .inl (List.mem_cons_of_mem _ h)
    · rw [if_neg e] at h
      rcases List.mem_cons.mp h with h | h
      · exact .inl (by rw [h];exact List.mem_cons_self)
      · rcases put_mem r b v d h with q | q
        · exact .inl (List.mem_cons_of_mem _ q)
        · exact .inr q
theorem look_mem:∀ {ds:List (Int×Int)} {b s:Int},lookI ds b=some s→(b,s)∈ds
  | [],_,_,h=>by cases h
  | (k,s')::r,b,s,h=>by
    unfold lookI at h
    by_cases e:k=b
    · rw [if_pos e] at h;cases h;rw [← e];exact List.mem_cons_self
    · rw [if_neg e] at h;exact List.mem_cons_of_mem _ (look_mem h)
theorem look_at:∀ {ds:List (Int×Int)} {d:Int×Int},(ds.map (·.1)).Nodup→d∈ds→lookI ds d.1=some d.2
  | [],_,_,h=>by cases h
  | (k,s)::r,d,nd,h=>by
    rw [List.map_cons,List.nodup_cons] at nd
    unfold lookI
    rcases List.mem_cons.mp h with rfl | h
    · rw [if_pos rfl]
    · rw [if_neg (fun z=>nd.1 (by show k∈_;rw [z];exact List.mem_map.mpr ⟨d,h,rfl⟩))]
      exact look_at nd.2 h
def prB (l:List (Int×Int)):Int:=(l.map fun n=>n.2).foldl (·*·) 1
theorem fold_mul:∀ (l:List Int) (a:Int),l.foldl (·*·) a=a*l.foldl (·*·) 1
  | [],a=>by simp
  | b::t,a=>by
    rw [List.foldl_cons,List.foldl_cons,fold_mul t (a*b),fold_mul t (1*b),Int.one_mul,Int.mul_assoc]
theorem pr_dvd:∀ {l:List (Int×Int)} {n:Int×Int},n∈l→n.2 ∣ prB l
  | m::t,n,h=>by
    unfold prB
    rw [List.map_cons,List.foldl_cons,fold_mul]
    rcases List.mem_cons.mp h with rfl | h
    · rw [Int.one_mul];exact Int.dvd_mul_right _ _
    · exact Int.dvd_mul_of_dvd_right (pr_dvd h)
theorem pr_pos:∀ {l:List (Int×Int)},(∀ n∈l,0<n.2)→0<prB l
  | [],_=>by decide
  | m::t,h=>by
    unfold prB
    rw [List.map_cons,List.foldl_cons,fold_mul,Int.one_mul]
    exact Int.mul_pos (h m List.mem_cons_self) (pr_pos fun n hn=>h n (List.mem_cons_of_mem _ hn))
def cB (l:List (Int×Int))(b:Int):Int:=prB l / b
theorem cB_ok {l:List (Int×Int)}{n:Int×Int}(h:n∈l):n.2*cB l n.2=prB l:=Int.mul_ediv_cancel' (pr_dvd h)
theorem sum_two {c:Int→Int}{B:Int}{l m:List (Int×Int)}(hB:B≠0)(hl:∀ n∈l,n.2*c n.2=B)(hm:∀ n∈m,n.2*c n.2=B)(e:Sm c l=Sm c m):(fsl l).1*(fsl m).2=(fsl m).1*(fsl l).2:=by
  have h1:=fsl_S hl
  have h2:=fsl_S hm
  rw [e] at h1
  refine Int.eq_of_mul_eq_mul_right hB ?_
  calc (fsl l).1*(fsl m).2*B=(fsl l).1*B*(fsl m).2:=by ac_rfl
    _=Sm c m*(fsl l).2*(fsl m).2:=by rw [h1]
    _=Sm c m*(fsl m).2*(fsl l).2:=by ac_rfl
    _=(fsl m).1*B*(fsl l).2:=by rw [h2]
    _=(fsl m).1*(fsl l).2*B:=by ac_rfl
theorem fold_sz {β γ:Nat}:∀ (l:List (Int×Int)) (s:Int×Int) (k:Nat),(∀ n∈l,n.1.natAbs≤2 ^ γ∧n.2.natAbs≤2 ^ β)→s.1.natAbs≤k*2 ^ (γ+β*k)→s.2.natAbs≤2 ^ (β*k)→(l.foldl add2 s).1.natAbs≤(k+l.length)*2 ^ (γ+β*(k+l.length))∧(l.foldl add2 s).2.natAbs≤2 ^ (β*(k+l.length))
  | [],s,k,_,h1,h2=>by simpa using ⟨h1,h2⟩
  | n::t,s,k,hc,h1,h2=>by
    rw [List.foldl_cons,List.length_cons,show k+(t.length+1)=(k+1)+t.length by omega]
    obtain ⟨q1,q2⟩:=hc n List.mem_cons_self
    refine fold_sz t (add2 s n) (k+1) (fun m hm=>hc m (List.mem_cons_of_mem _ hm)) ?_ ?_
    · show (s.1*n.2+n.1*s.2).natAbs≤_
      refine Nat.le_trans (Int.natAbs_add_le _ _) ?_
      rw [Int.natAbs_mul,Int.natAbs_mul]
      have a1:=Nat.mul_le_mul h1 q2
      have a2:=Nat.mul_le_mul q1 h2
      have e1:k*2 ^ (γ+β*k)*2 ^ β=k*2 ^ (γ+β*(k+1)):=by rw [Nat.mul_assoc,← Nat.pow_add];congr 2;rw [Nat.mul_succ];omega
      have e2:2 ^ γ*2 ^ (β*k)≤2 ^ (γ+β*(k+1)):=by rw [← Nat.pow_add];exact Nat.pow_le_pow_right (by decide) (by rw [Nat.mul_succ];omega)
      rw [e1] at a1
      rw [Nat.succ_mul]
      omega
    · show (s.2*n.2).natAbs≤_
      rw [Int.natAbs_mul]
      refine Nat.le_trans (Nat.mul_le_mul h2 q2) ?_
      rw [← Nat.pow_add,Nat.mul_succ]
      exact Nat.le_refl _
theorem fsl_sz {β γ:Nat}{l:List (Int×Int)}(h:∀ n∈l,n.1.natAbs≤2 ^ γ∧n.2.natAbs≤2 ^ β):(fsl l).1.natAbs≤l.length*2 ^ (γ+β*l.length)∧(fsl l).2.natAbs≤2 ^ (β*l.length):=by
  have:=fold_sz l (0,1) 0 h (by simp) (by simp)
  rw [Nat.zero_add] at this
  exact this
theorem sz_of {x:Int}{k m:Nat}(h:x.natAbs≤k*2 ^ m)(hk:k<2 ^ 10)(hm:m+10≤4000):Sz 4000 x:=by
  refine Sz.mono (m:=m+10) ?_ hm
  unfold Sz
  have h1:k*2 ^ m<2 ^ 10*2 ^ m:=(Nat.mul_lt_mul_right (Nat.two_pow_pos m)).mpr hk
  have h2:2 ^ 10*2 ^ m=2 ^ (m+10):=by rw [← Nat.pow_add,Nat.add_comm]
  omega
def numO:Vl→Option (Int×Int)
  | .num t b=>some (t,b)
  | _=>none
def numsOf (ms:List Vl):List (Int×Int):=ms.filterMap numO
def sumN (ns:List (Int×Int))(h:Hm):Vl:=numV (lowT (fsl ns).1 (fsl ns).2) (lowB (fsl ns).1 (fsl ns).2) h
def sumA (ms:List Vl)(h:Hm):Vl:=match ms.find? isF with
  | some v=>v
  | none=>sumN (numsOf ms) h
def NsOk (β γ:Nat)(ns:List (Int×Int)):Prop:=(∀ n∈ns,0<n.2∧n.1.natAbs≤2 ^ γ∧n.2.natAbs≤2 ^ β)∧ns.length<900∧γ+β*ns.length≤3000
def spNam (K:PySem.W.Frag):Sp:=fun vs H Q _=>∃ (l:Addr) (us:List V) (ms:List Vl),vs=[.ref l]∧H l=some (.lst us)∧VsAt H us ms∧us.length≤1000∧∀ (l':Addr) (ps:List V) (H':Hp),H' l'=some (.lst ps)→PrsAt H' ps (numsOf ms)→Same H H'→Q (.ref l') H'
def spSal:Sp:=fun vs H Q _=>∃ (l:Addr) (us:List V) (ns:List (Int×Int)) (β γ:Nat),vs=[.ref l]∧H l=some (.lst us)∧PrsAt H us ns∧NsOk β γ ns∧∀ (q:Addr) (H':Hp),H' q=some (.tup [.int (lowT (fsl ns).1 (fsl ns).2),.int (lowB (fsl ns).1 (fsl ns).2)])→Same H H'→Q (.ref q) H'
def spSam (K:PySem.W.Frag):Sp:=fun vs H Q _=>∃ (l:Addr) (us:List V) (ms:List Vl) (y:V) (hm:Hm) (β γ:Nat),vs=[.ref l,y]∧H l=some (.lst us)∧VsAt H us ms∧us.length≤1000∧NsOk β γ (numsOf ms)∧HmAt H y hm∧∀ x H',VvAt H' x (sumA ms hm)→Same H H'→Q x H'
theorem fst_find {H:Hp}:∀ {us:List V} {ms:List Vl},VsAt H us ms→(ms.find? isF=none∧fstF us ms=.non)∨∃ u v,ms.find? isF=some v∧fstF us ms=u∧VvAt H u v∧u≠.non
  | _,_,.nil=>.inl ⟨rfl,rfl⟩
  | _,_,@Paired.cons _ _ _ u v us ms h t=>by
    by_cases c:isF v=true
    · refine .inr ⟨u,v,by rw [List.find?_cons_of_pos c],by simp [fstF,c],h,?_⟩
      obtain ⟨q,rfl,_⟩:=h
      intro z;cases z
    · rw [List.find?_cons_of_neg c,show fstF (u::us) (v::ms)=fstF us ms by simp [fstF,c]]
      exact fst_find t
theorem nums_snoc {l:List Vl}{v:Vl}:numsOf (l++[v])=numsOf l++[v].filterMap numO:=List.filterMap_append
theorem take_snoc {α:Type}{l:List α}{i:Nat}{x:α}(h:l[i]?=some x):l.take (i+1)=l.take i++[x]:=by rw [List.take_add_one,h];rfl
theorem sum_low {ns ds:List (Int×Int)}(hn:∀ n∈ns,0<n.2)(hd:∀ n∈ds,n.2*cB ns n.2=prB ns∧0<n.2)(e:Sm (cB ns) ds=Sm (cB ns) ns):lowT (fsl ds).1 (fsl ds).2=lowT (fsl ns).1 (fsl ns).2∧lowB (fsl ds).1 (fsl ds).2=lowB (fsl ns).1 (fsl ns).2:=by
  have p1:=fsl_pos (l:=ds) fun n h=>(hd n h).2
  have p2:=fsl_pos hn
  have p3:=pr_pos hn
  exact low_eq (by omega) (by omega) (sum_two (B:=prB ns) (by omega) (fun n h=>(hd n h).1) (fun n h=>cB_ok h) e)
def tIfT (tA ta tb:L2.TT):L2.TT:=fun σ H Q=>tA σ H fun d H1=>if d=true then ta σ H1 Q else tb σ H1 Q
theorem pt_if {X:Cx}{c a b:Expr}{pos:Pos}{tA ta tb:L2.TT}(hc:PT X c tA)(ha:PT X a ta)(hb:PT X b tb):PT X (.IfExp c a b pos) (tIfT tA ta tb):=by
  intro pins s σ H Q I h
  rw [PySem.isTrue]
  refine wpAny_bind (thn (hc pins s σ H _ I h) fun d s1 ⟨H1,I1,q1⟩=>?_)
  cases d with
  | true=>exact ha pins s1 σ H1 Q I1 q1
  | false=>exact hb pins s1 σ H1 Q I1 q1
theorem pappend {α β:Type}{F:α→β→Prop}:∀ {xs:List α} {ys:List β} {us:List α} {vs:List β},Paired F xs ys→Paired F us vs→Paired F (xs++us) (ys++vs)
  | _,_,_,_,.nil,h=>h
  | _,_,_,_,.cons r t,h=>.cons r (pappend t h)
theorem pflat {α β:Type}{F:α→β→Prop}:∀ {m:List (List α)} {n:List (List β)},Paired (Paired F) m n→Paired F m.flatten n.flatten
  | _,_,.nil=>.nil
  | _,_,.cons h t=>by rw [List.flatten_cons,List.flatten_cons];exact pappend h (pflat t)
def less2 (a b:Int×Int):Bool:=decide (a.1*b.2<b.1*a.2)
def stepE (most:Bool)(o:Option (Int×Int))(n:Int×Int):Option (Int×Int):=match o with
  | none=>some n
  | some b=>if (if most=true then less2 b n else less2 n b)=true then some n else some b
theorem stepE_y {most:Bool}{b n:Int×Int}(c:(if most=true then less2 b n else less2 n b)=true):stepE most (some b) n=some n:=by
  show (if (if most=true then less2 b n else less2 n b)=true then some n else some b)=_
  rw [if_pos c]
theorem stepE_n {most:Bool}{b n:Int×Int}(c:¬ (if most=true then less2 b n else less2 n b)=true):stepE most (some b) n=some b:=by
  show (if (if most=true then less2 b n else less2 n b)=true then some n else some b)=_
  rw [if_neg c]
def endF (most:Bool)(ns:List (Int×Int)):Option (Int×Int):=ns.foldl (stepE most) none
theorem endF_snoc {most:Bool}{l:List (Int×Int)}{n:Int×Int}:endF most (l++[n])=stepE most (endF most l) n:=by unfold endF;rw [List.foldl_append];rfl
def endV:Option (Int×Int)→Vl
  | none=>.none
  | some n=>.num n.1 n.2
def fltO (ms:List Vl)(v:Vl):Vl:=match ms.find? isF with
  | some f=>f
  | none=>v
theorem fltO_s {ms:List Vl}{v f:Vl}(h:ms.find? isF=some f):fltO ms v=f:=by unfold fltO;rw [h]
theorem fltO_n {ms:List Vl}{v:Vl}(h:ms.find? isF=none):fltO ms v=v:=by unfold fltO;rw [h]
def fn1 (z:Str)(ms:List Vl)(hm:Hm):Vl:=fltO ms (if z=Str.ofString "sum" then sumN (numsOf ms) hm else if z=Str.ofString "count" then .num ((numsOf ms).length:Int) 1 else endV (endF (decide (z=Str.ofString "most")) (numsOf ms)))
def BestAt (H:Hp)(b:V):Option (Int×Int)→Prop
  | none=>b=.non
  | some n=>∃ p,b=.ref p∧H p=some (.tup [.int n.1,.int n.2])
theorem nums_mem {ms:List Vl}{n:Int×Int}(h:n∈numsOf ms):Vl.num n.1 n.2∈ms:=by
  obtain ⟨v,hv,e⟩:=List.mem_filterMap.mp h
  cases v with
  | num t b=>cases e;exact hv
  | none=>cases e
  | txt z=>cases e
  | tru b=>cases e
  | flt w z r c=>cases e
def spTb1 (f:List Vl→Hm→Vl):Sp:=fun vs H Q _=>∃ (x y:V) (m:List (List Vl)) (w:Nat) (hm:Hm) (β γ:Nat),vs=[x,y]∧TbAt H x m∧Rect m w∧w≤30∧m.length≤30∧NsOk β γ (numsOf m.flatten)∧HmAt H y hm∧∀ z H',VvAt H' z (f m.flatten hm)→Same H H'→Q z H'
def spCnt:Sp:=fun vs H Q _=>∃ (x:V) (m:List (List Vl)) (w:Nat),vs=[x]∧TbAt H x m∧Rect m w∧w≤30∧m.length≤30∧∀ z H',VvAt H' z (fltO m.flatten (.num ((numsOf m.flatten).length:Int) 1))→Same H H'→Q z H'
def spEnd:Sp:=fun vs H Q _=>∃ (x:V) (b:Bool) (m:List (List Vl)) (w:Nat),vs=[x,.bl b]∧TbAt H x m∧Rect m w∧w≤30∧m.length≤30∧(∀ r∈m,∀ v∈r,VlOk v)∧∀ z H',VvAt H' z (fltO m.flatten (endV (endF b (numsOf m.flatten))))→Same H H'→Q z H'
def W4:List Str:=["sum","count","least","most"].map Str.ofString
def spSg7:Sp:=fun vs H Q _=>∃ (v y o:V) (l a:Addr) (x0:V) (z:Str) (r:List V) (m:List (List Vl)) (w:Nat) (hm:Hm) (β γ:Nat),vs=[v,.ref l,y,o]∧v=.ref a∧z∈W4∧H a=some (.tup (.str z::r))∧H l=some (.lst [x0])∧TbAt H x0 m∧Rect m w∧m.length≤30∧w≤30∧(∀ r∈m,∀ v∈r,VlOk v)∧NsOk β γ (numsOf m.flatten)∧HmAt H y hm∧∀ z' H',VvAt H' z' (fn1 z m.flatten hm)→Same H H'→Q z' H'
theorem mem_W4 {z:Str}(h:z∈W4):z=Str.ofString "sum"∨z=Str.ofString "count"∨z=Str.ofString "least"∨z=Str.ofString "most":=by simpa [W4] using h
def sem7 (g:Str→Int→Int→Vl)(hm:Hm):Fm→List (List Vl)
  | .lf l=>lfT g l
  | .nd (.wd z) [.lf a]=>[[fn1 z (lfT g a).flatten hm]]
  | _=>[]
def okF7 (dom:Str→Int→Int→Prop)(g:Str→Int→Int→Vl)(hm:Hm)(f:Fm):Prop:=(∃ l,f=.lf l∧okl2 dom g l)∨∃ z a,f=.nd (.wd z) [.lf a]∧z∈W4∧okl2 dom g a∧∃ β γ,NsOk β γ (numsOf (lfT g a).flatten)
def spTb7 (f:Addr)(Dp:Hp→Prop)(dom:Str→Int→Int→Prop)(g:Str→Int→Int→Vl)(hm:Hm):Sp:=fun vs H Q _=>∃ (v y o:V) (fm:Fm) (l:Addr) (us:List V) (n:Nat),vs=[v,.ref l,y,.ref f,o]∧FmAt H v fm∧FO 0 n fm∧okF7 dom g hm fm∧Dp H∧H l=some (.lst us)∧Paired (TbAt H) us ((prtF fm).map (sem7 g hm))∧HmAt H y hm∧∀ x H',TbAt H' x (sem7 g hm fm)→Same H H'→Q x H'
theorem W4_no:∀ z∈W4,∀ w∈["op","neg","if","turn","stack","grid"].map Str.ofString,z≠w:=by decide +kernel
theorem no_W4 {z:Str}{w:String}(h:z∈W4)(hw:Str.ofString w∈["op","neg","if","turn","stack","grid"].map Str.ofString):V.bl (decide (V.str z=vS w))=.bl false:=by
  rw [decide_eq_false fun e=>W4_no z h _ hw (by injection e)]
def spRck7 (Pr f:Addr)(Dp:Hp→Prop)(dom:Str→Int→Int→Prop)(g:Str→Int→Int→Vl):Sp:=fun vs H Q _=>∃ (v y o:V) (fm:Fm) (n:Nat) (hm:Hm),vs=[v,y,.ref f,o]∧FmAt H v fm∧FO 0 n fm∧n≤8∧(∀ x∈alF fm,okF7 dom g hm x)∧Dp H∧HmAt H y hm∧TabAt H Pr qR∧
  ∀ x H',TbAt H' x (sem7 g hm fm)→KeepX Pr H H'→TabAt H' Pr qR→Q x H'
theorem mk1 {H:Hp}{a t:Addr}{kd:Kd}{u:V}{f:Fm}(h:H a=some (.tup (layV t kd [u])))(no:isOwn kd=false)(x:FmAt H u f):FmAt H (.ref a) (.nd kd [f]):=
  .nd h (fun z=>by rw [no] at z;cases z) rfl fun j u' f' e1 e2=>by
    match j with
    | 0=>cases e1;cases e2;exact x
    | n+1=>simp at e1
structure D3 (H:Hp)(p:Addr)(l:Addr)(bs:List Addr)(rows:List (List V))(h w:Nat):Prop where
  ob:H l=some (.lst (bs.map V.ref))
  lp:l≠p
  np:p∉bs
  ls:LsAt H bs rows
  len:rows.length=h
  h1:1≤h
  h16:h≤16
  w1:1≤w
  w8:w≤8
  row:∀ r∈rows,r.length=w
def Keep2 (p q:Addr)(H H':Hp):Prop:=∀ b o,b≠p→b≠q→H b=some o→H' b=some o
theorem Keep2.of {p q:Addr}{H H':Hp}(s:Same H H'):Keep2 p q H H':=fun b o _ _ e=>s b o e
theorem Keep2.trans {p q:Addr}{H H1 H2:Hp}(a:Keep2 p q H H1)(b:Keep2 p q H1 H2):Keep2 p q H H2:=fun c o h1 h2 e=>b c o h1 h2 (a c o h1 h2 e)
theorem Keep2.kp {p q:Addr}{H H':Hp}{vs:List V}{kvs:List (List Key×V)}(s:Keep2 p q H H')(hp:H p=some (.lst vs))(hq:H q=some (.dT kvs)):Kp H H':=fun a xs e=>s a _ (ne_of e hp (by intro z;cases z)) (ne_of e hq (by intro z;cases z)) e
theorem D3.k2 {H H':Hp}{p q l:Addr}{bs:List Addr}{rows:List (List V)}{h w:Nat}{kvs:List (List Key×V)}(x:D3 H p l bs rows h w)(s:Keep2 p q H H')(hq:H q=some (.dT kvs)):D3 H' p l bs rows h w:=
  ⟨s _ _ x.lp (ne_of x.ob hq (by intro z;cases z)) x.ob,x.lp,x.np,pmem x.ls fun b row hb e=>s _ _ (fun z=>x.np (z▸hb)) (ne_of e hq (by intro z;cases z)) e,x.len,x.h1,x.h16,x.w1,x.w8,x.row⟩
def LayAt (H:Hp)(kvs:List (List Key×V))(z:Str)(rows:List (List V))(h w:Nat)(u:V):Prop:=∃ (a:Addr) (lf:Lf) (c d:Cor) (hi wi:Int),u=.ref a∧LfAt H a lf∧lfB lf=some (z,c,d)∧c.r=hi+1∧c.c=wi+1∧d.r=hi+h∧d.c=wi+w∧0≤hi∧hi+h≤16∧0≤wi∧wi+w≤8∧Laid kvs z hi wi rows h 0
theorem Laid.els {kvs kvs':List (List Key×V)}{z z':Str}{hi wi:Int}{rows:List (List V)}{i j:Nat}(h:Laid kvs z hi wi rows i j)(e:Else kvs kvs' z')(n:z≠z'):Laid kvs' z hi wi rows i j:=fun a b row v h1 h2 h3=>by
  rw [e _ (fun q=>n (by injection q with q;injection q))]
  exact h a b row v h1 h2 h3
theorem LayAt.step {H H':Hp}{kvs kvs':List (List Key×V)}{z z':Str}{rows:List (List V)}{h w:Nat}{u:V}(x:LayAt H kvs z rows h w u)(kp:Kp H H')(e:Else kvs kvs' z')(n:z≠z'):LayAt H' kvs' z rows h w u:=by
  obtain ⟨a,lf,c,d,hi,wi,h1,h2,h3,h4,h5,h6,h7,h8,h9,h10,h11,h12⟩:=x
  exact ⟨a,lf,c,d,hi,wi,h1,LfAt.kp h2 kp,h3,h4,h5,h6,h7,h8,h9,h10,h11,h12.els e n⟩
theorem LayAt.kp {H H':Hp}{kvs:List (List Key×V)}{z:Str}{rows:List (List V)}{h w:Nat}{u:V}(x:LayAt H kvs z rows h w u)(kp:Kp H H'):LayAt H' kvs z rows h w u:=by
  obtain ⟨a,lf,c,d,hi,wi,h1,h2,r⟩:=x
  exact ⟨a,lf,c,d,hi,wi,h1,LfAt.kp h2 kp,r⟩
structure Dt where
  z:Str
  l:Addr
  bs:List Addr
  rows:List (List V)
  h:Nat
  w:Nat
def SmF (H H':Hp):Prop:=∀ b o,H b=some o→dat o=false→H' b=some o
theorem tab_smf {H H':Hp}{P:Addr}{q:Str}(x:TabAt H P q)(s:SmF H H'):TabAt H' P q:=by
  obtain ⟨ps,e,t,k⟩:=x
  refine ⟨ps,s _ _ e rfl,t,fun pos cv z=>?_⟩
  obtain ⟨c,e1,e2⟩:=k pos cv z
  exact ⟨c,e1,e2.keep fun b o h=>s b _ h rfl⟩
theorem SmF.kx {H H':Hp}{p:Addr}{vs:List V}(hp:H p=some (.lst vs))(s:KeepX p H H'):SmF H H':=fun b o e d=>s b o (fun z=>by subst z;rw [hp] at e;cases e;cases d) e
def qL:Str:=Str.ofString "law"++Str.ofString ".<locals>."++Str.ofString "<lambda>"
structure Env8 (K:PySem.W.Frag)(S:Addr×List Int)(PR PL:Addr)(H:Hp)(p:Addr)(n:Nat):Prop where
  pen:PenM K S H p n
  tR:TabAt H PR qR
  tL:TabAt H PL qL
section
variable {K:PySem.W.Frag}{S:Addr×List Int}{PR PL p:Addr}{H H':Hp}{n n':Nat}
theorem Env8.kx (h:Env8 K S PR PL H p n)(pen:PenM K S H' p n')(kp:KeepX p H H'):Env8 K S PR PL H' p n':=by
  obtain ⟨_,e⟩:=h.pen.ob
  exact ⟨pen,tab_smf h.tR (SmF.kx e kp),tab_smf h.tL (SmF.kx e kp)⟩
theorem Env8.same (h:Env8 K S PR PL H p n)(s:Same H H'):Env8 K S PR PL H' p n:=⟨h.pen.same s,h.tR.sm s,h.tL.sm s⟩
theorem Env8.mono (h:Env8 K S PR PL H p n)(s:n≤n'):Env8 K S PR PL H p n':=⟨h.pen.mono s,h.tR,h.tL⟩
theorem Env8.row {b q:Addr}{r:List V}{o:HO}(h:Env8 K S PR PL H p n)(hb:H b=some (.lst (.ref q::r)))(ne:b≠p):Env8 K S PR PL (upd H b o) p n:=by
  obtain ⟨⟨x,c,r',e,sq,z⟩,t1,t2⟩:=h
  exact ⟨⟨x,c,r',by rw [upd_ne (Ne.symm ne)];exact e,SqL.kl sq hb KeepX.upd,z⟩,tab_smf t1 (SmF.kx hb KeepX.upd),tab_smf t2 (SmF.kx hb KeepX.upd)⟩
end
theorem iteJ {b:Bool}{t:TS}{D:Ends}{σ:St}{H:Hp}(J:St→Hp→Prop)(c:¬ b=true→J σ H)(a:b=true→(∀ σ' H',J σ' H'→D.nx σ' H')→t D σ H)(rest:∀ σ' H',J σ' H'→D.nx σ' H'):if b=true then t D σ H else D.nx σ H:=
  ite2 (fun h=>a h rest) fun h=>rest _ _ (c h)
theorem keep_put {q:Str}{P:Addr}{H H':Hp}(h:KeepX P (L2.del q H) H'):KeepX P H (L2.put q H H'):=fun b o hb e=>by
  cases w:kn q (H b) with
  | none=>rw [put_out w];exact h b o hb (by rw [del_out w];exact e)
  | some u=>
    rw [put_in w]
    rw [kn_some w] at e
    exact e
theorem tab_kx {H H':Hp}{P P':Addr}{q:Str}{ps:Array Value}(x:TabAt H P q)(ne:P≠P')(hp:H P'=some (.tbl ps))(s:KeepX P' H H'):TabAt H' P q:=by
  obtain ⟨ps',e,t,k⟩:=x
  refine ⟨ps',s _ _ ne e,t,fun pos cv z=>?_⟩
  obtain ⟨c,e1,e2⟩:=k pos cv z
  exact ⟨c,e1,e2.keep fun b o h=>s _ _ (ne_of h hp (by intro z;cases z)) h⟩
theorem tab_del {H:Hp}{P:Addr}{q q':Str}(x:TabAt H P q)(n:(q==q')=false):TabAt (L2.del q' H) P q:=by
  obtain ⟨ps',e,t,k⟩:=x
  refine ⟨ps',del_of e rfl,t,fun pos cv z=>?_⟩
  obtain ⟨c,e1,o,vs,tk,e2,d,w⟩:=k pos cv z
  exact ⟨c,e1,o,vs,tk,by rw [del_out (kn_not e2 ((own_code d w).trans n))];exact e2,d,w⟩
theorem tab_back {H H':Hp}{P:Addr}{q q':Str}(x:TabAt H' P q)(n:∀ b o,kn q' (H b)=some o→H' b=none):TabAt (L2.put q' H H') P q:=by
  have po:∀ b o,H' b=some o→L2.put q' H H' b=some o:=fun b o e=>by
    cases w:kn q' (H b) with
    | none=>rw [put_out w];exact e
    | some u=>rw [n b u w] at e;cases e
  exact x.sm po
theorem qRL:(qR==qL)=false:=by decide +kernel
theorem TbAt.tr {H:Hp}{u:V}{v:Vl}(h:TbAt H u [[v]]):TrAt H u (.tup [.tup [trV v]]) 4:=by
  obtain ⟨rows,⟨b,us,rfl,hb,pr⟩,vt⟩:=h
  cases vt with
  | cons v0 vt'=>
    cases vt'
    cases v0 with
    | cons y ys=>
      cases ys
      cases pr with
      | cons r0 rt=>
        cases rt
        obtain ⟨b0,rfl,hb0⟩:=r0
        exact .ofP (n:=3) hb (by simp) (.cons (.ofP (n:=2) hb0 (by simp) (.cons y.tr .nil)) .nil)
def DpF (kn:Addr)(dom:Str→Int→Int→Prop)(g:Str→Int→Int→Vl)(H:Hp):Prop:=∃ kvs,H kn=some (.dT kvs)∧∀ z r c,dom z r c→∃ x,valV kvs (cK z r c)=some x∧VvAt H x (g z r c)
theorem DpF.smd {kn:Addr}{dom:Str→Int→Int→Prop}{g:Str→Int→Int→Vl}{H H':Hp}(s:SmD H H')(h:DpF kn dom g H):DpF kn dom g H':=by
  obtain ⟨kvs,e,k⟩:=h
  refine ⟨kvs,s _ _ e rfl,fun z r c d=>?_⟩
  obtain ⟨x,h1,h2⟩:=k z r c d
  exact ⟨x,h1,h2.kp s.kp⟩
theorem lf_good {dom:Str→Int→Int→Prop}{lf:Lf}{z:Str}{c d:Cor}{hi wi:Int}{h w:Nat}(b:lfB lf=some (z,c,d))(nm:Nm z)(k7:c.r=hi+1)(k8:c.c=wi+1)(k9:d.r=hi+h)(k10:d.c=wi+w)(k11:0≤hi)(k12:hi+h≤16)(k13:0≤wi)(k14:wi+w≤8)(h1:1≤h)(w1:1≤w)
    (dm:∀ i j:Int,hi+1≤i→i≤hi+h→wi+1≤j→j≤wi+w→dom z i j):LfGood dom lf z c d:=
  ⟨b,nm,by omega,by omega,by omega,by omega,by omega,by omega,fun i j x1 x2 x3 x4=>dm i j (by omega) (by omega) (by omega) (by omega)⟩
theorem lf_sem {g:Str→Int→Int→Vl}{lf:Lf}{z:Str}{c d:Cor}{hi wi:Int}{h w:Nat}(b:lfB lf=some (z,c,d))(k7:c.r=hi+1)(k8:c.c=wi+1)(k9:d.r=hi+h)(k10:d.c=wi+w):lfT g lf=blk g z (hi+1) (wi+1) h w:=by
  unfold lfT
  rw [b]
  dsimp only
  rw [k7,k8,k9,k10,show (hi+h-(hi+1)+1).toNat=h by omega,show (wi+w-(wi+1)+1).toNat=w by omega]
theorem lf_ok {dom:Str→Int→Int→Prop}{lf:Lf}{z:Str}{c d:Cor}(h:LfGood dom lf z c d):LfOk 0 lf:=by
  have g1:=h.r0;have g2:=h.r1;have g3:=h.r16;have g4:=h.c0;have g5:=h.c1;have g6:=h.c8;have nm:=h.nm;have b:=h.b
  cases lf with
  | cell s c'=>
    cases s with
    | none=>cases b
    | some z'=>cases b;exact ⟨nm,⟨g1,by omega,g4,by omega⟩⟩
  | rng s c' d'=>
    cases s with
    | none=>cases b
    | some z'=>cases b;exact ⟨nm,⟨g1,by omega,g4,by omega⟩,⟨by omega,g3,by omega,g6⟩,g2,g5⟩
  | val v=>cases b
  | cols s i x j y=>cases b
  | gone=>cases b
  | nam z=>cases b
  | par i=>cases b
  | flt=>cases b
def spLawT (K:PySem.W.Frag)(P1 P2:Addr):Sp:=fun vs H Q _=>∃ (a:Addr) (ns:List Int),vs=[.ref a]∧SqL K H a (ns.map V.int)∧ns.length≤63∧H P1=some (.tbl #[])∧H P2=some (.tbl #[])∧∀ H',Q (.bl true) H'
def big2 (t b:Int):Bool:=decide ((99:Int)<(if b>(if t<0 then -t else t) then b else (if t<0 then -t else t)))
def lessM:Vl→Vl
  | .num t b=>if big2 t b=true then .num 5 2 else .num t b
  | v=>v
def spLsn:Sp:=fun vs H Q _=>∃ (u:V) (v:Vl),vs=[u]∧VvAt H u v∧∀ x H',VvAt H' x (lessM v)→Same H H'→Q x H'
theorem lessM_pos {t b:Int}(c:big2 t b=true):lessM (.num t b)=.num 5 2:=by
  show (if big2 t b=true then Vl.num 5 2 else .num t b)=_
  rw [if_pos c]
theorem lessM_neg {t b:Int}(c:¬ big2 t b=true):lessM (.num t b)=.num t b:=by
  show (if big2 t b=true then Vl.num 5 2 else .num t b)=_
  rw [if_neg c]
theorem lessM_ok {v:Vl}(h:VlOk v):VlOk (lessM v)∧∀ n,numO (lessM v)=some n→n.1.natAbs≤2 ^ 7∧n.2.natAbs≤2 ^ 7:=by
  cases v with
  | num t b=>
    obtain ⟨lo,h1,h2⟩:=h
    have bp:=lo.pos
    by_cases c:big2 t b=true
    · rw [lessM_pos c]
      exact ⟨⟨⟨by decide,by decide⟩,by decide,by decide⟩,fun n hn=>by cases hn;decide⟩
    · rw [lessM_neg c]
      refine ⟨⟨lo,h1,h2⟩,fun n hn=>?_⟩
      cases hn
      unfold big2 at c
      rw [decide_eq_true_eq] at c
      have h3:t.natAbs≤99∧b.natAbs≤99:=by
        split at c <;> split at c <;> omega
      exact ⟨by show t.natAbs≤2 ^ 7;omega,by show b.natAbs≤2 ^ 7;omega⟩
  | none=>exact ⟨h,fun n hn=>by cases hn⟩
  | txt z=>exact ⟨h,fun n hn=>by cases hn⟩
  | tru b=>exact ⟨h,fun n hn=>by cases hn⟩
  | flt w z r c=>exact ⟨h,fun n hn=>by cases hn⟩
structure Sht where
  z:Str
  hi:Int
  wi:Int
  rows:List (List V)
  m:List (List Vl)
  w:Nat
def pl (hi wi:Int)(m:List (List Vl))(r c:Int):Vl:=(m.getD (r-hi-1).toNat []).getD (c-wi-1).toNat .none
def gS (T:List Sht):Str→Int→Int→Vl:=fun z r c=>match T.find? (fun s=>decide (s.z=z)) with
  | some s=>pl s.hi s.wi s.m r c
  | none=>.none
def domS (T:List Sht):Str→Int→Int→Prop:=fun z r c=>∃ s∈T,s.z=z∧s.hi+1≤r∧r≤s.hi+s.m.length∧s.wi+1≤c∧c≤s.wi+s.w
structure LdAt (H:Hp)(kvs:List (List Key×V))(s:Sht):Prop where
  ld:Laid kvs s.z s.hi s.wi s.rows s.m.length 0
  vt:VtAt H s.rows s.m
  row:∀ r∈s.m,r.length=s.w
theorem find_nd:∀ {T:List Sht},(T.map fun s=>s.z).Nodup→∀ {s:Sht},s∈T→T.find? (fun x=>decide (x.z=s.z))=some s
  | [],_,s,h=>by cases h
  | a::t,nd,s,h=>by
    rw [List.map_cons,List.nodup_cons] at nd
    rcases List.mem_cons.mp h with rfl | h
    · rw [List.find?_cons_of_pos (by simp)]
    · rw [List.find?_cons_of_neg (by
        intro z
        exact nd.1 (of_decide_eq_true z▸List.mem_map.mpr ⟨s,h,rfl⟩))]
      exact find_nd nd.2 h
theorem gS_of {T:List Sht}(nd:(T.map fun s=>s.z).Nodup){s:Sht}(hs:s∈T)(r c:Int):gS T s.z r c=pl s.hi s.wi s.m r c:=by unfold gS;rw [find_nd nd hs]
theorem getD_of {α:Type}{l:List α}{i:Nat}{x d:α}(h:l[i]?=some x):l.getD i d=x:=by rw [List.getD_eq_getElem?_getD,h];rfl
theorem dp_S {H:Hp}{kn:Addr}{kvs:List (List Key×V)}{T:List Sht}(hkn:H kn=some (.dT kvs))(nd:(T.map fun s=>s.z).Nodup)(ok:∀ s∈T,LdAt H kvs s):DpF kn (domS T) (gS T) H:=by
  refine ⟨kvs,hkn,fun z r c d=>?_⟩
  obtain ⟨s,hs,rfl,d1,d2,d3,d4⟩:=d
  obtain ⟨a,rfl⟩:∃ a:Nat,r=s.hi+a+1:=⟨(r-s.hi-1).toNat,by omega⟩
  obtain ⟨b,rfl⟩:∃ b:Nat,c=s.wi+b+1:=⟨(c-s.wi-1).toNat,by omega⟩
  have g:=ok s hs
  have ha:a<s.m.length:=by omega
  have hm':s.m[a]?=some s.m[a]:=List.getElem?_eq_getElem ha
  have hb:b<s.m[a].length:=by rw [g.row _ (List.getElem_mem ha)];omega
  obtain ⟨rw',hrw,pv⟩:=pair_get g.vt hm'
  obtain ⟨x,hx,vx⟩:=pair_get pv (List.getElem?_eq_getElem hb)
  refine ⟨x,g.ld a b rw' x hrw hx (.inl (by omega)),?_⟩
  rw [gS_of nd hs,pl,show (s.hi+a+1-s.hi-1).toNat=a by omega,show (s.wi+b+1-s.wi-1).toNat=b by omega,getD_of hm',getD_of (List.getElem?_eq_getElem hb)]
  exact vx
theorem blk_S {T:List Sht}(nd:(T.map fun s=>s.z).Nodup){s:Sht}(hs:s∈T)(row:∀ r∈s.m,r.length=s.w):blk (gS T) s.z (s.hi+1) (s.wi+1) s.m.length s.w=s.m:=by
  unfold blk
  refine List.ext_getElem? fun i=>?_
  by_cases hi':i<s.m.length
  · have hm':s.m[i]?=some s.m[i]:=List.getElem?_eq_getElem hi'
    have lm:=row _ (List.getElem_mem hi')
    rw [List.getElem?_map,List.getElem?_range hi',hm']
    refine congrArg some (List.ext_getElem? fun j=>?_)
    by_cases hj:j<s.w
    · rw [List.getElem?_map,List.getElem?_range hj,List.getElem?_eq_getElem (by omega)]
      refine congrArg some ?_
      show gS T s.z (s.hi+1+(i:Int)) (s.wi+1+(j:Int))=_
      rw [gS_of nd hs,pl,show (s.hi+1+(i:Int)-s.hi-1).toNat=i by omega,show (s.wi+1+(j:Int)-s.wi-1).toNat=j by omega,getD_of hm',getD_of (List.getElem?_eq_getElem (by omega))]
    · rw [List.getElem?_eq_none (by rw [List.length_map,List.length_range];omega),List.getElem?_eq_none (by omega)]
  · rw [List.getElem?_eq_none (by rw [List.length_map,List.length_range];omega),List.getElem?_eq_none (by omega)]
theorem lay_sh {H:Hp}{kvs:List (List Key×V)}{z:Str}{rows:List (List V)}{m:List (List Vl)}{h w:Nat}{u:V}(x:LayAt H kvs z rows h w u)(nm:Nm z)(vt:VtAt H rows m)(ml:m.length=h)(row:∀ r∈m,r.length=w)(h1:1≤h)(w1:1≤w):
    ∃ (a:Addr) (lf:Lf) (s:Sht),u=.ref a∧LfAt H a lf∧s.z=z∧s.m=m∧LdAt H kvs s∧∀ T:List Sht,(T.map fun s=>s.z).Nodup→s∈T→(∃ z c d,LfGood (domS T) lf z c d)∧lfT (gS T) lf=m:=by
  obtain ⟨a,lf,c,d,hi,wi,rfl,h2,h3,h4,h5,h6,h7,h8,h9,h10,h11,h12⟩:=x
  subst ml
  refine ⟨a,lf,⟨z,hi,wi,rows,m,w⟩,rfl,h2,rfl,rfl,⟨h12,vt,row⟩,fun T nd hs=>⟨⟨z,c,d,lf_good h3 nm h4 h5 h6 h7 h8 h9 h10 h11 h1 w1 fun i j q1 q2 q3 q4=>⟨_,hs,rfl,q1,q2,q3,q4⟩⟩,?_⟩⟩
  rw [lf_sem h3 h4 h5 h6 h7]
  exact blk_S nd hs row
structure LB (H:Hp)(l:Addr)(bs:List Addr)(rows:List (List V))(m:List (List Vl)):Prop where
  ob:H l=some (.lst (bs.map V.ref))
  ls:LsAt H bs rows
  vt:VtAt H rows m
theorem LB.smd {H H':Hp}{l:Addr}{bs:List Addr}{rows:List (List V)}{m:List (List Vl)}(x:LB H l bs rows m)(s:SmD H H'):LB H' l bs rows m:=⟨s _ _ x.ob rfl,pmem x.ls fun b row _ e=>s _ _ e rfl,VtAt.kp x.vt s.kp⟩
theorem LB.same {H H':Hp}{l:Addr}{bs:List Addr}{rows:List (List V)}{m:List (List Vl)}(x:LB H l bs rows m)(s:Same H H'):LB H' l bs rows m:=x.smd (SmD.of s)
structure RD (H0 H:Hp)(l:Addr)(bs:List Addr)(rows:List (List V))(m:List (List Vl)):Prop where
  b:LB H l bs rows m
  nl:l∉bs
  s:Same H0 H
  fl:H0 l=none
  fb:∀ b∈bs,H0 b=none
section
variable {H0 H H':Hp}{l D:Addr}{bs:List Addr}{rows:List (List V)}{m:List (List Vl)}
theorem RD.nil (h:H0 l=none):RD H0 (upd H0 l (.lst [])) l [] [] []:=⟨⟨upd_same,.nil,.nil⟩,by simp,Same.new h,h,fun b z=>absurd z (by simp)⟩
theorem RD.same (x:RD H0 H l bs rows m)(s:Same H H'):RD H0 H' l bs rows m:=⟨x.b.same s,x.nl,x.s.trans s,x.fl,x.fb⟩
theorem RD.new (x:RD H0 H l bs rows m)(h:H D=none):D≠l∧D∉bs∧H0 D=none:=by
  refine ⟨(fun z=>by rw [z,x.b.ob] at h;cases h),fun z=>?_,?_⟩
  · obtain ⟨j,hj⟩:=List.getElem?_of_mem z
    obtain ⟨r,_,e⟩:=paired_at x.b.ls hj
    have e':H D=some (.lst r):=e
    rw [e'] at h;cases h
  · cases e:H0 D with
    | none=>rfl
    | some o=>rw [x.s _ _ e] at h;cases h
theorem RD.st {us vs:List V}(x:RD H0 H l bs rows m)(n1:D≠l)(n2:D∉bs)(n3:H0 D=none)(hD:H D=some (.lst us)):RD H0 (upd H D (.lst vs)) l bs rows m:=
  ⟨⟨by rw [upd_ne (Ne.symm n1)];exact x.b.ob,pmem x.b.ls fun b row hb e=>by
      show upd H D (.lst vs) b=some (.lst row)
      rw [upd_ne (show b≠D from fun z=>n2 (z▸hb))];exact e,VtAt.kp x.b.vt (kp_upd hD)⟩,x.nl,fun b o e=>by rw [upd_ne (ne_of_none e n3)];exact x.s _ _ e,x.fl,x.fb⟩
theorem RD.push {us:List V}{vs:List Vl}(x:RD H0 H l bs rows m)(n1:D≠l)(n3:H0 D=none)(hD:H D=some (.lst us))(hv:VsAt H us vs):RD H0 (upd H l (.lst (bs.map V.ref++[.ref D]))) l (bs++[D]) (rows++[us]) (m++[vs]):=by
  have kk:Kp H (upd H l (.lst (bs.map V.ref++[.ref D]))):=kp_upd x.b.ob
  refine ⟨⟨by rw [upd_same,List.map_append];rfl,psnoc (pmem x.b.ls fun b row hb e=>?_) (by rw [upd_ne n1];exact hD),psnoc (VtAt.kp x.b.vt kk) (VsAt.kp hv kk)⟩,fun z=>?_,fun b o e=>by rw [upd_ne (ne_of_none e x.fl)];exact x.s _ _ e,x.fl,fun b hb=>?_⟩
  · show upd H l _ b=some (.lst row)
    rw [upd_ne (show b≠l from fun z=>x.nl (z▸hb))];exact e
  · rcases List.mem_append.mp z with z | z
    · exact x.nl z
    · exact n1 (List.mem_singleton.mp z).symm
  · rcases List.mem_append.mp hb with z | z
    · exact x.fb b z
    · rw [List.mem_singleton.mp z];exact n3
theorem RD.len (x:RD H0 H l bs rows m):bs.length=m.length∧rows.length=m.length:=⟨(Paired.length x.b.ls).trans (Paired.length x.b.vt),Paired.length x.b.vt⟩
end
theorem tabC_succ {α:Type}{f:Nat→Nat→α}{h w:Nat}:tabC f (h+1) w=tabC f h w++[(List.range w).map (f h)]:=by
  unfold tabC;rw [List.range_succ,List.map_append];rfl
def trT (m:List (List Vl)):Tr:=.tup (m.map fun r=>.tup (r.map trV))
theorem vs_tr {H:Hp}:∀ {us:List V} {vs:List Vl},VsAt H us vs→Paired (fun u t=>TrAt H u t 2) us (vs.map trV)
  | _,_,.nil=>.nil
  | _,_,.cons h t=>.cons h.tr (vs_tr t)
theorem vt_tr {H:Hp}:∀ {us:List V} {rows:List (List V)} {m:List (List Vl)},Paired (RsAt H) us rows→VtAt H rows m→(∀ r∈m,r.length≤100)→Paired (fun u t=>TrAt H u t 3) us (m.map fun r=>Tr.tup (r.map trV))
  | _,_,_,.nil,.nil,_=>.nil
  | _,_,_,.cons ⟨b0,e,hb0⟩ pr,.cons v vt,h=>by
    subst e
    exact .cons (.ofP (n:=2) hb0 (by rw [Paired.length v];exact h _ List.mem_cons_self) (vs_tr v)) (vt_tr pr vt fun r hr=>h r (List.mem_cons_of_mem _ hr))
theorem TbAt.trT {H:Hp}{u:V}{m:List (List Vl)}(h:TbAt H u m)(l1:m.length≤100)(l2:∀ r∈m,r.length≤100):TrAt H u (trT m) 4:=by
  obtain ⟨rows,⟨b,us,rfl,hb,pr⟩,vt⟩:=h
  exact .ofP (n:=3) hb (by rw [Paired.length pr,Paired.length vt];exact l1) (vt_tr pr vt l2)
theorem LB.tb {H H':Hp}{l:Addr}{bs:List Addr}{rows:List (List V)}{m:List (List Vl)}{x:V}(h:LB H l bs rows m)(s:Same H H')(hx:RowsAt H' x rows):TbAt H' x m:=⟨rows,hx,VtAt.kp h.vt (Kp.same s)⟩
theorem LB.len {H:Hp}{l:Addr}{bs:List Addr}{rows:List (List V)}{m:List (List Vl)}(h:LB H l bs rows m):rows.length=m.length:=Paired.length h.vt
structure TT (H:Hp)(p l:Addr)(bs:List Addr)(rows:List (List V))(m:List (List Vl))(h w:Nat):Prop where
  d:D3 H p l bs rows h w
  vt:VtAt H rows m
  ml:m.length=h
  ok:Oks m w
section
variable {p kn l:Addr}{H H':Hp}{h w:Nat}{m:List (List Vl)}{bs:List Addr}{rows:List (List V)}
theorem TT.kx (x:TT H p l bs rows m h w)(kp:KeepX p H H')(kk:Kp H H'):TT H' p l bs rows m h w:=
  ⟨⟨kp _ _ x.d.lp x.d.ob,x.d.lp,x.d.np,pmem x.d.ls fun b row hb e=>kp _ _ (fun z=>x.d.np (z▸hb)) e,x.d.len,x.d.h1,x.d.h16,x.d.w1,x.d.w8,x.d.row⟩,VtAt.kp x.vt kk,x.ml,x.ok⟩
theorem TT.same (x:TT H p l bs rows m h w)(s:Same H H'):TT H' p l bs rows m h w:=x.kx (Same.keep s) (Kp.same s)
theorem TT.st {q:Addr}{us vs:List V}(x:TT H p l bs rows m h w)(hq:H q=some (.lst us))(n1:q≠l)(n2:q∉bs):TT (upd H q (.lst vs)) p l bs rows m h w:=
  ⟨⟨by rw [upd_ne (Ne.symm n1)];exact x.d.ob,x.d.lp,x.d.np,pmem x.d.ls fun b row hb e=>by
      show upd H q (.lst vs) b=some (.lst row)
      rw [upd_ne (show b≠q from fun z=>n2 (z▸hb))];exact e,x.d.len,x.d.h1,x.d.h16,x.d.w1,x.d.w8,x.d.row⟩,VtAt.kp x.vt (kp_upd hq),x.ml,x.ok⟩
theorem TT.one {b:Addr}{u:V}{v:Vl}(hl:H l=some (.lst [.ref b]))(hb:H b=some (.lst [u]))(hv:VvAt H u v)(ok:VlOk v)(n1:l≠p)(n2:b≠p):TT H p l [b] [[u]] [[v]] 1 1:=
  ⟨⟨hl,n1,by simpa using Ne.symm n2,.cons hb .nil,rfl,by decide,by decide,by decide,by decide,by simp⟩,.cons (.cons hv .nil) .nil,rfl,by
    intro r hr
    rw [List.mem_singleton.mp hr]
    exact ⟨rfl,fun v' h'=>by rw [List.mem_singleton.mp h'];exact ok⟩⟩
theorem TT.new {q:Addr}(x:TT H p l bs rows m h w)(hq:H q=none):q≠l∧q∉bs:=by
  refine ⟨(fun z=>by rw [z,x.d.ob] at hq;cases hq),fun z=>?_⟩
  obtain ⟨j,hj⟩:=List.getElem?_of_mem z
  obtain ⟨r,_,hb⟩:=paired_at x.d.ls hj
  have hb':H q=some (.lst r):=hb
  rw [hb'] at hq;cases hq
theorem TT.smd (x:TT H p l bs rows m h w)(s:SmD H H'):TT H' p l bs rows m h w:=
  ⟨⟨s _ _ x.d.ob rfl,x.d.lp,x.d.np,pmem x.d.ls fun b row _ e=>s _ _ e rfl,x.d.len,x.d.h1,x.d.h16,x.d.w1,x.d.w8,x.d.row⟩,VtAt.kp x.vt s.kp,x.ml,x.ok⟩
theorem TT.k2 {kvs:List (List Key×V)}(x:TT H p l bs rows m h w)(s:Keep2 p kn H H')(hk:H kn=some (.dT kvs))(kk:Kp H H'):TT H' p l bs rows m h w:=⟨x.d.k2 s hk,VtAt.kp x.vt kk,x.ml,x.ok⟩
theorem TT.rect (x:TT H p l bs rows m h w):Rect m w:=⟨fun z=>by have:=x.ml;have:=x.d.h1;rw [z] at *;simp at *;omega,x.d.w1,fun r hr=>(x.ok r hr).1⟩
theorem TT.of (x:LTab H p l bs rows m)(ml:m.length=h)(ok:Oks m w)(h1:1≤h)(h16:h≤16)(w1:1≤w)(w8:w≤8):TT H p l bs rows m h w:=
  ⟨⟨x.ob,x.lp,x.np,x.ls,(Paired.length x.vt).trans ml,h1,h16,w1,w8,fun r hr=>by
    obtain ⟨j,hj⟩:=List.getElem?_of_mem hr
    obtain ⟨mr,hmr,pv⟩:=paired_at x.vt hj
    rw [Paired.length pv];exact (ok mr (List.mem_of_getElem? hmr)).1⟩,x.vt,ml,ok⟩
theorem TT.at (x:TT H p l bs rows m h w)(j k:Nat):∃ b r,bs[j%h]?=some b∧H b=some (.lst r)∧r.length=w∧r[k%w]?=some (cy .non rows j k)∧VvAt H (cy .non rows j k) (cy .none m j k):=by
  have h1:=x.d.h1
  have w1:=x.d.w1
  have hj:j%h<h:=Nat.mod_lt _ (by omega)
  have bl:bs.length=h:=(Paired.length x.d.ls).trans x.d.len
  have hb:bs[j%h]?=some bs[j%h]:=List.getElem?_eq_getElem (by omega)
  obtain ⟨r,hr,hbr⟩:=paired_at x.d.ls hb
  have lr:=x.d.row r (List.mem_of_getElem? hr)
  have hk:k%w<r.length:=by rw [lr];exact Nat.mod_lt _ (by omega)
  refine ⟨_,r,hb,hbr,lr,?_,cy_paired x.vt x.rect j k⟩
  have wm:(rows.headD []).length=w:=(paired_rect x.vt x.rect).wd
  rw [List.getElem?_eq_getElem hk]
  unfold cy
  rw [wm,x.d.len,List.getD_eq_getElem?_getD (l:=rows),hr,Option.getD_some,List.getD_eq_getElem?_getD,List.getElem?_eq_getElem hk,Option.getD_some]
end
def due4 (ms:List Vl)(hm:Hm):List Vl:=[fltO ms (sumN (numsOf ms) hm),fltO ms (.num ((numsOf ms).length:Int) 1),fltO ms (endV (endF false (numsOf ms))),fltO ms (endV (endF true (numsOf ms)))]
def PnAt (H:Hp)(us:List V)(ns:List (Int×Int)):Prop:=Paired (fun u (n:Int×Int)=>∃ p,u=.ref p∧H p=some (.tup [vS "number",.int n.1,.int n.2])) us ns
theorem PnAt.kp {H H':Hp}{us:List V}{ns:List (Int×Int)}(h:PnAt H us ns)(s:Kp H H'):PnAt H' us ns:=Paired.imp' (fun _ _ ⟨p,e,x⟩=>⟨p,e,s _ _ x⟩) h
abbrev Tot (H:Hp)(q:Addr)(F:Int×Int):Prop:=H q=some (.tup [vS "number",.int (lowT F.1 F.2),.int (lowB F.1 F.2)])
def spDu4:Sp:=fun vs H Q _=>∃ (p l:Addr) (bs:List Addr) (rows:List (List V)) (m:List (List Vl)) (h w:Nat) (y:V) (hm:Hm) (β γ:Nat),vs=[.ref l,y]∧TT H p l bs rows m h w∧NsOk β γ (numsOf m.flatten)∧HmAt H y hm∧∀ (l':Addr) (us:List V) (H':Hp),H' l'=some (.lst us)→VsAt H' us (due4 m.flatten hm)→Same H H'→Q (.ref l') H'
theorem seq_cut {t u:TS}{D:Ends}{σ:St}{H:Hp}(J:St→Hp→Prop)(a:∀ N:St→Hp→Prop,(∀ σ' H',J σ' H'→N σ' H')→t { D with nx:=N } σ H)(rest:∀ σ' H',J σ' H'→u D σ' H'):tSeq t u D σ H:=a _ rest
theorem eq_nn:eqVl .none .none=true:=by decide +kernel
theorem eq_num {t b:Int}:eqVl (.num t b) .none=false:=by simp [eqVl,itm,eqL]
theorem tot_sz {β γ i:Nat}{ns:List (Int×Int)}(nok:NsOk β γ ns)(hi:i≤ns.length):0<(fsl (ns.take i)).2∧Sz 4000 (lowT (fsl (ns.take i)).1 (fsl (ns.take i)).2)∧Sz 4000 (lowB (fsl (ns.take i)).1 (fsl (ns.take i)).2)∧(lowB (fsl (ns.take i)).1 (fsl (ns.take i)).2).natAbs≤2 ^ (β*i):=by
  obtain ⟨n1,n2,n3⟩:=nok
  have sub:∀ n∈ns.take i,n∈ns:=fun n hn=>List.mem_of_mem_take hn
  have p:=fsl_pos (l:=ns.take i) fun n hn=>(n1 n (sub n hn)).1
  obtain ⟨q1,q2⟩:=fsl_sz (l:=ns.take i) fun n hn=>(n1 n (sub n hn)).2
  rw [List.length_take,Nat.min_eq_left hi] at q1 q2
  have b0:β*i≤β*ns.length:=Nat.mul_le_mul_left _ hi
  have b1:=Nat.le_trans (low_size_t (fsl (ns.take i)).1 (fsl (ns.take i)).2 (by omega)) q1
  have b2:=Nat.le_trans (low_size_b (fsl (ns.take i)).1 (fsl (ns.take i)).2 (by omega)) q2
  exact ⟨p,sz_of b1 (by omega) (by omega),sz_of (k:=1) (by rw [Nat.one_mul];exact b2) (by decide) (by omega),b2⟩
theorem endF_mem {b:Bool}{P:Int×Int→Prop}:∀ {l:List (Int×Int)} {n:Int×Int},(∀ x∈l,P x)→endF b l=some n→P n:=by
  have gen:∀ (l:List (Int×Int)) (o:Option (Int×Int)) (n:Int×Int),(∀ x∈l,P x)→(∀ x,o=some x→P x)→l.foldl (stepE b) o=some n→P n:=by
    intro l
    induction l with
    | nil=>intro o n _ ho h;exact ho n h
    | cons a t ih=>
      intro o n hl ho h
      rw [List.foldl_cons] at h
      refine ih _ n (fun x hx=>hl x (List.mem_cons_of_mem _ hx)) (fun x hx=>?_) h
      cases o with
      | none=>cases hx;exact hl a List.mem_cons_self
      | some y=>
        by_cases c:(if b=true then less2 y a else less2 a y)=true
        · rw [stepE_y c] at hx;cases hx;exact hl a List.mem_cons_self
        · rw [stepE_n c] at hx;cases hx;exact ho _ rfl
  intro l n hl h
  exact gen l none n hl (fun x hx=>by cases hx) h
theorem low_add {F:Int×Int}{t b:Int}(hF:0<F.2)(hb:0<b):lowT (lowT F.1 F.2*b+t*lowB F.1 F.2) (lowB F.1 F.2*b)=lowT (add2 F (t,b)).1 (add2 F (t,b)).2∧lowB (lowT F.1 F.2*b+t*lowB F.1 F.2) (lowB F.1 F.2*b)=lowB (add2 F (t,b)).1 (add2 F (t,b)).2:=by
  have h1:=lowB_pos (t:=F.1) (b:=F.2) (by omega)
  have n1:=Int.mul_pos h1 hb
  have n2:=Int.mul_pos hF hb
  have cr:=low_cross F.1 F.2
  refine low_eq (by omega) (by show F.2*b≠0;omega) ?_
  show (lowT F.1 F.2*b+t*lowB F.1 F.2)*(F.2*b)=(F.1*b+t*F.2)*(lowB F.1 F.2*b)
  generalize lowT F.1 F.2=x at *
  generalize lowB F.1 F.2=y at *
  calc (x*b+t*y)*(F.2*b)=(x*F.2)*(b*b)+t*y*F.2*b:=by rw [Int.add_mul];congr 1 <;> ac_rfl
    _=(F.1*y)*(b*b)+t*y*F.2*b:=by rw [cr]
    _=(F.1*b+t*F.2)*(y*b):=by rw [Int.add_mul];congr 1 <;> ac_rfl
theorem Env8.k2 {K:PySem.W.Frag}{S:Addr×List Int}{PR PL p kn:Addr}{H H':Hp}{n n':Nat}{kvs:List (List Key×V)}(h:Env8 K S PR PL H p n)(hk:H kn=some (.dT kvs))(pen:PenM K S H' p n')(kp:Keep2 p kn H H'):Env8 K S PR PL H' p n':=by
  obtain ⟨vs,e⟩:=h.pen.ob
  have sf:SmF H H':=fun b o e' d=>kp b o (fun z=>by subst z;rw [e] at e';cases e';cases d) (fun z=>by subst z;rw [hk] at e';cases e';cases d) e'
  exact ⟨pen,tab_smf h.tR sf,tab_smf h.tL sf⟩
theorem Env8.kp2 {K:PySem.W.Frag}{S:Addr×List Int}{PR PL p kn:Addr}{H H':Hp}{n:Nat}{kvs:List (List Key×V)}(h:Env8 K S PR PL H p n)(hk:H kn=some (.dT kvs))(kp:Keep2 p kn H H'):Kp H H':=by
  obtain ⟨vs,e⟩:=h.pen.ob
  exact Keep2.kp kp e hk
theorem pi_listc {X:Cx}{scope:Scope}{cl:List (Str×Addr)}{C:Addr}{N:List Str}{s₀:Shared}{H₀:Hp}{ex:List Addr}{pn:List (Addr×Obj)}{tg l:Expr}{tl:TE}(hl:PE (cxComp X scope cl C N s₀ H₀ ex pn) l tl):PI (cxComp X scope cl C N s₀ H₀ ex pn) tg l (iList X.K tl):=pi_list hl
theorem ixcc_list {X:Cx}{scope:Scope}{cl:List (Str×Addr)}{C:Addr}{N:List Str}{s₀:Shared}{H₀:Hp}{ex:List Addr}{pn:List (Addr×Obj)}{scope':Scope}{cl':List (Str×Addr)}{C':Addr}{N':List Str}{s₀':Shared}{H₀':Hp}{ex':List Addr}{pn':List (Addr×Obj)}:IxR (cxComp (cxComp X scope cl C N s₀ H₀ ex pn) scope' cl' C' N' s₀' H₀' ex' pn') (rIxL X.K):=ix_list
theorem ixcc_tup {X:Cx}{scope:Scope}{cl:List (Str×Addr)}{C:Addr}{N:List Str}{s₀:Shared}{H₀:Hp}{ex:List Addr}{pn:List (Addr×Obj)}{scope':Scope}{cl':List (Str×Addr)}{C':Addr}{N':List Str}{s₀':Shared}{H₀':Hp}{ex':List Addr}{pn':List (Addr×Obj)}:IxR (cxComp (cxComp X scope cl C N s₀ H₀ ex pn) scope' cl' C' N' s₀' H₀' ex' pn') (rIxT X.K):=ix_tup
theorem op_incc {X:Cx}{scope:Scope}{cl:List (Str×Addr)}{C:Addr}{N:List Str}{s₀:Shared}{H₀:Hp}{ex:List Addr}{pn:List (Addr×Obj)}{scope':Scope}{cl':List (Str×Addr)}{C':Addr}{N':List Str}{s₀':Shared}{H₀':Hp}{ex':List Addr}{pn':List (Addr×Obj)}:OpR (cxComp (cxComp X scope cl C N s₀ H₀ ex pn) scope' cl' C' N' s₀' H₀' ex' pn') (compareOp .In) (rIn X.K false):=op_in_seq
theorem TT.rd {K:PySem.W.Frag}{S:Addr×List Int}{H0 H:Hp}{p l:Addr}{n h w:Nat}{bs:List Addr}{rows:List (List V)}{f:Nat→Nat→Vl}(x:RD H0 H l bs rows (tabC f h w))(pen:PenM K S H0 p n)(h1:1≤h)(h16:h≤16)(w1:1≤w)(w8:w≤8)(ok:∀ j k,VlOk (f j k)):TT H p l bs rows (tabC f h w) h w:=by
  obtain ⟨_,eo⟩:=pen.ob
  have rc:Rect (tabC f h w) w:=tabC_rect h1 w1
  refine ⟨⟨x.b.ob,fun z=>?_,fun z=>?_,x.b.ls,x.b.len.trans tabC_len,h1,h16,w1,w8,fun r hr=>?_⟩,x.b.vt,tabC_len,fun r hr=>⟨rc.row r hr,fun v hv=>?_⟩⟩
  · have:=x.fl;rw [z,eo] at this;cases this
  · have:=x.fb _ z;rw [eo] at this;cases this
  · obtain ⟨j,hj⟩:=List.getElem?_of_mem hr
    obtain ⟨mr,hmr,pv⟩:=paired_at x.b.vt hj
    rw [Paired.length pv];exact rc.row mr (List.mem_of_getElem? hmr)
  · unfold tabC at hr
    obtain ⟨j,_,rfl⟩:=List.mem_map.mp hr
    obtain ⟨k,_,rfl⟩:=List.mem_map.mp hv
    exact ok j k
def SmV (β:Nat)(v:Vl):Prop:=VlOk v∧∀ n,numO v=some n→n.1.natAbs≤2 ^ β∧n.2.natAbs≤2 ^ β
theorem smv100 {v:Vl}(h:VlOk v):SmV 100 v:=by
  refine ⟨h,fun n hn=>?_⟩
  cases v with
  | num t b=>
    cases hn
    obtain ⟨_,h1,h2⟩:=h
    have e30:(10:Nat) ^ 30≤2 ^ 100:=by decide
    exact ⟨by show t.natAbs≤_;omega,by show b.natAbs≤_;omega⟩
  | none=>cases hn
  | txt z=>cases hn
  | tru b=>cases hn
  | flt w z r c=>cases hn
theorem smv_ns {β:Nat}{ms:List Vl}(h:∀ v∈ms,SmV β v)(l:ms.length≤128)(b:β*ms.length+β≤3000):NsOk β β (numsOf ms):=by
  have hl:(numsOf ms).length≤ms.length:=List.length_filterMap_le _ _
  have:=Nat.mul_le_mul_left β hl
  refine ⟨fun n hn=>?_,by omega,by omega⟩
  obtain ⟨ok,sm⟩:=h _ (nums_mem hn)
  exact ⟨ok.1.pos,sm n rfl⟩
def brM (zs:List V)(v:Vl):Vl:=if inV (.str (tag v)) zs=true then .none else v
theorem brM_sm {β:Nat}{zs:List V}{v:Vl}(h:SmV β v):SmV β (brM zs v):=by
  unfold brM
  split
  · exact ⟨trivial,fun n hn=>by cases hn⟩
  · exact h
theorem due4_eq {ms:List Vl}{hm:Hm}:due4 ms hm=W4.map fun z=>fn1 z ms hm:=by
  show _=[fn1 (Str.ofString "sum") ms hm,fn1 (Str.ofString "count") ms hm,fn1 (Str.ofString "least") ms hm,fn1 (Str.ofString "most") ms hm]
  unfold due4 fn1
  rw [if_pos rfl,if_neg (by decide +kernel),if_pos rfl,if_neg (by decide +kernel),if_neg (by decide +kernel),if_neg (by decide +kernel),if_neg (by decide +kernel),show decide (Str.ofString "least"=Str.ofString "most")=false by decide +kernel,show decide (Str.ofString "most"=Str.ofString "most")=true by decide +kernel]
theorem W4_wds:∀ z∈W4,(z,1)∈WDS:=by decide +kernel
theorem okC7 {dom:Str→Int→Int→Prop}{g:Str→Int→Int→Vl}{hm:Hm}{z:Str}{a:Lf}{f:Fm}(hz:z∈W4)(ha:okl2 dom g a)(nk:∃ β γ,NsOk β γ (numsOf (lfT g a).flatten))(hf:f∈alF (.nd (.wd z) [.lf a])):okF7 dom g hm f:=by
  have hf':f=.lf a∨f=.nd (.wd z) [.lf a]:=by simpa [alF,alL] using hf
  rcases hf' with rfl | rfl
  · exact .inl ⟨_,rfl,ha⟩
  · exact .inr ⟨_,_,rfl,hz,ha,nk⟩
end Fs
open PySem L2 Mx Fs
namespace Fs
def top (i:Nat):Stmt:=PySem.Challenge.pw_freshsheet_k32_sums_counts_ends.main.body.getD i (.Pass ⟨0,0,0,0⟩)
abbrev s_is_whole:Stmt:=top 4
abbrev s_greatest_divisor:Stmt:=top 5
abbrev s_is_number:Stmt:=top 6
abbrev s_number_of:Stmt:=top 7
abbrev s_is_less:Stmt:=top 12
abbrev s_has_few_figures:Stmt:=top 21
abbrev s_is_short_number:Stmt:=top 22
abbrev s_number_value:Stmt:=top 29
abbrev s_values_in:Stmt:=top 39
abbrev s_first_fault:Stmt:=top 43
abbrev s_numbers_among:Stmt:=top 44
abbrev s_sum_of_all:Stmt:=top 45
abbrev s_sum_among:Stmt:=top 46
abbrev s_summed_up:Stmt:=top 47
abbrev s_counted_up:Stmt:=top 48
abbrev s_ends_of:Stmt:=top 49
abbrev s_table_in_rows:Stmt:=top 40
abbrev s_cells_of:Stmt:=top 16
abbrev s_table_of_one:Stmt:=top 37
abbrev s_parts_of:Stmt:=top 55
abbrev s_block_led_to:Stmt:=top 56
abbrev s_all_parts:Stmt:=top 57
abbrev s_told_by_parts:Stmt:=top 58
abbrev s_block_shape:Stmt:=top 61
abbrev s_shown_table:Stmt:=top 64
abbrev s_leaf_table:Stmt:=top 65
abbrev s_single_value:Stmt:=top 70
abbrev s_table_by_parts:Stmt:=top 71
abbrev s_reckoned:Stmt:=top 72
abbrev s__law_lowest:Stmt:=top 77
abbrev s__law_cell_at:Stmt:=top 74
abbrev s__law_pen:Stmt:=top 75
abbrev s__law_take:Stmt:=top 76
abbrev s__law_drawn_cell:Stmt:=top 78
abbrev s__law_great_value:Stmt:=top 79
abbrev s__law_drawn_value:Stmt:=top 80
abbrev s__law_drawn_table:Stmt:=top 81
abbrev s__law_laid:Stmt:=top 82
abbrev s__law_put_down:Stmt:=top 83
abbrev s__law_tabled:Stmt:=top 85
abbrev s__law_typed_alike:Stmt:=top 84
abbrev s__law_lessened:Stmt:=top 86
abbrev s__law_dues:Stmt:=top 87
abbrev s_law:Stmt:=top 88
theorem len_1 {α:Type}{us:List α}(h:us.length=1):∃ a0,us=[a0]:=match us,h with | [a0],_=>⟨a0,rfl⟩
theorem len_2 {α:Type}{us:List α}(h:us.length=2):∃ a0 a1,us=[a0,a1]:=match us,h with | [a0,a1],_=>⟨a0,a1,rfl⟩
theorem len_3 {α:Type}{us:List α}(h:us.length=3):∃ a0 a1 a2,us=[a0,a1,a2]:=match us,h with | [a0,a1,a2],_=>⟨a0,a1,a2,rfl⟩
theorem len_4 {α:Type}{us:List α}(h:us.length=4):∃ a0 a1 a2 a3,us=[a0,a1,a2,a3]:=match us,h with | [a0,a1,a2,a3],_=>⟨a0,a1,a2,a3,rfl⟩
theorem len_5 {α:Type}{us:List α}(h:us.length=5):∃ a0 a1 a2 a3 a4,us=[a0,a1,a2,a3,a4]:=match us,h with | [a0,a1,a2,a3,a4],_=>⟨a0,a1,a2,a3,a4,rfl⟩
set_option genInjectivity false in
set_option genSizeOf false in
structure Ad where
  f_is_whole:Addr
  d_is_whole:FuncData
  f_greatest_divisor:Addr
  d_greatest_divisor:FuncData
  f_is_number:Addr
  d_is_number:FuncData
  f_number_of:Addr
  d_number_of:FuncData
  f_is_less:Addr
  d_is_less:FuncData
  f_has_few_figures:Addr
  d_has_few_figures:FuncData
  f_is_short_number:Addr
  d_is_short_number:FuncData
  f_number_value:Addr
  d_number_value:FuncData
  f_values_in:Addr
  d_values_in:FuncData
  f_first_fault:Addr
  d_first_fault:FuncData
  f_numbers_among:Addr
  d_numbers_among:FuncData
  f_sum_of_all:Addr
  d_sum_of_all:FuncData
  f_sum_among:Addr
  d_sum_among:FuncData
  f_summed_up:Addr
  d_summed_up:FuncData
  f_counted_up:Addr
  d_counted_up:FuncData
  f_ends_of:Addr
  d_ends_of:FuncData
  f_table_in_rows:Addr
  d_table_in_rows:FuncData
  f_cells_of:Addr
  d_cells_of:FuncData
  f_table_of_one:Addr
  d_table_of_one:FuncData
  f_parts_of:Addr
  d_parts_of:FuncData
  f_block_led_to:Addr
  d_block_led_to:FuncData
  f_all_parts:Addr
  d_all_parts:FuncData
  f_told_by_parts:Addr
  d_told_by_parts:FuncData
  f_block_shape:Addr
  d_block_shape:FuncData
  f_shown_table:Addr
  d_shown_table:FuncData
  f_leaf_table:Addr
  d_leaf_table:FuncData
  f_single_value:Addr
  d_single_value:FuncData
  f_table_by_parts:Addr
  d_table_by_parts:FuncData
  f_reckoned:Addr
  d_reckoned:FuncData
  f__law_lowest:Addr
  d__law_lowest:FuncData
  f__law_cell_at:Addr
  d__law_cell_at:FuncData
  f__law_pen:Addr
  d__law_pen:FuncData
  f__law_take:Addr
  d__law_take:FuncData
  f__law_drawn_cell:Addr
  d__law_drawn_cell:FuncData
  f__law_great_value:Addr
  d__law_great_value:FuncData
  f__law_drawn_value:Addr
  d__law_drawn_value:FuncData
  f__law_drawn_table:Addr
  d__law_drawn_table:FuncData
  f__law_laid:Addr
  d__law_laid:FuncData
  f__law_put_down:Addr
  d__law_put_down:FuncData
  f__law_tabled:Addr
  d__law_tabled:FuncData
  f__law_typed_alike:Addr
  d__law_typed_alike:FuncData
  f__law_lessened:Addr
  d__law_lessened:FuncData
  f__law_dues:Addr
  d__law_dues:FuncData
  f_law:Addr
  d_law:FuncData
  c_reckoned:Addr
  P_reckoned:Addr
  c_law:Addr
  P_law:Addr
structure Txt (w:World)(K:PySem.W.Frag)(mg:Str→Option Value)(t:Ad):Prop where
  c_is_whole:Df K mg "is_whole" s_is_whole ["thing"] t.f_is_whole t.d_is_whole
  c_greatest_divisor:Df K mg "greatest_divisor" s_greatest_divisor ["one","other"] t.f_greatest_divisor t.d_greatest_divisor
  c_is_number:Df K mg "is_number" s_is_number ["top","bottom"] t.f_is_number t.d_is_number
  c_number_of:Df K mg "number_of" s_number_of ["top","bottom"] t.f_number_of t.d_number_of
  c_is_less:Df K mg "is_less" s_is_less ["a","b"] t.f_is_less t.d_is_less
  c_has_few_figures:Df K mg "has_few_figures" s_has_few_figures ["thing"] t.f_has_few_figures t.d_has_few_figures
  c_is_short_number:Df K mg "is_short_number" s_is_short_number ["top","bottom"] t.f_is_short_number t.d_is_short_number
  c_number_value:Df K mg "number_value" s_number_value ["number","cell"] t.f_number_value t.d_number_value
  c_values_in:Df K mg "values_in" s_values_in ["table"] t.f_values_in t.d_values_in
  c_first_fault:Df K mg "first_fault" s_first_fault ["values"] t.f_first_fault t.d_first_fault
  c_numbers_among:Df K mg "numbers_among" s_numbers_among ["values"] t.f_numbers_among t.d_numbers_among
  c_sum_of_all:Df K mg "sum_of_all" s_sum_of_all ["numbers"] t.f_sum_of_all t.d_sum_of_all
  c_sum_among:Df K mg "sum_among" s_sum_among ["values","cell"] t.f_sum_among t.d_sum_among
  c_summed_up:Df K mg "summed_up" s_summed_up ["table","cell"] t.f_summed_up t.d_summed_up
  c_counted_up:Df K mg "counted_up" s_counted_up ["table"] t.f_counted_up t.d_counted_up
  c_ends_of:Df K mg "ends_of" s_ends_of ["table","most"] t.f_ends_of t.d_ends_of
  c_table_in_rows:Df K mg "table_in_rows" s_table_in_rows ["values","wide"] t.f_table_in_rows t.d_table_in_rows
  c_cells_of:Df K mg "cells_of" s_cells_of ["block"] t.f_cells_of t.d_cells_of
  c_table_of_one:Df K mg "table_of_one" s_table_of_one ["value"] t.f_table_of_one t.d_table_of_one
  c_parts_of:Df K mg "parts_of" s_parts_of ["formula"] t.f_parts_of t.d_parts_of
  c_block_led_to:Df K mg "block_led_to" s_block_led_to ["reference"] t.f_block_led_to t.d_block_led_to
  c_all_parts:Df K mg "all_parts" s_all_parts ["formula"] t.f_all_parts t.d_all_parts
  c_told_by_parts:Df K mg "told_by_parts" s_told_by_parts ["row","tell_one"] t.f_told_by_parts t.d_told_by_parts
  c_block_shape:Df K mg "block_shape" s_block_shape ["block"] t.f_block_shape t.d_block_shape
  c_shown_table:Df K mg "shown_table" s_shown_table ["block","shows"] t.f_shown_table t.d_shown_table
  c_leaf_table:Df K mg "leaf_table" s_leaf_table ["leaf","cell","shows"] t.f_leaf_table t.d_leaf_table
  c_single_value:Df K mg "single_value" s_single_value ["formula","tables","cell","outer"] t.f_single_value t.d_single_value
  c_table_by_parts:Df K mg "table_by_parts" s_table_by_parts ["formula","tables","cell","shows","outer"] t.f_table_by_parts t.d_table_by_parts
  c_reckoned:Df K mg "reckoned" s_reckoned ["opened","cell","shows","outer"] t.f_reckoned t.d_reckoned
  c__law_lowest:Df K mg "_law_lowest" s__law_lowest ["_law_top","_law_bottom"] t.f__law_lowest t.d__law_lowest
  c__law_cell_at:Df K mg "_law_cell_at" s__law_cell_at ["_law_script","_law_k"] t.f__law_cell_at t.d__law_cell_at
  c__law_pen:Df K mg "_law_pen" s__law_pen ["_law_script"] t.f__law_pen t.d__law_pen
  c__law_take:Df K mg "_law_take" s__law_take ["_law_pen_here","_law_most"] t.f__law_take t.d__law_take
  c__law_drawn_cell:Df K mg "_law_drawn_cell" s__law_drawn_cell ["_law_pen_here"] t.f__law_drawn_cell t.d__law_drawn_cell
  c__law_great_value:Df K mg "_law_great_value" s__law_great_value ["_law_pen_here"] t.f__law_great_value t.d__law_great_value
  c__law_drawn_value:Df K mg "_law_drawn_value" s__law_drawn_value ["_law_pen_here"] t.f__law_drawn_value t.d__law_drawn_value
  c__law_drawn_table:Df K mg "_law_drawn_table" s__law_drawn_table ["_law_pen_here","_law_high","_law_wide"] t.f__law_drawn_table t.d__law_drawn_table
  c__law_laid:Df K mg "_law_laid" s__law_laid ["_law_known","_law_sheet","_law_table","_law_high","_law_wide"] t.f__law_laid t.d__law_laid
  c__law_put_down:Df K mg "_law_put_down" s__law_put_down ["_law_pen_here","_law_known","_law_sheet","_law_table"] t.f__law_put_down t.d__law_put_down
  c__law_tabled:Df K mg "_law_tabled" s__law_tabled ["_law_rows"] t.f__law_tabled t.d__law_tabled
  c__law_typed_alike:Df K mg "_law_typed_alike" s__law_typed_alike ["_law_told","_law_due"] t.f__law_typed_alike t.d__law_typed_alike
  c__law_lessened:Df K mg "_law_lessened" s__law_lessened ["_law_one"] t.f__law_lessened t.d__law_lessened
  c__law_dues:Df K mg "_law_dues" s__law_dues ["_law_table","_law_home"] t.f__law_dues t.d__law_dues
  c_law:Df K mg "law" s_law ["_law_script"] t.f_law t.d_law
  len:mg "len"=none
  range:mg "range"=none
  isinstance:mg "isinstance"=none
  int:mg "int"=none
  bool:mg "bool"=none
  str:mg "str"=none
  tuple:mg "tuple"=none
  list:mg "list"=none
  reversed:mg "reversed"=none
  min:mg "min"=none
  all:mg "all"=none
  abs:mg "abs"=none
  enumerate:mg "enumerate"=none
  zip:mg "zip"=none
  max:mg "max"=none
  v_PART_PLACES:GDit w K mg "PART_PLACES" PPK
  v_GREATEST_WHOLE:GInt mg "GREATEST_WHOLE" 999999999999999999999999999999
  kist:PySem.W.kitOne K (.type "str") (.type "tuple")=some false
  kiit:PySem.W.kitOne K (.type "int") (.type "tuple")=some false
  kib:PySem.W.kitOne K (.type "int") (.type "bool")=some false
  ki_bt:PySem.W.kitOne K (.type "bool") (.type "tuple")=some false
  ki_sb:PySem.W.kitOne K (.type "str") (.type "bool")=some false
  ki_si:PySem.W.kitOne K (.type "str") (.type "int")=some false
  kc_reckoned:t.d_reckoned.code=.ref t.c_reckoned
  kc_law:t.d_law.code=.ref t.c_law
  ne_reckoned_law:t.P_reckoned≠t.P_law
seal PE PT PW PA PS PSs PI PG PGs PF PO PJ OpR CallR IxR SlR
section
variable {P:Program}{w:World}{K:PySem.W.Frag}{mg:Str→Option Value}{base:Heap}{t:Ad}
theorem scis_whole:FnScope ["thing"] ["thing"] (defScope s_is_whole):=⟨rfl,rfl,rfl,by decide +kernel,rfl,by decide +kernel,by decide +kernel⟩
theorem ok_is_whole (T:Txt w K mg t):FnOk P w K mg base CX0 1 t.f_is_whole t.d_is_whole ["thing"] spWhole:=by
  have D:=T.c_is_whole
  refine D.fn.ok scis_whole (fun vs H Q E h=>?_) (fun cdv A outer s H vs Q E hr h=>?_)
  · obtain ⟨i,rfl,_⟩:=h
    rfl
  · obtain ⟨i,rfl,k⟩:=h
    refine ⟨_,((pss_one (ps_ret (pe_and (pe_callB call_isinst (by rfl) T.isinstance boot_isinstance (pa_consN (pv 0) (pa_consN (pe_typ T.int boot_int) pa_nil))) (pe_one (pe_not (pe_callB call_isinst (by rfl) T.isinstance boot_isinstance (pa_consN (pv 0) (pa_consN (pe_typ T.bool boot_bool) pa_nil))))))))),?_⟩
    refine ⟨_,rfl,_,_,_,_,true,rfl,.int _,rfl,(fun _=>.inr trivial),kit_tt _ _,true,rfl,iteT ?_⟩
    exact ⟨_,rfl,_,_,_,_,false,rfl,.int _,rfl,(fun _=>.inr trivial),T.kib,false,rfl,k⟩
theorem scgreatest_divisor:FnScope ["one","other","greater","lesser","rest"] ["one","other"] (defScope s_greatest_divisor):=⟨rfl,rfl,rfl,by decide +kernel,rfl,by decide +kernel,by decide +kernel⟩
theorem ok_greatest_divisor (T:Txt w K mg t):FnOk P w K mg base CX0 1 t.f_greatest_divisor t.d_greatest_divisor ["one","other"] spGd:=by
  have D:=T.c_greatest_divisor
  refine D.fn.ok scgreatest_divisor (fun vs H Q E h=>?_) (fun cdv A outer s H vs Q E hr h=>?_)
  · obtain ⟨a,b,rfl,_⟩:=h
    rfl
  · obtain ⟨a,b,rfl,k⟩:=h
    refine ⟨_,((pss_cons (ps_set (i:=2) scgreatest_divisor.nd rfl (Or.inl rfl) (pe_callB call_abs (by rfl) T.abs boot_abs (pa_consN (pv 0) pa_nil)))
      (pss_cons (ps_set (i:=3) scgreatest_divisor.nd rfl (Or.inl rfl) (pe_callB call_abs (by rfl) T.abs boot_abs (pa_consN (pv 1) pa_nil)))
      (pss_cons (ps_while PassesOwn.never (pt_cmpR op_ne (pv 3) pe_int (nomark _)) (pss_cons (ps_set (i:=4) scgreatest_divisor.nd rfl (Or.inl rfl) (pe_op op_mod (pv 2) (pv 3)))
      (pss_cons (ps_set (i:=2) scgreatest_divisor.nd rfl (Or.inl rfl) (pv 3))
      (pss_one (ps_set (i:=3) scgreatest_divisor.nd rfl (Or.inl rfl) (pv 4))))))
      (pss_one (ps_ret (pv 2))))))),?_⟩
    refine ⟨_,rfl,a,rfl,_,rfl,b,rfl,?_⟩
    refine while_by (fun σ H'=>H'=H∧∃ (m n:Nat) (r:Option V),σ=[some (.int a),some (.int b),some (.int m),some (.int n),r]∧Nat.gcd m n=Nat.gcd a.natAbs b.natAbs)
      (fun σ _=>lastN σ) ⟨rfl,a.natAbs,b.natAbs,none,by rw [← abs_if a,← abs_if b];rfl,rfl⟩ ?_ (fun σ H Q Q' hq ⟨v,e,z,c,e2,q⟩=>⟨v,e,z,c,e2,hq _ _ q⟩)
    rintro σ H' ⟨rfl,m,n,r,rfl,hg⟩
    refine ⟨_,rfl,rfl,_,rfl,?_⟩
    refine ite2 (fun hc=>?_) (fun hc=>?_)
    · have hn:n≠0:=by intro z;subst z;simp at hc
      refine ⟨_,rfl,_,rfl,_,_,rfl,rfl,(by show (0:Int)<(n:Int);omega),_,rfl,_,rfl,?_⟩
      refine ⟨⟨rfl,n,m%n,some (.int ((m:Int)%(n:Int))),?_,by rw [gcd_turn];exact hg⟩,?_⟩
      · rw [Int.natCast_emod];rfl
      · show ((m:Int)%(n:Int)).toNat<((n:Int)).toNat
        have h1:=Int.emod_lt_of_pos (m:Int) (show (0:Int)<n by omega)
        have h2:=Int.emod_nonneg (m:Int) (show (n:Int)≠0 by omega)
        omega
    · have hn:n=0:=by
        rcases Nat.eq_zero_or_pos n with z | z
        · exact z
        · exfalso;apply hc;simp;omega
      subst hn
      rw [Nat.gcd_zero_right] at hg
      rw [← hg] at k
      exact ⟨_,rfl,k⟩
theorem scis_number:FnScope ["top","bottom"] ["top","bottom"] (defScope s_is_number):=⟨rfl,rfl,rfl,by decide +kernel,rfl,by decide +kernel,by decide +kernel⟩
theorem ok_is_number (T:Txt w K mg t):FnOk P w K mg base CX0 2 t.f_is_number t.d_is_number ["top","bottom"] spIsN:=by
  have D:=T.c_is_number
  refine D.fn.ok scis_number (fun vs H Q E h=>?_) (fun cdv A outer s H vs Q E hr h=>?_)
  · obtain ⟨t,b,rfl,_⟩:=h
    rfl
  · obtain ⟨t,b,rfl,lo,k⟩:=h
    have hu:=hr.units0
    have hu1:=hu_of hr
    refine ⟨_,((pss_one (ps_ret (pe_and (pe_cmpR op_ge (pv 1) pe_int (nomark _)) (pe_one (pe_cmpR op_eq (pe_cl T.c_greatest_divisor (ok_greatest_divisor T) (hr.mono (by decide)) (pa_consN (pv 0) (pa_consN (pv 1) pa_nil))) pe_int (nomark _))))))),?_⟩
    have hp:=lo.pos
    refine ⟨_,rfl,_,_,rfl,rfl,true,(by simp;omega),iteT ?_⟩
    exact ⟨_,rfl,_,rfl,t,b,rfl,rfl,rtv (eqI (by rw [lo.cop];rfl)) k⟩
theorem scnumber_of:FnScope ["top","bottom","divisor"] ["top","bottom"] (defScope s_number_of):=⟨rfl,rfl,rfl,by decide +kernel,rfl,by decide +kernel,by decide +kernel⟩
theorem ok_number_of (T:Txt w K mg t):FnOk P w K mg base CX0 2 t.f_number_of t.d_number_of ["top","bottom"] spLow:=by
  have D:=T.c_number_of
  refine D.fn.ok scnumber_of (fun vs H Q E h=>?_) (fun cdv A outer s H vs Q E hr h=>?_)
  · obtain ⟨t,b,rfl,_⟩:=h
    rfl
  · obtain ⟨t,b,rfl,hb,hz,k⟩:=h
    refine ⟨_,((pss_cons (ps_if (pt_cmpR op_eq (pv 1) pe_int (nomark _)) (pss_one ps_never) pss_nil)
      (pss_cons (ps_set (i:=2) scnumber_of.nd rfl (Or.inl rfl) (pe_cl T.c_greatest_divisor (ok_greatest_divisor T) (hr.mono (by decide)) (pa_consN (pv 0) (pa_consN (pv 1) pa_nil))))
      (pss_cons (ps_if (pt_cmpR op_lt (pv 1) pe_int (nomark _)) (pss_one (ps_set (i:=2) scnumber_of.nd rfl (Or.inl rfl) (pe_un un_neg (pv 2)))) pss_nil)
      (pss_one (ps_ret (pe_tup (pa_consB (pe_op op_fdivW (pv 0) (pv 2)) (pa_consB (pe_op op_fdivW (pv 1) (pv 2)) pa_nil))))))))),?_⟩
    refine ⟨_,rfl,rfl,_,rfl,?_⟩
    refine ite2 (fun hc=>absurd (by simpa using hc) hb) (fun _=>?_)
    refine ⟨_,rfl,_,rfl,t,b,rfl,?_⟩
    refine ⟨_,rfl,_,_,rfl,rfl,_,rfl,?_⟩
    have h0:=dv_ne (t:=t) hb
    have h1:=sz_dv (t:=t) hb hz
    unfold lowT lowB at k
    refine ite2 (fun hc=>?_) (fun hc=>?_)
    · have hc':b<0:=by simpa using hc
      have e:dv t b = -((Nat.gcd t.natAbs b.natAbs:Nat):Int):=if_pos hc'
      rw [e] at k h0 h1
      exact ⟨_,rfl,_,rfl,_,rfl,_,rfl,_,_,rfl,rfl,⟨h0,h1⟩,_,rfl,_,rfl,_,_,rfl,rfl,⟨h0,h1⟩,two_le,k⟩
    · have hc':¬ b<0:=by simpa using hc
      have e:dv t b=((Nat.gcd t.natAbs b.natAbs:Nat):Int):=if_neg hc'
      rw [e] at k h0 h1
      exact ⟨_,rfl,_,rfl,_,_,rfl,rfl,⟨h0,h1⟩,_,rfl,_,rfl,_,_,rfl,rfl,⟨h0,h1⟩,two_le,k⟩
theorem scis_less:FnScope ["a","b"] ["a","b"] (defScope s_is_less):=⟨rfl,rfl,rfl,by decide +kernel,rfl,by decide +kernel,by decide +kernel⟩
theorem ok_is_less (T:Txt w K mg t):FnOk P w K mg base CX0 1 t.f_is_less t.d_is_less ["a","b"] spLess:=by
  have D:=T.c_is_less
  refine D.fn.ok scis_less (fun vs H Q E h=>?_) (fun cdv A outer s H vs Q E hr h=>?_)
  · obtain ⟨p,q,a,b,c,d,m,n,rfl,_⟩:=h
    rfl
  · obtain ⟨p,q,a,b,c,d,m,n,rfl,hp,hq,hmn,k⟩:=h
    refine ⟨_,((pss_one (ps_ret (pe_cmpR op_lt (pe_op op_mulW (pe_ix ix_tup (pv 0) pe_int (fun _ _=>rfl)) (pe_ix ix_tup (pv 1) pe_int (fun _ _=>rfl))) (pe_op op_mulW (pe_ix ix_tup (pv 1) pe_int (fun _ _=>rfl)) (pe_ix ix_tup (pv 0) pe_int (fun _ _=>rfl))) (nomark _))))),?_⟩
    exact ⟨_,rfl,p,_,_,_,rfl,rfl,SqT.of hp.ob,rfl,_,rfl,q,_,_,_,rfl,rfl,SqT.of hq.ob,rfl,_,_,rfl,rfl,⟨hp.sx.mono (by omega),hq.sy.mono (by omega)⟩,_,rfl,q,_,_,_,rfl,rfl,SqT.of hq.ob,rfl,_,rfl,p,_,_,_,rfl,rfl,SqT.of hp.ob,rfl,_,_,rfl,rfl,⟨hq.sx.mono (by omega),hp.sy.mono (by omega)⟩,_,_,rfl,rfl,k⟩
theorem schas_few_figures:FnScope ["thing"] ["thing"] (defScope s_has_few_figures):=⟨rfl,rfl,rfl,by decide +kernel,rfl,by decide +kernel,by decide +kernel⟩
theorem ok_has_few_figures (T:Txt w K mg t):FnOk P w K mg base CX0 2 t.f_has_few_figures t.d_has_few_figures ["thing"] spFewB:=by
  have D:=T.c_has_few_figures
  refine D.fn.ok schas_few_figures (fun vs H Q E h=>?_) (fun cdv A outer s H vs Q E hr h=>?_)
  · obtain ⟨i,rfl,_⟩:=h
    rfl
  · obtain ⟨i,rfl,k⟩:=h
    have hu:=hr.units0
    have hu1:=hu_of hr
    refine ⟨_,((pss_one (ps_ret (pe_and (pe_cl T.c_is_whole (ok_is_whole T) (hr.mono (by decide)) (pa_consN (pv 0) pa_nil)) (pe_one (pe_cmpR op_le (pe_callB call_abs (by rfl) T.abs boot_abs (pa_consN (pv 0) pa_nil)) (pe_gint T.v_GREATEST_WHOLE) (nomark _))))))),?_⟩
    refine ⟨_,rfl,i,rfl,true,rfl,iteT ?_⟩
    exact ⟨_,rfl,i,rfl,_,_,rfl,rfl,k⟩
theorem scis_short_number:FnScope ["top","bottom"] ["top","bottom"] (defScope s_is_short_number):=⟨rfl,rfl,rfl,by decide +kernel,rfl,by decide +kernel,by decide +kernel⟩
theorem ok_is_short_number (T:Txt w K mg t):FnOk P w K mg base CX0 3 t.f_is_short_number t.d_is_short_number ["top","bottom"] spShB:=by
  have D:=T.c_is_short_number
  refine D.fn.ok scis_short_number (fun vs H Q E h=>?_) (fun cdv A outer s H vs Q E hr h=>?_)
  · obtain ⟨t_,b,rfl,_⟩:=h
    rfl
  · obtain ⟨t_,b,rfl,low,k⟩:=h
    have hu:=hr.units0
    have hu1:=hu_of hr
    refine ⟨_,((pss_one (ps_ret (pe_and (pe_cl T.c_has_few_figures (ok_has_few_figures T) (hr.mono (by decide)) (pa_consN (pv 0) pa_nil)) (pe_and (pe_cl T.c_has_few_figures (ok_has_few_figures T) (hr.mono (by decide)) (pa_consN (pv 1) pa_nil)) (pe_one (pe_cl T.c_is_number (ok_is_number T) (hr.mono (by decide)) (pa_consN (pv 0) (pa_consN (pv 1) pa_nil))))))))),?_⟩
    refine ⟨_,rfl,t_,rfl,few t_,rfl,?_⟩
    cases e1:few t_ with
    | false=>rw [e1] at k;exact iteF k
    | true=>
      rw [e1] at k
      refine iteT ⟨_,rfl,b,rfl,few b,rfl,?_⟩
      cases e2:few b with
      | false=>rw [e2] at k;exact iteF k
      | true=>
        rw [e2] at k
        exact iteT ⟨_,rfl,_,rfl,t_,b,rfl,low,k⟩
theorem scnumber_value:FnScope ["number","cell"] ["number","cell"] (defScope s_number_value):=⟨rfl,rfl,rfl,by decide +kernel,rfl,by decide +kernel,by decide +kernel⟩
theorem ok_number_value (T:Txt w K mg t):FnOk P w K mg base CX0 4 t.f_number_value t.d_number_value ["number","cell"] spNvl:=by
  have D:=T.c_number_value
  refine D.fn.ok scnumber_value (fun vs H Q E h=>?_) (fun cdv A outer s H vs Q E hr h=>?_)
  · obtain ⟨p,t_,b,y,hm,rfl,_⟩:=h
    rfl
  · obtain ⟨p,t_,b,y,hm,rfl,hp,low,hy,k⟩:=h
    have hu:=hr.units0
    have hu1:=hu_of hr
    refine ⟨_,((pss_cons (ps_if (pt_val (pe_cl T.c_is_short_number (ok_is_short_number T) (hr.mono (by decide)) (pa_consS (pe_ix ix_tup (pv 0) pe_int (fun _ _=>rfl)) (pa_consS (pe_ix ix_tup (pv 0) pe_int (fun _ _=>rfl)) pa_nil)))) (pss_one (ps_ret (pe_tup (pa_consK pe_str (pa_consS (pe_ix ix_tup (pv 0) pe_int (fun _ _=>rfl)) (pa_consS (pe_ix ix_tup (pv 0) pe_int (fun _ _=>rfl)) pa_nil)))))) pss_nil)
      (pss_one (ps_ret (pe_tup (pa_consK pe_str (pa_consK pe_str (pa_consN (pv 1) pa_nil)))))))),?_⟩
    refine ⟨_,rfl,p,_,_,_,rfl,rfl,SqT.of hp,rfl,_,rfl,p,_,_,_,rfl,rfl,SqT.of hp,rfl,t_,b,rfl,low,few t_&&few b,rfl,?_⟩
    unfold numV at k
    cases e:(few t_&&few b) with
    | true=>
      rw [if_pos e] at k
      exact iteT ⟨_,rfl,p,_,_,_,rfl,rfl,SqT.of hp,rfl,_,rfl,p,_,_,_,rfl,rfl,SqT.of hp,rfl,three_le,fun q hq=>k _ _ ⟨q,rfl,upd_same⟩ (Same.new hq)⟩
    | false=>
      rw [if_neg (by rw [e];exact Bool.false_ne_true)] at k
      exact iteF ⟨_,rfl,three_le,fun q hq=>k _ _ (hy.flt hq) (Same.new hq)⟩
theorem scvalues_in:FnScope ["table","values","row"] ["table"] (defScope s_values_in):=⟨rfl,rfl,rfl,by decide +kernel,rfl,by decide +kernel,by decide +kernel⟩
theorem ok_values_in (T:Txt w K mg t):FnOk P w K mg base CX0 1 t.f_values_in t.d_values_in ["table"] spVin:=by
  have D:=T.c_values_in
  refine D.fn.ok scvalues_in (fun vs H Q E h=>?_) (fun cdv A outer s H vs Q E hr h=>?_)
  · obtain ⟨x,m,w_,rfl,_⟩:=h
    rfl
  · obtain ⟨x,m,w_,rfl,⟨b,us,rfl,hb,pr⟩,rc,w30,m30,k⟩:=h
    have hu:=hr.units0
    have hu1:=hu_of hr
    refine ⟨_,((pss_cons (ps_set (i:=1) scvalues_in.nd rfl (Or.inl rfl) (pe_lst pa_nil))
      (pss_cons (ps_for PassesOwn.never rfl (pi_tup (pv 0)) (pg_name (i:=2) scvalues_in.nd rfl (Or.inl rfl))
      (pss_one (ps_expr (pe_bm PySem.F.plainAttrs_list PySem.F.slot_list_extend PySem.F.type_list_extend mt_extendT (pv 1) (pa_consN (pv 2) pa_nil)))))
      (pss_one (ps_ret (pv 1)))))),?_⟩
    have hul:us.length=m.length:=Paired.length pr
    refine ⟨Nat.zero_le _,fun d hd=>?_⟩
    have s0:=Same.new (o:=.lst []) hd
    refine ⟨_,rfl,b,rfl,⟨_,SqT.of (s0 _ _ hb)⟩,?_⟩
    refine for_tup (xs:=us) (fun i σ H5=>∃ x2,σ=[some (.ref b),some (.ref d),x2]∧H5 d=some (.lst (m.take i).flatten)∧Same H H5) ⟨none,rfl,upd_same,s0⟩ ?_ ?_ ?_
    · rintro i σ H5 _ ⟨x2,rfl,_,s5⟩
      exact SqT.of (s5 _ _ hb)
    · rintro i x σ H5 hx ⟨x2,rfl,hd5,s5⟩
      obtain ⟨row,hrow,br,rfl,hbr⟩:=paired_at pr hx
      have lr:row.length=w_:=rc.row row (List.mem_of_getElem? hrow)
      have hi:i<m.length:=(List.getElem?_eq_some_iff.mp hrow).1
      have hiw:i*w_≤30*30:=Nat.mul_le_mul (by omega) w30
      have fl:(m.take i).flatten.length=i*w_:=by rw [flat_len (w:=w_) fun r hr'=>rc.row r (List.mem_of_mem_take hr'),List.length_take,Nat.min_eq_left (by omega)]
      refine ⟨_,rfl,.inl ⟨rfl,_,SqL.of hd5⟩,_,rfl,d,br,_,row,rfl,rfl,hd5,s5 _ _ hbr,sl_le (by omega),?_⟩
      refine ⟨_,rfl,?_,fun b' o e=>?_⟩
      · rw [upd_same,List.take_add_one,hrow,List.flatten_append]
        simp
      · rw [upd_ne (ne_of_none e hd)];exact s5 _ _ e
    · rintro σ H5 ⟨x2,rfl,hd5,s5⟩
      rw [hul,List.take_length] at hd5
      exact ⟨_,rfl,k d H5 hd hd5 s5⟩
theorem scfirst_fault:FnScope ["values","value"] ["values"] (defScope s_first_fault):=⟨rfl,rfl,rfl,by decide +kernel,rfl,by decide +kernel,by decide +kernel⟩
theorem ok_first_fault (T:Txt w K mg t):FnOk P w K mg base CX0 1 t.f_first_fault t.d_first_fault ["values"] (spFst K):=by
  have D:=T.c_first_fault
  refine D.fn.ok scfirst_fault (fun vs H Q E h=>?_) (fun cdv A outer s H vs Q E hr h=>?_)
  · obtain ⟨l,us,ms,rfl,_⟩:=h
    rfl
  · obtain ⟨l,us,ms,rfl,hl,vs_,h1,k⟩:=h
    have hu:=hr.units0
    have hu1:=hu_of hr
    refine ⟨_,((pss_cons (ps_for PassesOwn.never rfl (pi_list (pv 0)) (pg_name (i:=1) scfirst_fault.nd rfl (Or.inl rfl))
      (pss_one (ps_if (pt_cmpR op_eq (pe_ix ix_tup (pv 1) pe_int (fun _ _=>rfl)) pe_str (nomark _)) (pss_one (ps_ret (pv 1))) pss_nil)))
      (pss_one (ps_ret pe_non)))),?_⟩
    refine ⟨_,rfl,l,rfl,⟨_,SqL.of hl⟩,?_⟩
    refine for_list (xs:=us) (fun i σ H5=>∃ x1,σ=[some (.ref l),x1]∧H5=H∧fstF us ms=fstF (us.drop i) (ms.drop i)) ⟨none,rfl,rfl,rfl⟩ ?_ ?_ ?_
    · rintro i σ H5 _ ⟨x1,rfl,rfl,_⟩
      exact SqL.of hl
    · rintro i x σ H5 hx ⟨x1,rfl,rfl,e⟩
      obtain ⟨v,hv,xv⟩:=paired_at vs_ hx
      obtain ⟨q,xs,rfl,hq,_⟩:=xv.hd
      rw [fstF_drop hx hv] at e
      refine ⟨_,rfl,q,_,_,_,rfl,rfl,SqT.of hq,atI_hd,rfl,isF v,rfl,?_⟩
      refine ite2 (fun hf=>?_) (fun hf=>?_)
      · rw [if_pos hf] at e
        exact ⟨_,rfl,by rw [← e];exact k⟩
      · rw [if_neg hf] at e
        exact ⟨_,rfl,rfl,e⟩
    · rintro σ H5 ⟨x1,rfl,rfl,e⟩
      have e2:fstF (us.drop us.length) (ms.drop us.length)=.non:=by rw [List.drop_length,List.drop_eq_nil_of_le (Nat.le_of_eq (Paired.length vs_).symm)];rfl
      rw [e2] at e
      show Q .non _
      rw [← e];exact k
theorem scnumbers_among:FnScope ["values"] ["values"] (defScope s_numbers_among):=⟨rfl,rfl,rfl,by decide +kernel,rfl,by decide +kernel,by decide +kernel⟩
theorem ok_numbers_among (T:Txt w K mg t):FnOk P w K mg base CX0 1 t.f_numbers_among t.d_numbers_among ["values"] (spNam K):=by
  have D:=T.c_numbers_among
  refine D.fn.ok scnumbers_among (fun vs H Q E h=>?_) (fun cdv A outer s H vs Q E hr h=>?_)
  · obtain ⟨l,us,ms,rfl,_⟩:=h
    rfl
  · obtain ⟨l,us,ms,rfl,hl,vs_,h1000,k⟩:=h
    have hu:=hr.units0
    have hu1:=hu_of hr
    refine ⟨_,((pss_one (ps_ret (pe_comp (fv:=[]) (js:=[]) (cl:=[]) rfl (by with_unfolding_all rfl) ⟨rfl,by decide +kernel,by decide +kernel,rfl,by decide +kernel,by decide +kernel,(List.forall_mem_nil _),(List.forall_mem_nil _),.nil⟩ (pi_list (pv 0)) (fun _ _ _ _ _=>(pf_one (pt_cmpR op_eq (pe_ix ixc_tup (pv 0) pe_int (fun _ _=>rfl)) pe_str (nomark _)))) (fun _ _ _ _ _=>(pe_tup (pa_consS (pe_ix ixc_tup (pv 0) pe_int (fun _ _=>rfl)) (pa_consS (pe_ix ixc_tup (pv 0) pe_int (fun _ _=>rfl)) pa_nil)))))))),?_⟩
    have ul:us.length=ms.length:=Paired.length vs_
    refine ⟨_,rfl,l,rfl,⟨_,SqL.of hl⟩,fun D hD=>?_⟩
    refine ⟨fun i m H5=>m=us.length-i∧i≤us.length∧∃ ps,H5 D=some (.lst ps)∧ps.length≤i∧PrsAt H5 ps (numsOf (ms.take i))∧Same H H5,⟨us.length,rfl,Nat.zero_le _,[],upd_same,Nat.le_refl _,.nil,Same.new hD⟩,?_⟩
    rintro i m H5 ⟨rfl,hi,ps,hD5,pl5,pr5,s5⟩
    by_cases hlt:i<us.length
    · have hx:us[i]?=some us[i]:=List.getElem?_eq_getElem hlt
      obtain ⟨v,hv,xv⟩:=paired_at vs_ hx
      have xv5:=xv.kp (Kp.same s5)
      refine .inr ⟨⟨_,_,SqL.of (s5 _ _ hl),hx⟩,fun x H6 y=>?_⟩
      obtain ⟨e4,y⟩:=y
      subst e4
      have hx':=y _ (SqL.of (s5 _ _ hl))
      rw [hx] at hx'
      cases hx'
      obtain ⟨q,xs,eq,hq,_⟩:=xv5.hd
      rw [eq] at xv5 ⊢
      refine ⟨_,rfl,q,_,_,_,rfl,rfl,SqT.of hq,atI_hd,rfl,_,rfl,ite2 (fun c=>?_) (fun c=>?_)⟩
      · obtain ⟨_,ez,hz⟩:=xv5
        cases ez
        obtain ⟨a,b,rfl⟩:=hz.num_of c
        have hq':H6 q=some (.tup [vS "number",.int a,.int b]):=hz
        refine ⟨_,rfl,q,_,_,_,rfl,rfl,SqT.of hq',rfl,_,rfl,q,_,_,_,rfl,rfl,SqT.of hq',rfl,two_le,fun pp hpp=>?_⟩
        have s6:=Same.new (o:=.tup [.int a,.int b]) hpp
        have hp6:upd H6 pp (.tup [.int a,.int b]) pp=some (.tup [.int a,.int b]):=upd_same
        generalize upd H6 pp (.tup [.int a,.int b])=H7 at *
        have hD7:=s6 _ _ hD5
        have kd:=kp_upd (vs:=ps++[.ref pp]) hD7
        refine ⟨ps,hD7,sl_lt (by omega),us.length-(i+1),(by omega),rfl,hlt,ps++[.ref pp],upd_same,(by rw [List.length_append,List.length_singleton];omega),?_,fun b' o e=>by rw [upd_ne (ne_of_none e hD)];exact s6 _ _ (s5 _ _ e)⟩
        unfold numsOf
        rw [take_snoc hv,List.filterMap_append]
        exact psnoc (PrsAt.kp pr5 ((Kp.same s6).trans kd)) ⟨pp,rfl,kd _ _ hp6⟩
      · refine ⟨us.length-(i+1),(by omega),rfl,hlt,ps,hD5,(by omega),?_,s5⟩
        unfold numsOf
        rw [take_snoc hv,List.filterMap_append]
        have e0:[v].filterMap numO=[]:=by
          cases v with
          | num t b=>exact absurd (by show decide (V.str (Str.ofString "number")=vS "number")=true;decide +kernel) c
          | none=>rfl
          | txt z=>rfl
          | tru b=>rfl
          | flt w z r c=>rfl
        rw [e0,List.append_nil]
        exact pr5
    · have ei:i=us.length:=by omega
      subst ei
      rw [ul,List.take_length] at pr5
      exact .inl ⟨⟨_,SqL.of (s5 _ _ hl),Nat.le_refl _⟩,k D ps H5 hD5 pr5 s5⟩
theorem scsum_of_all:FnScope ["numbers","tops","top","bottom","whole_top","whole_bottom"] ["numbers"] (defScope s_sum_of_all):=⟨rfl,rfl,rfl,by decide +kernel,rfl,by decide +kernel,by decide +kernel⟩
theorem ok_sum_of_all (T:Txt w K mg t):FnOk P w K mg base CX0 3 t.f_sum_of_all t.d_sum_of_all ["numbers"] spSal:=by
  have D:=T.c_sum_of_all
  refine D.fn.ok scsum_of_all (fun vs H Q E h=>?_) (fun cdv A outer s H vs Q E hr h=>?_)
  · obtain ⟨l,us,ns,β,γ,rfl,_⟩:=h
    rfl
  · obtain ⟨l,us,ns,β,γ,rfl,hl,pr,⟨nok,nlen,nsz⟩,k⟩:=h
    have hu:=hr.units0
    have hu1:=hu_of hr
    refine ⟨_,((pss_cons (ps_set (i:=1) scsum_of_all.nd rfl (Or.inl rfl) pe_dnewK)
      (pss_cons (ps_for PassesOwn.never rfl (pi_list (pv 0)) (pg_tup rfl (pgs_cons (pg_name (i:=2) scsum_of_all.nd rfl (Or.inl rfl)) (pgs_cons (pg_name (i:=3) scsum_of_all.nd rfl (Or.inl rfl)) pgs_nil)))
      (pss_one (ps_dput hu1 (pv 1) (pv 3) (pe_op op_add (pe_dget2 hu1 (pv 1) (pv 3) pe_int ⟨rfl,rfl,rfl,rfl⟩) (pv 2)) rfl)))
      (pss_cons (ps_set (i:=4) scsum_of_all.nd rfl (Or.inl rfl) pe_int)
      (pss_cons (ps_set (i:=5) scsum_of_all.nd rfl (Or.inl rfl) pe_int)
      (pss_cons (ps_for PassesOwn.never rfl (pi_dK (pv 1)) (pg_name (i:=3) scsum_of_all.nd rfl (Or.inl rfl))
      (pss_cons (ps_set (i:=4) scsum_of_all.nd rfl (Or.inl rfl) (pe_op op_add (pe_op op_mulW (pv 4) (pv 3)) (pe_op op_mulW (pe_dget hu1 (pv 1) (pv 3) (fun _ _=>rfl)) (pv 5))))
      (pss_one (ps_set (i:=5) scsum_of_all.nd rfl (Or.inl rfl) (pe_op op_mulW (pv 5) (pv 3))))))
      (pss_one (ps_ret (pe_cl T.c_number_of (ok_number_of T) (hr.mono (by decide)) (pa_consN (pv 4) (pa_consN (pv 5) pa_nil))))))))))),?_⟩
    have ul:us.length=ns.length:=Paired.length pr
    have hpos:∀ n∈ns,0<n.2:=fun n h=>(nok n h).1
    have hpr:=pr_pos hpos
    obtain ⟨c,hc⟩:∃ c,c=cB ns:=⟨_,rfl⟩
    obtain ⟨B,hB⟩:∃ B,B=prB ns:=⟨_,rfl⟩
    have hcB:∀ n∈ns,n.2*c n.2=B:=fun n h=>by rw [hc,hB];exact cB_ok h
    refine fun d hd=>?_
    have s0:=Same.new (o:=.dK []) hd
    have hd0:upd H d (.dK []) d=some (.dK (dK [])):=upd_same
    generalize upd H d (.dK [])=H0 at *
    refine ⟨_,rfl,l,rfl,⟨_,SqL.of (s0 _ _ hl)⟩,?_⟩
    refine for_list (xs:=us) (fun i σ H5=>∃ x2 x3 ds,σ=[some (.ref l),some (.ref d),x2,x3,none,none]∧H5 d=some (.dK (dK ds))∧(ds.map (·.1)).Nodup∧ds.length≤i∧Sm c (ds.map sw)=Sm c (ns.take i)∧(∀ e∈ds,e.1*c e.1=B∧0<e.1∧e.1.natAbs≤2 ^ β∧e.2.natAbs≤i*2 ^ γ)∧Same H H5)
      ⟨none,none,[],rfl,hd0,List.nodup_nil,Nat.le_refl _,rfl,fun e z=>absurd z (by simp),s0⟩ ?_ ?_ ?_
    · rintro i σ H5 _ ⟨x2,x3,ds,rfl,_,_,_,_,_,s5⟩
      exact SqL.of (s5 _ _ hl)
    · rintro i x σ H5 hx ⟨x2,x3,ds,rfl,hd5,nd5,len5,sm5,ok5,s5⟩
      obtain ⟨n,hn,q,rfl,hq⟩:=paired_at pr hx
      have hq5:=s5 _ _ hq
      have hnm:=List.mem_of_getElem? hn
      obtain ⟨n1,n2,n3⟩:=nok n hnm
      have hi:i<ns.length:=(List.getElem?_eq_some_iff.mp hn).1
      refine ⟨q,_,rfl,SqT.of hq5,rfl,_,_,rfl,_,_,rfl,rfl,?_⟩
      have hdl:(dK ds).length=ds.length:=by unfold dK;rw [List.length_map]
      refine ⟨_,rfl,d,rfl,.inl ⟨_,.inl hd5⟩,_,rfl,_,DGet.k (k:=.inl n.2) hd5,_,rfl,(lookI ds n.2).getD 0,n.1,(by rw [dK_val];cases lookI ds n.2 <;> rfl),rfl,?_⟩
      refine ⟨_,rfl,_,rfl,d,_,rfl,DPut.k (k:=.inl n.2) hd5 (sl_lt (by omega)),?_⟩
      obtain ⟨p1,p2⟩:=put_keys ds n.2 ((lookI ds n.2).getD 0+n.1) nd5
      refine ⟨_,_,putI ds n.2 ((lookI ds n.2).getD 0+n.1),rfl,(by rw [upd_same,dK_put _ _ _ nd5]),p1,Nat.le_trans (put_len _ _ _) (by omega),?_,fun e he=>?_,fun b' o e'=>by rw [upd_ne (ne_of_none e' hd)];exact s5 _ _ e'⟩
      · rw [put_S,sm5,take_snoc hn]
        unfold Sm
        rw [List.map_append,List.sum_append]
        simp
      · rcases put_mem _ _ _ _ he with z | z
        · obtain ⟨z1,z2,z3,z4⟩:=ok5 e z
          refine ⟨z1,z2,z3,Nat.le_trans z4 (Nat.mul_le_mul_right _ (Nat.le_succ _))⟩
        · subst z
          refine ⟨hcB n hnm,n1,n3,?_⟩
          have hb:((lookI ds n.2).getD 0).natAbs≤i*2 ^ γ:=by
            cases e:lookI ds n.2 with
            | none=>exact Nat.zero_le _
            | some v=>exact (ok5 _ (look_mem e)).2.2.2
          show ((lookI ds n.2).getD 0+n.1).natAbs≤(i+1)*2 ^ γ
          rw [Nat.succ_mul]
          exact Nat.le_trans (Int.natAbs_add_le _ _) (Nat.add_le_add hb n2)
    · rintro σ H5 ⟨x2,x3,ds,rfl,hd5,nd5,len5,sm5,ok5,s5⟩
      rw [ul] at len5 sm5 ok5
      rw [List.take_length] at sm5
      have bd:∀ n∈ds.map sw,n.1.natAbs≤2 ^ (γ+10)∧n.2.natAbs≤2 ^ β:=fun n hn=>by
        obtain ⟨e,he,rfl⟩:=List.mem_map.mp hn
        obtain ⟨_,_,z3,z4⟩:=ok5 e he
        refine ⟨Nat.le_trans z4 ?_,z3⟩
        rw [Nat.pow_add,Nat.mul_comm]
        exact Nat.mul_le_mul_left _ (by omega)
      have szs:∀ i,i≤ds.length→Sz 4000 (fsl ((ds.take i).map sw)).1∧Sz 4000 (fsl ((ds.take i).map sw)).2:=fun i hi=>by
        obtain ⟨q1,q2⟩:=fsl_sz (l:=(ds.take i).map sw) fun n hn=>bd n (by
          obtain ⟨e,he,rfl⟩:=List.mem_map.mp hn
          exact List.mem_map.mpr ⟨e,List.mem_of_mem_take he,rfl⟩)
        rw [List.length_map,List.length_take,Nat.min_eq_left hi] at q1 q2
        have b1:β*i≤β*ns.length:=Nat.mul_le_mul_left _ (by omega)
        exact ⟨sz_of q1 (by omega) (by omega),sz_of (k:=1) (by rw [Nat.one_mul];exact q2) (by decide) (by omega)⟩
      refine ⟨_,rfl,d,_,rfl,hd5,fun o=>?_⟩
      have hf6:upd H5 d (.frz o (.dK (dK ds))) d=some (.frz o (.dK (dK ds))):=upd_same
      have s6:Same H (upd H5 d (.frz o (.dK (dK ds)))):=fun b' o' e'=>by rw [upd_ne (ne_of_none e' hd)];exact s5 _ _ e'
      generalize upd H5 d (.frz o (.dK (dK ds)))=H6 at *
      have hdl:(dK ds).length=ds.length:=by unfold dK;rw [List.length_map]
      refine for_dK (kvs:=dK ds) (fun i σ H7=>H7=H6∧∃ x2 x3,σ=[some (.ref l),some (.ref d),x2,x3,some (.int (fsl ((ds.take i).map sw)).1),some (.int (fsl ((ds.take i).map sw)).2)]) ⟨rfl,_,_,rfl⟩ ?_ ?_ ?_
      · rintro i σ H7 _ ⟨rfl,_⟩
        exact hf6
      · rintro i kk v σ H7 hk ⟨rfl,x2,x3,rfl⟩
        unfold dK at hk
        rw [List.getElem?_map] at hk
        obtain ⟨e,he,hke⟩:∃ e,ds[i]?=some e∧kk=.inl e.1:=by
          cases q:ds[i]? with
          | none=>rw [q] at hk;cases hk
          | some e=>rw [q] at hk;cases hk;exact ⟨e,rfl,rfl⟩
        subst hke
        have hi:i<ds.length:=(List.getElem?_eq_some_iff.mp he).1
        have hem:=List.mem_of_getElem? he
        obtain ⟨_,_,z3,z4⟩:=ok5 e hem
        obtain ⟨t1,t2⟩:=szs i (by omega)
        have t3:Sz 4000 e.1:=sz_of (k:=1) (m:=β) (by rw [Nat.one_mul];exact z3) (by decide) (by
          have:β*1≤β*ns.length:=Nat.mul_le_mul_left _ (by omega)
          omega)
        have t4:Sz 4000 e.2:=sz_of z4 (by omega) (by omega)
        have dg:DGet H7 d (.int e.1) (some (.int e.2)):=.inl ⟨dK ds,.inl e.1,.inr ⟨o,hf6⟩,rfl,by rw [dK_val,look_at nd5 hem];rfl⟩
        refine ⟨_,rfl,_,rfl,_,_,rfl,rfl,⟨t1,t3⟩,_,rfl,_,rfl,d,_,rfl,dg,_,rfl,_,_,rfl,rfl,⟨t4,t2⟩,_,_,rfl,rfl,?_⟩
        refine ⟨_,rfl,_,rfl,_,_,rfl,rfl,⟨t2,t3⟩,?_⟩
        refine ⟨rfl,x2,some (kV (Sum.inl e.1)),?_⟩
        rw [take_snoc he,List.map_append,show [e].map sw=[sw e] from rfl,fsl_snoc]
        rfl
      · rintro σ H7 ⟨rfl,x2,x3,rfl⟩
        rw [hdl,List.take_length]
        have tz:=szs ds.length (Nat.le_refl _)
        rw [List.take_length] at tz
        have hdp:∀ n∈ds.map sw,n.2*cB ns n.2=prB ns∧0<n.2:=fun n hn=>by
          obtain ⟨e,he,rfl⟩:=List.mem_map.mp hn
          obtain ⟨z1,z2,_⟩:=ok5 e he
          rw [hc,hB] at z1
          exact ⟨z1,z2⟩
        have p1:=fsl_pos (l:=ds.map sw) fun n h=>(hdp n h).2
        rw [hc] at sm5
        obtain ⟨w1,w2⟩:=sum_low hpos hdp sm5
        refine ⟨_,rfl,_,rfl,_,_,rfl,(by omega),tz.2,fun p hp=>?_⟩
        exact k p _ (by rw [upd_same,w1,w2]) (s6.trans (Same.new hp))
theorem scsum_among:FnScope ["values","cell","fault"] ["values","cell"] (defScope s_sum_among):=⟨rfl,rfl,rfl,by decide +kernel,rfl,by decide +kernel,by decide +kernel⟩
theorem ok_sum_among (T:Txt w K mg t):FnOk P w K mg base CX0 5 t.f_sum_among t.d_sum_among ["values","cell"] (spSam K):=by
  have D:=T.c_sum_among
  refine D.fn.ok scsum_among (fun vs H Q E h=>?_) (fun cdv A outer s H vs Q E hr h=>?_)
  · obtain ⟨l,us,ms,y,hm,β,γ,rfl,_⟩:=h
    rfl
  · obtain ⟨l,us,ms,y,hm,β,γ,rfl,hl,vs_,h1000,nok,hy,k⟩:=h
    have hu:=hr.units0
    have hu1:=hu_of hr
    refine ⟨_,((pss_cons (ps_set (i:=2) scsum_among.nd rfl (Or.inl rfl) (pe_cl T.c_first_fault (ok_first_fault T) (hr.mono (by decide)) (pa_consN (pv 0) pa_nil)))
      (pss_one (ps_ret (pe_ifExp (pt_cmpR op_isN (pv 2) pe_non (nomark _)) (pe_cl T.c_number_value (ok_number_value T) (hr.mono (by decide)) (pa_consC (pe_cl T.c_sum_of_all (ok_sum_of_all T) (hr.mono (by decide)) (pa_consC (pe_cl T.c_numbers_among (ok_numbers_among T) (hr.mono (by decide)) (pa_consN (pv 0) pa_nil)) pa_nil)) (pa_consN (pv 1) pa_nil))) (pv 2)))))),?_⟩
    refine ⟨_,rfl,l,us,ms,rfl,hl,vs_,h1000,?_⟩
    rcases fst_find vs_ with ⟨e1,e2⟩ | ⟨u,v,e1,e2,hu_,nu⟩
    · rw [e2]
      refine ⟨_,rfl,rfl,true,(by simp),iteT ?_⟩
      refine ⟨_,rfl,l,us,ms,rfl,hl,vs_,h1000,fun l2 ps H2 hl2 pr2 s2=>?_⟩
      refine ⟨l2,ps,numsOf ms,β,γ,rfl,hl2,pr2,nok,fun q H3 hq3 s3=>?_⟩
      have p2:=fsl_pos (l:=numsOf ms) fun n h=>(nok.1 n h).1
      refine ⟨_,rfl,q,_,_,y,hm,rfl,hq3,low_low (by omega),hy.kp (Kp.same (s2.trans s3)),fun x H4 hx s4=>k x H4 ?_ ((s2.trans s3).trans s4)⟩
      unfold sumA
      rw [e1]
      exact hx
    · rw [e2]
      refine ⟨_,rfl,rfl,false,(by simp [nu]),iteF ?_⟩
      refine ⟨_,rfl,k _ _ ?_ (Same.refl _)⟩
      unfold sumA
      rw [e1]
      exact hu_
theorem scsummed_up:FnScope ["table","cell"] ["table","cell"] (defScope s_summed_up):=⟨rfl,rfl,rfl,by decide +kernel,rfl,by decide +kernel,by decide +kernel⟩
theorem ok_summed_up (T:Txt w K mg t):FnOk P w K mg base CX0 6 t.f_summed_up t.d_summed_up ["table","cell"] (spTb1 sumA):=by
  have D:=T.c_summed_up
  refine D.fn.ok scsummed_up (fun vs H Q E h=>?_) (fun cdv A outer s H vs Q E hr h=>?_)
  · obtain ⟨x,y,m,w_,hm,β,γ,rfl,_⟩:=h
    rfl
  · obtain ⟨x,y,m,w_,hm,β,γ,rfl,⟨mu,hx,vt⟩,rm,w30,m30,nok,hy,k⟩:=h
    have hu:=hr.units0
    have hu1:=hu_of hr
    refine ⟨_,((pss_one (ps_ret (pe_cl T.c_sum_among (ok_sum_among T) (hr.mono (by decide)) (pa_consC (pe_cl T.c_values_in (ok_values_in T) (hr.mono (by decide)) (pa_consN (pv 0) pa_nil)) (pa_consN (pv 1) pa_nil)))))),?_⟩
    have lm:m.flatten.length=m.length*w_:=flat_len rm.row
    have hmw:m.length*w_≤30*30:=Nat.mul_le_mul m30 w30
    refine ⟨_,rfl,x,mu,w_,rfl,hx,paired_rect vt rm,w30,(by rw [Paired.length vt];exact m30),fun la H2 hla0 hla s2=>?_⟩
    have pm:VsAt H2 mu.flatten m.flatten:=VsAt.kp (pflat vt) (Kp.same s2)
    have pl:mu.flatten.length≤1000:=by rw [Paired.length pm];omega
    exact ⟨_,rfl,la,_,_,y,hm,β,γ,rfl,hla,pm,pl,nok,hy.kp (Kp.same s2),fun z H3 hz s3=>k z H3 hz (s2.trans s3)⟩
theorem sccounted_up:FnScope ["table","values","fault"] ["table"] (defScope s_counted_up):=⟨rfl,rfl,rfl,by decide +kernel,rfl,by decide +kernel,by decide +kernel⟩
theorem ok_counted_up (T:Txt w K mg t):FnOk P w K mg base CX0 2 t.f_counted_up t.d_counted_up ["table"] spCnt:=by
  have D:=T.c_counted_up
  refine D.fn.ok sccounted_up (fun vs H Q E h=>?_) (fun cdv A outer s H vs Q E hr h=>?_)
  · obtain ⟨x,m,w_,rfl,_⟩:=h
    rfl
  · obtain ⟨x,m,w_,rfl,⟨mu,hx,vt⟩,rm,w30,m30,k⟩:=h
    have hu:=hr.units0
    have hu1:=hu_of hr
    refine ⟨_,((pss_cons (ps_set (i:=1) sccounted_up.nd rfl (Or.inl rfl) (pe_cl T.c_values_in (ok_values_in T) (hr.mono (by decide)) (pa_consN (pv 0) pa_nil)))
      (pss_cons (ps_set (i:=2) sccounted_up.nd rfl (Or.inl rfl) (pe_cl T.c_first_fault (ok_first_fault T) (hr.mono (by decide)) (pa_consN (pv 1) pa_nil)))
      (pss_one (ps_ret (pe_ifExp (pt_cmpR op_isN (pv 2) pe_non (nomark _)) (pe_tup (pa_consK pe_str (pa_consC (pe_callB call_len_seq (by rfl) T.len PySem.boot_len (pa_consC (pe_cl T.c_numbers_among (ok_numbers_among T) (hr.mono (by decide)) (pa_consN (pv 1) pa_nil)) pa_nil)) (pa_consK pe_int pa_nil)))) (pv 2))))))),?_⟩
    have lm:m.flatten.length=m.length*w_:=flat_len rm.row
    have hmw:m.length*w_≤30*30:=Nat.mul_le_mul m30 w30
    refine ⟨_,rfl,x,mu,w_,rfl,hx,paired_rect vt rm,w30,(by rw [Paired.length vt];exact m30),fun la H2 hla0 hla s2=>?_⟩
    have pm:VsAt H2 mu.flatten m.flatten:=VsAt.kp (pflat vt) (Kp.same s2)
    have pl:mu.flatten.length≤1000:=by rw [Paired.length pm];omega
    refine ⟨_,rfl,la,_,_,rfl,hla,pm,pl,?_⟩
    rcases fst_find pm with ⟨e1,e2⟩ | ⟨u,v,e1,e2,hu_,nu⟩
    · rw [e2]
      refine ⟨_,rfl,rfl,true,(by simp),iteT ?_⟩
      refine ⟨_,rfl,la,_,_,rfl,hla,pm,pl,fun l2 ps H3 hl2 pr2 s3=>⟨l2,ps,rfl,.inl (SqL.of hl2),three_le,fun q hq=>k _ _ ?_ ((s2.trans s3).trans (Same.new hq))⟩⟩
      rw [fltO_n e1,← Paired.length pr2]
      exact ⟨q,rfl,upd_same⟩
    · rw [e2]
      refine ⟨_,rfl,rfl,false,(by simp [nu]),iteF ⟨_,rfl,k _ _ ?_ s2⟩⟩
      rw [fltO_s e1]
      exact hu_
theorem scends_of:FnScope ["table","most","values","fault","best","number"] ["table","most"] (defScope s_ends_of):=⟨rfl,rfl,rfl,by decide +kernel,rfl,by decide +kernel,by decide +kernel⟩
theorem ok_ends_of (T:Txt w K mg t):FnOk P w K mg base CX0 2 t.f_ends_of t.d_ends_of ["table","most"] spEnd:=by
  have D:=T.c_ends_of
  refine D.fn.ok scends_of (fun vs H Q E h=>?_) (fun cdv A outer s H vs Q E hr h=>?_)
  · obtain ⟨x,b_,m,w_,rfl,_⟩:=h
    rfl
  · obtain ⟨x,b_,m,w_,rfl,⟨mu,hx,vt⟩,rm,w30,m30,okm,k⟩:=h
    have hu:=hr.units0
    have hu1:=hu_of hr
    refine ⟨_,((pss_cons (ps_set (i:=2) scends_of.nd rfl (Or.inl rfl) (pe_cl T.c_values_in (ok_values_in T) (hr.mono (by decide)) (pa_consN (pv 0) pa_nil)))
      (pss_cons (ps_set (i:=3) scends_of.nd rfl (Or.inl rfl) (pe_cl T.c_first_fault (ok_first_fault T) (hr.mono (by decide)) (pa_consN (pv 2) pa_nil)))
      (pss_cons (ps_if (pt_cmpR op_notN (pv 3) pe_non (nomark _)) (pss_one (ps_ret (pv 3))) pss_nil)
      (pss_cons (ps_set (i:=4) scends_of.nd rfl (Or.inl rfl) pe_non)
      (pss_cons (ps_for PassesOwn.never rfl (pi_list (pe_cl T.c_numbers_among (ok_numbers_among T) (hr.mono (by decide)) (pa_consN (pv 2) pa_nil))) (pg_name (i:=5) scends_of.nd rfl (Or.inl rfl))
      (pss_one (ps_if (pw_or (pt_cmpR op_isN (pv 4) pe_non (nomark _)) (pw_or1 (pt_if (pt_val (pv 1)) (pt_val (pe_cl T.c_is_less (ok_is_less T) (hr.mono (by decide)) (pa_consN (pv 4) (pa_consN (pv 5) pa_nil)))) (pt_val (pe_cl T.c_is_less (ok_is_less T) (hr.mono (by decide)) (pa_consN (pv 5) (pa_consN (pv 4) pa_nil))))))).pt (pss_one (ps_set (i:=4) scends_of.nd rfl (Or.inl rfl) (pv 5))) pss_nil)))
      (pss_one (ps_ret (pe_ifExp (pt_cmpR op_isN (pv 4) pe_non (nomark _)) (pe_tup (pa_consK pe_str pa_nil)) (pe_tup (pa_consK pe_str (pa_consS (pe_ix ix_tup (pv 4) pe_int (fun _ _=>rfl)) (pa_consS (pe_ix ix_tup (pv 4) pe_int (fun _ _=>rfl)) pa_nil))))))))))))),?_⟩
    have lm:m.flatten.length=m.length*w_:=flat_len rm.row
    have hmw:m.length*w_≤30*30:=Nat.mul_le_mul m30 w30
    refine ⟨_,rfl,x,mu,w_,rfl,hx,paired_rect vt rm,w30,(by rw [Paired.length vt];exact m30),fun la H2 hla0 hla s2=>?_⟩
    have pm:VsAt H2 mu.flatten m.flatten:=VsAt.kp (pflat vt) (Kp.same s2)
    have pl:mu.flatten.length≤1000:=by rw [Paired.length pm];omega
    have okf:∀ v∈m.flatten,VlOk v:=flat_ok okm
    refine ⟨_,rfl,la,_,_,rfl,hla,pm,pl,?_⟩
    rcases fst_find pm with ⟨e1,e2⟩ | ⟨u,v,e1,e2,hu_,nu⟩
    · rw [e2]
      rw [fltO_n e1] at k
      refine ⟨_,rfl,rfl,false,(by simp),iteF ?_⟩
      refine ⟨_,rfl,la,_,_,rfl,hla,pm,pl,fun l2 ps H3 hl2 pr2 s3=>?_⟩
      have s03:=s2.trans s3
      have nat:∀ (p:Addr) (n:Int×Int),n∈numsOf m.flatten→H3 p=some (.tup [.int n.1,.int n.2])→NumAt H3 p n.1 n.2 100:=fun p n hn hp=>num_at (okf _ (nums_mem hn)) rfl hp
      have lps:ps.length=(numsOf m.flatten).length:=Paired.length pr2
      refine ⟨l2,rfl,⟨_,SqL.of hl2⟩,?_⟩
      refine for_list (xs:=ps) (fun i σ H5=>H5=H3∧∃ b x5,σ=[some x,some (.bl b_),some (.ref la),some .non,some b,x5]∧BestAt H3 b (endF b_ ((numsOf m.flatten).take i))∧∀ n,endF b_ ((numsOf m.flatten).take i)=some n→n∈numsOf m.flatten) ⟨rfl,_,_,rfl,rfl,fun n z=>by cases z⟩ ?_ ?_ ?_
      · rintro i σ H5 _ ⟨rfl,_⟩
        exact SqL.of hl2
      · rintro i xx σ H5 hxx ⟨rfl,b,x5,rfl,hb,hin⟩
        obtain ⟨n,hn,pn,rfl,hpn⟩:=paired_at pr2 hxx
        have hnm:=List.mem_of_getElem? hn
        have nn:=nat pn n hnm hpn
        have et:endF b_ ((numsOf m.flatten).take (i+1))=stepE b_ (endF b_ ((numsOf m.flatten).take i)) n:=by rw [take_snoc hn,endF_snoc]
        cases eo:endF b_ ((numsOf m.flatten).take i) with
        | none=>
          rw [eo] at hb et
          have hb':b=.non:=hb
          subst hb'
          refine ⟨_,rfl,rfl,true,(by simp),iteT (iteT ⟨_,rfl,rfl,_,_,rfl,?_,?_⟩)⟩
          · rw [et];exact ⟨pn,rfl,hpn⟩
          · rw [et];intro n' hn';cases hn';exact hnm
        | some n0=>
          rw [eo] at hb et
          have hin0:=hin n0 eo
          obtain ⟨p0,rfl,hp0⟩:=hb
          have n00:=nat p0 n0 hin0 hp0
          refine ⟨_,rfl,rfl,false,(by simp),iteF ?_⟩
          have fin:∀ c:Bool,stepE b_ (some n0) n=(if c=true then some n else some n0)→(if c=true then ∃ v,[some x,some (V.bl b_),some (.ref la),some .non,some (.ref p0),some (.ref pn)][5]?=some (some v)∧(fun σ' H'=>H'=H5∧∃ b x5,σ'=[some x,some (.bl b_),some (.ref la),some .non,some b,x5]∧BestAt H5 b (endF b_ ((numsOf m.flatten).take (i+1)))∧∀ n,endF b_ ((numsOf m.flatten).take (i+1))=some n→n∈numsOf m.flatten) ([some x,some (V.bl b_),some (.ref la),some .non,some (.ref p0),some (.ref pn)].set 4 (some v)) H5 else (fun σ' H'=>H'=H5∧∃ b x5,σ'=[some x,some (.bl b_),some (.ref la),some .non,some b,x5]∧BestAt H5 b (endF b_ ((numsOf m.flatten).take (i+1)))∧∀ n,endF b_ ((numsOf m.flatten).take (i+1))=some n→n∈numsOf m.flatten) [some x,some (V.bl b_),some (.ref la),some .non,some (.ref p0),some (.ref pn)] H5):=fun c hc=>by
            rw [et,hc]
            cases c with
            | true=>exact iteT ⟨_,rfl,rfl,_,_,rfl,⟨pn,rfl,hpn⟩,fun n' hn'=>by cases hn';exact hnm⟩
            | false=>exact iteF ⟨rfl,_,_,rfl,⟨p0,rfl,hp0⟩,fun n' hn'=>by cases hn';exact hin0⟩
          cases b_ with
          | true=>
            refine ⟨_,rfl,true,rfl,iteT ⟨_,rfl,_,rfl,p0,pn,_,_,_,_,100,100,rfl,n00,nn,(by decide),less2 n0 n,rfl,?_⟩⟩
            exact fin _ (by unfold stepE;simp)
          | false=>
            refine ⟨_,rfl,false,rfl,iteF ⟨_,rfl,_,rfl,pn,p0,_,_,_,_,100,100,rfl,nn,n00,(by decide),less2 n n0,rfl,?_⟩⟩
            exact fin _ (by unfold stepE;simp)
      · rintro σ H5 ⟨rfl,b,x5,rfl,hb,_⟩
        rw [lps,List.take_length] at hb
        cases eo:endF b_ (numsOf m.flatten) with
        | none=>
          rw [eo] at hb k
          have hb':b=.non:=hb
          subst hb'
          exact ⟨_,rfl,rfl,true,(by simp),iteT ⟨(by show 1≤sizeLine;decide),fun q hq=>k _ _ ⟨q,rfl,upd_same⟩ (s03.trans (Same.new hq))⟩⟩
        | some n0=>
          rw [eo] at hb k
          obtain ⟨p0,rfl,hp0⟩:=hb
          exact ⟨_,rfl,rfl,false,(by simp),iteF ⟨_,rfl,p0,_,_,_,rfl,rfl,SqT.of hp0,rfl,_,rfl,p0,_,_,_,rfl,rfl,SqT.of hp0,rfl,three_le,fun q hq=>k _ _ ⟨q,rfl,upd_same⟩ (s03.trans (Same.new hq))⟩⟩
    · rw [e2]
      refine ⟨_,rfl,rfl,true,(by simp [nu]),iteT ⟨_,rfl,k _ _ ?_ s2⟩⟩
      rw [fltO_s e1]
      exact hu_
theorem sctable_in_rows:FnScope ["values","wide"] ["values","wide"] (defScope s_table_in_rows):=⟨rfl,rfl,rfl,by decide +kernel,rfl,by decide +kernel,by decide +kernel⟩
theorem ok_table_in_rows (T:Txt w K mg t):FnOk P w K mg base CX0 1 t.f_table_in_rows t.d_table_in_rows ["values","wide"] spInR:=by
  have D:=T.c_table_in_rows
  refine D.fn.ok sctable_in_rows (fun vs H Q E h=>?_) (fun cdv A outer s H vs Q E hr h=>?_)
  · obtain ⟨l,us,w_,h_,rfl,_⟩:=h
    rfl
  · obtain ⟨l,us,w_,h_,rfl,hl,hlen,w1,w2,h2,k⟩:=h
    have hu:=hr.units0
    have hu1:=hu_of hr
    refine ⟨_,((pss_one (ps_ret (pe_callTy call_tuple_of (by rfl) T.tuple boot_tuple (pa_consH (pe_comp (fv:=["values","wide"]) (js:=[0,1]) (cl:=[("wide",s.heap.objs.size+2),("values",s.heap.objs.size+1)]) rfl (by with_unfolding_all rfl) ⟨rfl,by decide +kernel,by decide +kernel,rfl,by decide +kernel,by decide +kernel,(List.forall_mem_cons.mpr ⟨⟨rfl,rfl,rfl⟩,(List.forall_mem_cons.mpr ⟨⟨rfl,rfl,rfl⟩,(List.forall_mem_nil _)⟩)⟩),(List.forall_mem_cons.mpr ⟨rfl,(List.forall_mem_cons.mpr ⟨rfl,(List.forall_mem_nil _)⟩)⟩),(.cons rfl (.cons rfl .nil))⟩ (pi_range3 rfl T.range (pa_consK pe_int (pa_consC (pe_callB call_len_seq (by rfl) T.len PySem.boot_len (pa_consN (pv 0) pa_nil)) (pa_consN (pv 1) pa_nil)))) (fun _ _ _ _ _=>pf_nil) (fun _ _ _ _ _=>(pe_callTy call_tuple_ofc (by rfl) T.tuple boot_tuple (pa_consS (pe_slice slc_list (pv 1) (po_some (pv 0)) (po_some (pe_op op_add (pv 0) (pv 2)))) pa_nil)))) pa_nil))))),?_⟩
    have hlen2:h_*w_≤10000:=Nat.mul_le_mul h2 w2
    refine ⟨_,rfl,l,us,rfl,.inl (SqL.of hl),_,rfl,_,_,rfl,⟨by omega,by omega,by omega,by omega⟩,fun D hD=>?_⟩
    rw [hlen,stepN_mul w1]
    have sD:∀ o,Same H (upd H D o):=fun o=>Same.new hD
    refine ⟨fun i m H4=>m=h_-i∧i≤h_∧∃ qs,H4 D=some (.lst qs)∧qs.length=i∧Paired (RsAt H4) qs ((chunk us w_ h_).take i)∧Same H H4,⟨h_,rfl,Nat.zero_le _,[],upd_same,rfl,.nil,sD _⟩,?_⟩
    rintro i m H4 ⟨rfl,hi,qs,hq4,hql,pr4,s4⟩
    by_cases hlt:i<h_
    · refine .inr ⟨hlt,fun x H' y=>?_⟩
      obtain ⟨rfl,rfl⟩:=y
      have hiw:i*w_+w_≤us.length:=by
        rw [hlen]
        have:(i+1)*w_≤h_*w_:=Nat.mul_le_mul_right w_ hlt
        rw [Nat.succ_mul] at this
        omega
      have ec:cutV us (some ((i:Int)*(w_:Int))) (some ((i:Int)*(w_:Int)+(w_:Int)))=(us.drop (i*w_)).take w_:=by
        have:=cut_both (xs:=us) (i:=i*w_) (j:=w_) hiw
        rw [Int.natCast_mul] at this
        exact this
      refine ⟨_,rfl,_,rfl,_,rfl,_,rfl,_,rfl,_,_,rfl,rfl,_,rfl,l,us,rfl,SqL.of (s4 _ _ hl),fun d hd=>?_⟩
      rw [ec]
      refine ⟨d,_,rfl,.inl ⟨SqL.of upd_same,fun q hq=>?_⟩⟩
      have s5:=(Same.new (o:=.lst ((us.drop (i*w_)).take w_)) hd).trans (Same.new (o:=.tup ((us.drop (i*w_)).take w_)) hq)
      have hqq:upd (upd H' d (.lst ((us.drop (i*w_)).take w_))) q (.tup ((us.drop (i*w_)).take w_)) q=some (.tup ((us.drop (i*w_)).take w_)):=upd_same
      generalize upd (upd H' d (.lst ((us.drop (i*w_)).take w_))) q (.tup ((us.drop (i*w_)).take w_))=H5 at *
      have hD5:=s5 _ _ hq4
      have kd:∀ o,Kp H5 (upd H5 D o):=fun o=>Kp.lst hD5 KeepX.upd
      refine ⟨qs,hD5,sl_lt (by omega),h_-(i+1),(by omega),rfl,hlt,qs++[.ref q],upd_same,(by rw [List.length_append,hql];rfl),?_,fun b o e=>?_⟩
      · rw [List.take_add_one,chunk_get hlt]
        exact psnoc (Paired.imp' (fun _ _ ⟨c,e,y⟩=>⟨c,e,kd _ _ _ (s5 _ _ y)⟩) pr4) ⟨q,rfl,kd _ _ _ hqq⟩
      · rw [upd_ne (ne_of_none e hD)]
        exact s5 _ _ (s4 _ _ e)
    · have ei:i=h_:=by omega
      subst ei
      refine .inl ⟨Nat.le_refl _,D,qs,rfl,.inl ⟨SqL.of hq4,fun p hp=>k _ _ ⟨p,qs,rfl,upd_same,?_⟩ (s4.trans (Same.new hp))⟩⟩
      rw [List.take_of_length_le (Nat.le_of_eq len_chunk)] at pr4
      exact Paired.imp' (fun _ _ ⟨c,e,y⟩=>⟨c,e,Same.new hp _ _ y⟩) pr4
theorem sccells_of:FnScope ["block","cells","row","column"] ["block"] (defScope s_cells_of):=⟨rfl,rfl,rfl,by decide +kernel,rfl,by decide +kernel,by decide +kernel⟩
theorem ok_cells_of (T:Txt w K mg t):FnOk P w K mg base CX0 1 t.f_cells_of t.d_cells_of ["block"] spCs:=by
  have D:=T.c_cells_of
  refine D.fn.ok sccells_of (fun vs H Q E h=>?_) (fun cdv A outer s H vs Q E hr h=>?_)
  · obtain ⟨p,z,r,c,r2,c2,rfl,_⟩:=h
    rfl
  · obtain ⟨p,z,r,c,r2,c2,rfl,hp,k⟩:=h
    have hu:=hr.units0
    have hu1:=hu_of hr
    refine ⟨_,((pss_cons (ps_set (i:=1) sccells_of.nd rfl (Or.inl rfl) (pe_lst pa_nil))
      (pss_cons (ps_for PassesOwn.never rfl (pi_range2 rfl T.range (pa_consS (pe_ix ix_tup (pv 0) pe_int (fun _ _=>rfl)) (pa_consB (pe_op op_add (pe_ix ix_tup (pv 0) pe_int (fun _ _=>rfl)) pe_int) pa_nil))) (pg_name (i:=2) sccells_of.nd rfl (Or.inl rfl))
      (pss_one (ps_for PassesOwn.never rfl (pi_range2 rfl T.range (pa_consS (pe_ix ix_tup (pv 0) pe_int (fun _ _=>rfl)) (pa_consB (pe_op op_add (pe_ix ix_tup (pv 0) pe_int (fun _ _=>rfl)) pe_int) pa_nil))) (pg_name (i:=3) sccells_of.nd rfl (Or.inl rfl))
      (pss_one (ps_expr (pe_bm PySem.F.plainAttrs_list PySem.F.slot_list_append PySem.F.type_list_append mt_append (pv 1) (pa_consT (pe_tup (pa_consS (pe_ix ix_tup (pv 0) pe_int (fun _ _=>rfl)) (pa_consN (pv 2) (pa_consN (pv 3) pa_nil)))) pa_nil)))))))
      (pss_one (ps_ret (pv 1)))))),?_⟩
    have g1:=hp.r1;have g2:=hp.r16;have g3:=hp.c1;have g4:=hp.c8;have g5:=hp.r0;have g6:=hp.c0
    have hw:(c2+1-c).toNat=(c2-c+1).toNat:=by omega
    have hh:(r2+1-r).toNat=(r2-r+1).toNat:=by omega
    generalize hwd:(c2-c+1).toNat=w at hw k
    generalize hhd:(r2-r+1).toNat=hgt at hh k
    have hw1:1≤w:=by omega
    have hw8:w≤8:=by omega
    have hh16:hgt≤16:=by omega
    refine ⟨Nat.zero_le _,fun l hl=>?_⟩
    have npl:p≠l:=ne_of_none hp.ob hl
    refine ⟨_,rfl,p,_,_,_,rfl,rfl,SqT.of (Same.new hl _ _ hp.ob),rfl,_,rfl,p,_,_,_,rfl,rfl,SqT.of (Same.new hl _ _ hp.ob),rfl,_,_,rfl,rfl,_,_,rfl,⟨by omega,by omega,by omega,by omega⟩,?_⟩
    rw [hh]
    refine for_range (fun i σ H2=>∃ x2 x3,σ=[some (.ref p),some (.ref l),x2,x3]∧Same H H2∧CsAt H2 l z r c w (i*w)) ⟨_,_,rfl,Same.new hl,⟨[],upd_same,by simp,fun k v e=>by simp at e⟩⟩ ?_ ?_
    · rintro i σ H2 hi ⟨x2,x3,rfl,s2,cs2⟩
      have hp2:=hp.same s2
      refine ⟨_,rfl,p,_,_,_,rfl,rfl,SqT.of hp2.ob,rfl,_,rfl,p,_,_,_,rfl,rfl,SqT.of hp2.ob,rfl,_,_,rfl,rfl,_,_,rfl,⟨by omega,by omega,by omega,by omega⟩,?_⟩
      rw [hw]
      refine for_range (fun j σ H3=>∃ x3,σ=[some (.ref p),some (.ref l),some (.int (r+i)),x3]∧Same H H3∧CsAt H3 l z r c w (i*w+j)) ⟨_,rfl,s2,cs2⟩ ?_ ?_
      · rintro j σ H3 hj ⟨x3,rfl,s3,vs,hv1,hv2,hv3⟩
        have hp3:=hp.same s3
        have hlen:i*w+j<1000:=by
          have:i*w≤15*w:=Nat.mul_le_mul_right w (by omega)
          omega
        refine ⟨_,rfl,.inl ⟨rfl,_,SqL.of hv1⟩,_,rfl,p,_,_,_,rfl,rfl,SqT.of hp3.ob,rfl,_,rfl,_,rfl,three_le,fun q hq=>?_⟩
        have nlq:l≠q:=ne_of_none hv1 hq
        refine ⟨l,vs,_,rfl,rfl,(by rw [upd_ne nlq];exact hv1),(by rw [hv2];exact sl_lt (by omega)),?_⟩
        refine ⟨_,rfl,Same.step s3 hl hq,CsAt.push hv1 hv2 hv3 hq ?_ ?_⟩
        · show r+(i:Int)=r+(((i*w+j) / w:Nat):Int)
          rw [Nat.mul_comm i w,Nat.mul_add_div (by omega),Nat.div_eq_of_lt hj];simp
        · show c+(j:Int)=c+(((i*w+j)%w:Nat):Int)
          rw [Nat.mul_comm i w,Nat.mul_add_mod,Nat.mod_eq_of_lt hj]
      · rintro σ H3 ⟨x3,rfl,s3,cs3⟩
        exact ⟨_,_,rfl,s3,by rw [Nat.succ_mul];exact cs3⟩
    · rintro σ H2 ⟨x2,x3,rfl,s2,cs2⟩
      exact ⟨_,rfl,k l _ hl s2 cs2⟩
theorem sctable_of_one:FnScope ["value"] ["value"] (defScope s_table_of_one):=⟨rfl,rfl,rfl,by decide +kernel,rfl,by decide +kernel,by decide +kernel⟩
theorem ok_table_of_one (T:Txt w K mg t):FnOk P w K mg base CX0 1 t.f_table_of_one t.d_table_of_one ["value"] spOne:=by
  have D:=T.c_table_of_one
  refine D.fn.ok sctable_of_one (fun vs H Q E h=>?_) (fun cdv A outer s H vs Q E hr h=>?_)
  · obtain ⟨u,rfl,_⟩:=h
    rfl
  · obtain ⟨u,rfl,k⟩:=h
    have hu:=hr.units0
    have hu1:=hu_of hr
    refine ⟨_,((pss_one (ps_ret (pe_tup (pa_consT (pe_tup (pa_consN (pv 0) pa_nil)) pa_nil))))),?_⟩
    refine ⟨_,rfl,(by show 1≤sizeLine;decide),fun p hp=>⟨(by show 1≤sizeLine;decide),fun q hq=>?_⟩⟩
    exact k _ _ ⟨q,_,rfl,upd_same,.cons ⟨p,rfl,Same.new hq _ _ upd_same⟩ .nil⟩ ((Same.new hp).trans (Same.new hq))
theorem scparts_of:FnScope ["formula"] ["formula"] (defScope s_parts_of):=⟨rfl,rfl,rfl,by decide +kernel,rfl,by decide +kernel,by decide +kernel⟩
theorem ok_parts_of (T:Txt w K mg t):FnOk P w K mg base CX0 1 t.f_parts_of t.d_parts_of ["formula"] spPrt:=by
  have D:=T.c_parts_of
  refine D.fn.ok scparts_of (fun vs H Q E h=>?_) (fun cdv A outer s H vs Q E hr h=>?_)
  · obtain ⟨v,f,pr,n,rfl,_⟩:=h
    rfl
  · obtain ⟨v,f,pr,n,rfl,hv,fo,k⟩:=h
    have hu:=hr.units0
    have hu1:=hu_of hr
    refine ⟨_,((pss_cons (ps_if (pt_cmpR op_eq (pe_ix ix_tup (pv 0) pe_int (fun _ _=>rfl)) pe_str (nomark _)) (pss_one (ps_ret (pe_callTy call_list_of (by rfl) T.list boot_list (pa_consS (pe_ix ix_tup (pv 0) pe_int (fun _ _=>rfl)) pa_nil)))) pss_nil)
      (pss_one (ps_ret (pe_comp (fv:=["formula"]) (js:=[0]) (cl:=[("formula",s.heap.objs.size+1)]) rfl (by with_unfolding_all rfl) ⟨rfl,by decide +kernel,by decide +kernel,rfl,by decide +kernel,by decide +kernel,(List.forall_mem_cons.mpr ⟨⟨rfl,rfl,rfl⟩,(List.forall_mem_nil _)⟩),(List.forall_mem_cons.mpr ⟨rfl,(List.forall_mem_nil _)⟩),(.cons rfl .nil)⟩ (pi_tup (pe_kget2 (pe_gdit T.v_PART_PLACES) (pe_ix ix_tup (pv 0) pe_int (fun _ _=>rfl)) (pe_tup pa_nil) ⟨rfl,rfl,rfl,rfl⟩)) (fun _ _ _ _ _=>pf_nil) (fun _ _ _ _ _=>(pe_ix ixc_tup (pv 1) (pv 0) (fun _ _=>rfl)))))))),?_⟩
    cases hv with
    | @lf a l hl=>
      obtain ⟨w,r,ha,h1,h2,_⟩:=hl.pp
      refine ⟨_,rfl,a,_,_,_,rfl,rfl,SqT.of ha,atI_hd,rfl,false,h1,iteF ?_⟩
      refine fun pa kvs hk hp=>⟨pa,kvs,rfl,hk,_,rfl,a,_,_,_,rfl,rfl,SqT.of ha,atI_hd,Nat.zero_le _,fun e he=>⟨Sum.inr w,rfl,?_⟩⟩
      rw [pp_none hp h2]
      have s1:=Same.new (o:=.tup []) he
      have sq:∀ ws D,upd H e (.tup []) D=none→SqT K (upd (upd H e (.tup [])) D (.lst ws)) e []:=fun ws D hD=>SqT.of (Same.new hD _ _ upd_same)
      refine ⟨e,rfl,⟨_,SqT.of upd_same⟩,fun D hD=>?_⟩
      refine ⟨fun i m H4=>i=0∧H4=upd (upd H e (.tup [])) D (.lst []),⟨0,rfl,rfl⟩,?_⟩
      rintro i m H4 ⟨rfl,rfl⟩
      refine .inl ⟨⟨[],sq _ _ hD,Nat.le_refl _⟩,?_⟩
      exact k D [] _ (Same.back0 s1 hD) upd_same .nil (s1.trans (Same.new hD))
    | @nd a t kd us ps ha ht hl hh=>
      cases fo with
      | nd ok hps=>
      obtain ⟨r0,er⟩:=lay_kw t kd us
      have ha0:H a=some (.tup (.str (kw kd)::r0)):=by rw [ha,er]
      have fm:=FmAt.parts hl hh
      cases ho:isOwn kd with
      | true=>
        obtain ⟨z,rfl⟩:∃ z,kd=.own z:=by cases kd <;> first | exact ⟨_,rfl⟩ | cases ho
        replace ha:H a=some (.tup [vS "own",.str z,.ref t]):=ha
        refine ⟨_,rfl,a,_,_,_,rfl,rfl,SqT.of ha,atI_hd,rfl,true,(by decide +kernel),iteT ?_⟩
        refine ⟨_,rfl,a,_,_,_,rfl,rfl,SqT.of ha,atI_2,t,us,rfl,.inr (SqT.of (ht rfl)),fun d hd=>?_⟩
        exact k d us _ hd upd_same (FmsAt.kp fm (Kp.same (Same.new hd))) (Same.new hd)
      | false=>
        obtain ⟨pl,hpl,lpl,hat⟩:=lay_pl (t:=t) (us:=us) (by rw [hl];exact ok) ho
        have l3:=ok.le
        refine ⟨_,rfl,a,_,_,_,rfl,rfl,SqT.of ha0,atI_hd,rfl,false,congrArg V.bl ((kw_own ok).trans ho),iteF ?_⟩
        refine fun pa kvs hk hp=>⟨pa,kvs,rfl,hk,_,rfl,a,_,_,_,rfl,rfl,SqT.of ha0,atI_hd,Nat.zero_le _,fun e he=>⟨Sum.inr (kw kd),rfl,?_⟩⟩
        obtain ⟨b,hb,hsq⟩:=pp_get hp hpl
        rw [hb]
        have s1:=Same.new (o:=.tup []) he
        have nsl:∀ {D:Addr},upd H e (.tup []) D=none→H D=none:=fun {D} h=>Same.back0 s1 h
        generalize upd H e (.tup [])=H2 at *
        refine ⟨b,rfl,⟨_,hsq _⟩,fun D hD=>?_⟩
        have sD:∀ ws,Same H2 (upd H2 D (.lst ws)):=fun ws=>Same.new hD
        refine ⟨fun i m H4=>m=us.length-i∧i≤us.length∧H4=upd H2 D (.lst (us.take i)),⟨us.length,rfl,Nat.zero_le _,rfl⟩,?_⟩
        rintro i m H4 ⟨rfl,hi,rfl⟩
        by_cases hlt:i<us.length
        · obtain ⟨p,u,hp1,hu1',hat1⟩:=hat i hlt
          have hx1:(pl.map fun (p:Nat)=>V.int p)[i]?=some (.int p):=by rw [List.getElem?_map,hp1];rfl
          refine .inr ⟨⟨_,_,hsq _,hx1⟩,fun x H' y=>?_⟩
          obtain ⟨e,y⟩:=y
          subst e
          have hx:=y _ (hsq _)
          rw [hx1] at hx
          cases hx
          refine ⟨_,rfl,_,rfl,a,_,_,_,rfl,rfl,SqT.of (sD _ _ _ (s1 _ _ ha)),hat1,_,upd_same,sl_lt (by rw [List.length_take];omega),us.length-(i+1),(by omega),rfl,hlt,?_⟩
          rw [upd_upd,List.take_add_one,hu1'];rfl
        have ei:i=us.length:=by omega
        subst ei
        refine .inl ⟨⟨_,hsq _,(by rw [List.length_map,lpl];exact Nat.le_refl _)⟩,?_⟩
        rw [List.take_length]
        have s3:=s1.trans (sD us)
        exact k D us _ (nsl hD) upd_same (FmsAt.kp fm (Kp.same s3)) s3
theorem scblock_led_to:FnScope ["reference","first","last"] ["reference"] (defScope s_block_led_to):=⟨rfl,rfl,rfl,by decide +kernel,rfl,by decide +kernel,by decide +kernel⟩
theorem ok_block_led_to (T:Txt w K mg t):FnOk P w K mg base CX0 1 t.f_block_led_to t.d_block_led_to ["reference"] spBlt:=by
  have D:=T.c_block_led_to
  refine D.fn.ok scblock_led_to (fun vs H Q E h=>?_) (fun cdv A outer s H vs Q E hr h=>?_)
  · obtain ⟨v,l,z,c,d,rfl,_⟩:=h
    rfl
  · obtain ⟨v,l,z,c,d,rfl,hv,hb,k⟩:=h
    have hu:=hr.units0
    have hu1:=hu_of hr
    refine ⟨_,((pss_cons (ps_set (i:=1) scblock_led_to.nd rfl (Or.inl rfl) (pe_ix ix_tup (pv 0) pe_int (fun _ _=>rfl)))
      (pss_cons (ps_set (i:=2) scblock_led_to.nd rfl (Or.inl rfl) (pe_ix ix_tup (pv 0) (pe_un un_neg pe_int) (fun _ _=>rfl)))
      (pss_one (ps_ret (pe_tup (pa_consS (pe_ix ix_tup (pv 0) pe_int (fun _ _=>rfl)) (pa_consS (pe_ix ix_tup (pv 1) pe_int (fun _ _=>rfl)) (pa_consS (pe_ix ix_tup (pv 1) pe_int (fun _ _=>rfl)) (pa_consS (pe_ix ix_tup (pv 2) pe_int (fun _ _=>rfl)) (pa_consS (pe_ix ix_tup (pv 2) pe_int (fun _ _=>rfl)) pa_nil))))))))))),?_⟩
    cases hv with
    | @lf a l hl=>
      obtain ⟨w_,q,u,r,ha,_,hq,hu',hlast⟩:=lfB_at hl hb
      refine ⟨_,rfl,a,_,_,_,rfl,rfl,SqT.of ha,atI_2,_,rfl,1,rfl,a,_,_,_,rfl,rfl,SqT.of ha,(show _=some (V.ref u) by rcases hlast with ⟨rfl,rfl⟩ | rfl <;> rfl),?_⟩
      refine ⟨_,rfl,a,_,_,_,rfl,rfl,SqT.of ha,atI_1,_,rfl,q,_,_,_,rfl,rfl,SqT.of hq,rfl,_,rfl,q,_,_,_,rfl,rfl,SqT.of hq,rfl,_,rfl,u,_,_,_,rfl,rfl,SqT.of hu',rfl,_,rfl,u,_,_,_,rfl,rfl,SqT.of hu',rfl,(by show 5≤sizeLine;decide),k⟩
theorem scall_parts:FnScope ["formula","waiting","row","part"] ["formula"] (defScope s_all_parts):=⟨rfl,rfl,rfl,by decide +kernel,rfl,by decide +kernel,by decide +kernel⟩
theorem ok_all_parts (T:Txt w K mg t):FnOk P w K mg base CX0 2 t.f_all_parts t.d_all_parts ["formula"] spAll:=by
  have D:=T.c_all_parts
  refine D.fn.ok scall_parts (fun vs H Q E h=>?_) (fun cdv A outer s H vs Q E hr h=>?_)
  · obtain ⟨v,f,pr,n,rfl,_⟩:=h
    rfl
  · obtain ⟨v,f,pr,n,rfl,hv,fo,h8,k⟩:=h
    have hu:=hr.units0
    have hu1:=hu_of hr
    refine ⟨_,((pss_cons (ps_set (i:=1) scall_parts.nd rfl (Or.inl rfl) (pe_lst (pa_consN (pv 0) pa_nil)))
      (pss_cons (ps_set (i:=2) scall_parts.nd rfl (Or.inl rfl) (pe_lst pa_nil))
      (pss_cons (ps_while PassesOwn.never (pt_cmpR op_gt (pe_callB call_len_seq (by rfl) T.len PySem.boot_len (pa_consN (pv 1) pa_nil)) pe_int (nomark _)) (pss_cons (ps_set (i:=3) scall_parts.nd rfl (Or.inl rfl) (pe_bm0 PySem.F.plainAttrs_list PySem.F.slot_list_pop PySem.F.type_list_pop mt_pop (pv 1)))
      (pss_cons (ps_expr (pe_bm PySem.F.plainAttrs_list PySem.F.slot_list_append PySem.F.type_list_append mt_append (pv 2) (pa_consN (pv 3) pa_nil)))
      (pss_one (ps_expr (pe_bm PySem.F.plainAttrs_list PySem.F.slot_list_extend PySem.F.type_list_extend mt_extend (pv 1) (pa_consC (pe_cl T.c_parts_of (ok_parts_of T) (hr.mono (by decide)) (pa_consN (pv 3) pa_nil)) pa_nil)))))))
      (pss_one (ps_ret (pe_listrev rfl (by rfl) T.list boot_list (by rfl) T.reversed (pv 2)))))))),?_⟩
    have bd:=szF_le fo h8
    refine ⟨_,rfl,one_le,fun l hl=>?_⟩
    have s0:=Same.new (o:=.lst [v]) hl
    have hl1:upd H l (.lst [v]) l=some (.lst [v]):=upd_same
    have hv1:=FmAt.kp hv (Kp.same s0)
    generalize upd H l (.lst [v])=H1 at *
    refine ⟨Nat.zero_le _,fun r hr'=>?_⟩
    have s1:=Same.new (o:=.lst []) hr'
    have nlr:l≠r:=fun z=>by rw [← z,hl1] at hr';cases hr'
    have hr0:H r=none:=by
      cases c:H r with
      | none=>rfl
      | some o=>rw [s0 _ _ c] at hr';cases hr'
    refine ⟨fun m σ H5=>∃ (vs rs:List V) (fs gs:List Fm) (x:Option V),σ=[some v,some (.ref l),some (.ref r),x]∧H5 l=some (.lst vs)∧H5 r=some (.lst rs)∧FmsAt H5 vs fs∧FmsAt H5 rs gs∧(∀ g∈fs,FO pr n g)∧szs fs=m∧alL fs++gs.reverse=alF f∧Same H H5,
      ⟨szF f,_,_,[f],[],none,rfl,s1 _ _ hl1,upd_same,.cons (FmAt.kp hv1 (Kp.same s1)) .nil,.nil,(fun g hg=>by rw [List.mem_singleton.mp hg];exact fo),(by rw [szs,szs];omega),(by rw [alL,alL];simp),fun b o e=>s1 _ _ (s0 _ _ e)⟩,?_⟩
    rintro m σ H5 ⟨vs,rs,fs,gs,x,rfl,hl5,hr5,fm5,gm5,good,hm,him,s5⟩
    refine ⟨_,rfl,l,_,rfl,.inl (SqL.of hl5),_,_,rfl,rfl,_,rfl,?_⟩
    rcases List.eq_nil_or_concat vs with rfl | ⟨vs',y,hvs⟩
    · have e0:fs=[]:=List.length_eq_zero_iff.mp (Paired.length fm5).symm
      subst e0
      refine iteF ⟨_,rfl,r,rs,rfl,SqL.of hr5,fun lq hlq=>?_⟩
      have e1:gs.reverse=alF f:=by rw [← him,alL,List.nil_append]
      have s6:=Same.new (o:=.lst rs.reverse) hlq
      have hq0:H lq=none:=by
        cases c:H lq with
        | none=>rfl
        | some o=>rw [s5 _ _ c] at hlq;cases hlq
      exact k lq rs.reverse _ hq0 upd_same (by rw [← e1];exact prev (FmsAt.kp gm5 (Kp.same s6))) fun b o e=>s6 _ _ (s5 _ _ e)
    have hvs:vs=vs'++[y]:=by rw [hvs,List.concat_eq_append]
    subst hvs
    obtain ⟨fs',g,rfl,fm',hg⟩:=psplit fm5
    have fg:=good g (by simp)
    have hsz:szs fs'+(1+szs (prtF g))=m:=by
      rw [← hm,szs_app,szs,szs,szF_prt g];omega
    have hne:decide ((0:Int)<((vs'++[y]).length:Int))=true:=decide_eq_true (by rw [List.length_append,List.length_singleton];omega)
    rw [hne]
    refine iteT ⟨fun σ' H'=>∃ m',m'<m∧∃ (vs rs:List V) (fs gs:List Fm) (x:Option V),σ'=[some v,some (.ref l),some (.ref r),x]∧H' l=some (.lst vs)∧H' r=some (.lst rs)∧FmsAt H' vs fs∧FmsAt H' rs gs∧(∀ g∈fs,FO pr n g)∧szs fs=m'∧alL fs++gs.reverse=alF f∧Same H H',fun _ _ z=>z,?_⟩
    refine ⟨_,rfl,.inl ⟨rfl,_,SqL.of hl5⟩,l,_,y,rfl,rfl,hl5,(by simp),?_⟩
    rw [List.dropLast_concat]
    have t7:Kp H5 (upd H5 l (.lst vs')):=Kp.lst hl5 KeepX.upd
    have hl7:upd H5 l (.lst vs') l=some (.lst vs'):=upd_same
    have hr7:upd H5 l (.lst vs') r=some (.lst rs):=by rw [upd_ne nlr.symm];exact hr5
    have fm7:=FmsAt.kp fm' t7
    have gm7:=FmsAt.kp gm5 t7
    have hg7:=FmAt.kp hg t7
    have s7:Same H (upd H5 l (.lst vs')):=fun b o e=>by rw [upd_ne (ne_of_none e hl)];exact s5 _ _ e
    generalize upd H5 l (.lst vs')=H7 at *
    have n0:(alL (fs'++[g])).length+gs.length=szF f:=by rw [← alF_len f,← him,List.length_append,List.length_reverse]
    rw [alL_len] at n0
    have n00:rs.length=gs.length:=Paired.length gm5
    refine ⟨_,rfl,.inl ⟨rfl,_,SqL.of hr7⟩,_,rfl,r,rs,y,rfl,rfl,hr7,slm (by omega),?_⟩
    have t8:Kp H7 (upd H7 r (.lst (rs++[y]))):=Kp.lst hr7 KeepX.upd
    have hl8:upd H7 r (.lst (rs++[y])) l=some (.lst vs'):=by rw [upd_ne nlr];exact hl7
    have hr8:upd H7 r (.lst (rs++[y])) r=some (.lst (rs++[y])):=upd_same
    have fm8:=FmsAt.kp fm7 t8
    have hg8:=FmAt.kp hg7 t8
    have gm8:FmsAt _ (rs++[y]) (gs++[g]):=papp (FmsAt.kp gm7 t8) (.cons hg8 .nil)
    have s8:Same H (upd H7 r (.lst (rs++[y]))):=fun b o e=>by rw [upd_ne (ne_of_none e hr0)];exact s7 _ _ e
    generalize upd H7 r (.lst (rs++[y]))=H8 at *
    refine ⟨_,rfl,.inl ⟨rfl,_,SqL.of hl8⟩,_,rfl,y,g,pr,n,rfl,hg8,fg,fun lp ws HA hlp0 hlp fmp sA=>?_⟩
    have n1:vs'.length=fs'.length:=Paired.length fm7
    have n2:ws.length=(prtF g).length:=Paired.length fmp
    have n3:=szs_len fs'
    have n4:=szs_len (prtF g)
    have n5:szs (fs'++[g])=szs fs'+(1+szs (prtF g)):=by rw [szs_app,szs,szs,szF_prt g];omega
    have hlA:=sA _ _ hl8
    have hrA:=sA _ _ hr8
    refine ⟨l,lp,vs',ws,rfl,rfl,hlA,hlp,slm (by omega),?_⟩
    have tB:Kp HA (upd HA l (.lst (vs'++ws))):=Kp.lst hlA KeepX.upd
    refine ⟨szs fs'+szs (prtF g),(by omega),vs'++ws,rs++[y],fs'++prtF g,gs++[g],_,rfl,upd_same,(by rw [upd_ne nlr.symm];exact hrA),papp (FmsAt.kp fm8 ((Kp.same sA).trans tB)) (FmsAt.kp fmp tB),FmsAt.kp gm8 ((Kp.same sA).trans tB),fun x hx=>?_,szs_app _ _,?_,fun b o e=>?_⟩
    · rcases List.mem_append.mp hx with q | q
      · exact good x (List.mem_append.mpr (.inl q))
      · exact fg.prt x q
    · rw [← him,alL_app,alL_app,alL,alL,alF_prt g];simp
    · rw [upd_ne (ne_of_none e hl)];exact sA _ _ (s8 _ _ e)
theorem sctold_by_parts:FnScope ["row","tell_one","told","formula","first","one"] ["row","tell_one"] (defScope s_told_by_parts):=⟨rfl,rfl,rfl,by decide +kernel,rfl,by decide +kernel,by decide +kernel⟩
theorem ok_told_by_parts (T:Txt w K mg t){B:Type}{At:Hp→V→B→Prop}{sem:Fm→B}{okk:Fm→Prop}{Dp:Hp→Prop}{f0:Addr}(hA:∀ H H' v b,Kp H H'→At H v b→At H' v b)(hD:∀ H H',SmD H H'→Dp H→Dp H')(G:FV P w K mg base 10 f0 (spTell At sem okk Dp)):FnOk P w K mg base CX0 11 t.f_told_by_parts t.d_told_by_parts ["row","tell_one"] (spTold f0 At sem okk Dp):=by
  have D:=T.c_told_by_parts
  refine D.fn.ok sctold_by_parts (fun vs H Q E h=>?_) (fun cdv A outer s H vs Q E hr h=>?_)
  · obtain ⟨l,f,ws,n,rfl,_⟩:=h
    rfl
  · obtain ⟨l,f,ws,n,rfl,hl,fm,fo,h8,okA,hd0,k⟩:=h
    have hu:=hr.units0
    have hu1:=hu_of hr
    refine ⟨_,((pss_cons (ps_set (i:=2) sctold_by_parts.nd rfl (Or.inl rfl) (pe_lst pa_nil))
      (pss_cons (ps_for PassesOwn.never rfl (pi_list (pv 0)) (pg_name (i:=3) sctold_by_parts.nd rfl (Or.inl rfl))
      (pss_cons (ps_set (i:=4) sctold_by_parts.nd rfl (Or.inl rfl) (pe_op op_sub (pe_callB call_len_seq (by rfl) T.len PySem.boot_len (pa_consN (pv 2) pa_nil)) (pe_callB call_len_seq (by rfl) T.len PySem.boot_len (pa_consC (pe_cl T.c_parts_of (ok_parts_of T) (hr.mono (by decide)) (pa_consN (pv 3) pa_nil)) pa_nil))))
      (pss_cons (ps_set (i:=5) sctold_by_parts.nd rfl (Or.inl rfl) (pe_callW (k:=10) (pv 1) (hr.mono (by decide)) (pa_consN (pv 3) (pa_consS (pe_slice sl_list (pv 2) (po_some (pv 4)) po_none) pa_nil))))
      (pss_cons (ps_set (i:=2) sctold_by_parts.nd rfl (Or.inl rfl) (pe_slice sl_list (pv 2) po_none (po_some (pv 4))))
      (pss_one (ps_expr (pe_bm PySem.F.plainAttrs_list PySem.F.slot_list_append PySem.F.type_list_append mt_append (pv 2) (pa_consN (pv 5) pa_nil))))))))
      (pss_one (ps_ret (pe_ix ix_list (pv 2) pe_int (fun _ _=>rfl))))))),?_⟩
    have bd:=szF_le fo h8
    have hwl:ws.length=szF f:=by rw [Paired.length fm,alF_len]
    refine ⟨Nat.zero_le _,fun d0 hd0'=>?_⟩
    have s0:=Same.new (o:=.lst []) hd0'
    refine ⟨_,rfl,l,rfl,⟨_,SqL.of (s0 _ _ hl)⟩,?_⟩
    refine for_list (xs:=ws) (fun i σ H5=>∃ (d:Addr) (vs:List V) (x3 x4 x5:Option V),σ=[some (.ref l),some (.ref f0),some (.ref d),x3,x4,x5]∧H d=none∧H5 d=some (.lst vs)∧Paired (At H5) vs (((alF f).take i).foldl (stepG sem) [])∧Same H H5)
      ⟨d0,[],none,none,none,rfl,hd0',upd_same,.nil,s0⟩ ?_ ?_ ?_
    · rintro i σ H5 _ ⟨d,vs,x3,x4,x5,rfl,_,_,_,s5⟩
      exact SqL.of (s5 _ _ hl)
    · rintro i x σ H5 hx ⟨d,vs,x3,x4,x5,rfl,hd,hd5,sh5,s5⟩
      obtain ⟨g,hg,xg⟩:=paired_at fm hx
      have xg5:=FmAt.kp xg (Kp.same s5)
      have hgm:=List.mem_of_getElem? hg
      have fog:=FO.al f fo g hgm
      obtain ⟨st',est⟩:=pre_FG sem f [] i g hg
      have hlen:vs.length=st'.length+(prtF g).length:=by rw [Paired.length sh5,est,List.length_append,List.length_map]
      have hlen2:vs.length≤i:=by
        rw [Paired.length sh5]
        refine Nat.le_trans (foldG_len sem _ _) ?_
        rw [List.length_take,List.length_nil];omega
      have hi:i<ws.length:=(List.getElem?_eq_some_iff.mp hx).1
      refine ⟨_,rfl,d,vs,rfl,.inl (SqL.of hd5),_,rfl,x,g,0,n,rfl,xg5,fog,fun lp ps H6 hlp0 hlp fmp s6=>?_⟩
      have hpl:ps.length=(prtF g).length:=Paired.length fmp
      have ej:((vs.length:Nat):Int)-((ps.length:Nat):Int)=((st'.length:Nat):Int):=by omega
      refine ⟨lp,ps,rfl,.inl (SqL.of hlp),_,_,rfl,rfl,?_⟩
      have hd6:=s6 _ _ hd5
      have smA:∀ {H1 H2:Hp} {us:List V} {bs:List B},Paired (At H1) us bs→Kp H1 H2→Paired (At H2) us bs:=fun p s=>Paired.imp' (fun _ _ x=>hA _ _ _ _ s x) p
      have sh6:=smA sh5 (Kp.same s6)
      rw [est] at sh6
      have ec:cutV vs (some (((vs.length:Nat):Int)-((ps.length:Nat):Int))) none=vs.drop st'.length:=by rw [ej];exact cut_hi (by omega)
      have el:cutV vs none (some (((vs.length:Nat):Int)-((ps.length:Nat):Int)))=vs.take st'.length:=by rw [ej];exact cut_lo (by omega)
      have shd:Paired (At H6) (vs.drop st'.length) ((prtF g).map sem):=by
        have:=pdrop st'.length sh6
        rwa [List.drop_left] at this
      have sht:Paired (At H6) (vs.take st'.length) st':=by
        have:=ptake st'.length sh6
        rwa [List.take_left] at this
      rw [← ec] at shd
      rw [← el] at sht
      refine ⟨_,rfl,f0,_,rfl,G,_,rfl,_,rfl,_,rfl,_,rfl,d,vs,rfl,SqL.of hd6,fun dq hdq=>?_⟩
      have sq:∀ o,Same H6 (upd H6 dq o):=fun o=>Same.new hdq
      refine ⟨x,g,dq,_,n,rfl,FmAt.kp (FmAt.kp xg5 (Kp.same s6)) (Kp.same (sq _)),fog,okA g hgm,hD _ _ (SmD.of ((s5.trans s6).trans (sq _))) hd0,upd_same,smA shd (Kp.same (sq _)),fun y H8 hy s8=>?_⟩
      have s68:=(sq (.lst (cutV vs (some (((vs.length:Nat):Int)-((ps.length:Nat):Int))) none))).trans s8
      refine ⟨_,rfl,_,rfl,_,rfl,d,vs,rfl,SqL.of (s68 _ _ hd6),fun de hde=>?_⟩
      have se:∀ o,Same H8 (upd H8 de o):=fun o=>Same.new hde
      have hlt:(cutV vs none (some (((vs.length:Nat):Int)-((ps.length:Nat):Int)))).length≤vs.length:=cutV_length _ _ _
      refine ⟨_,rfl,.inl ⟨rfl,_,SqL.of upd_same⟩,_,rfl,de,_,y,rfl,rfl,upd_same,slm (by omega),?_⟩
      have s05:=(s5.trans s6).trans s68
      refine ⟨de,_,_,_,_,rfl,Same.back0 s05 hde,upd_same,?_,fun b o e=>?_⟩
      · have e1:((alF f).take (i+1)).foldl (stepG sem) []=st'++[sem g]:=by
          rw [List.take_add_one,hg,List.foldl_append,est]
          exact stepG_ok sem st' g
        rw [e1]
        have kk:∀ o o',Kp H8 (upd (upd H8 de (.lst o)) de (.lst o')):=fun o o'=>(Kp.same (se _)).trans (Kp.lst upd_same KeepX.upd)
        exact psnoc (smA sht ((Kp.same s68).trans (kk _ _))) (hA _ _ _ _ (kk _ _) hy)
      · rw [upd_ne (ne_of_none (s05 _ _ e) hde)]
        exact se _ _ _ (s05 _ _ e)
    · rintro σ H5 ⟨d,vs,x3,x4,x5,rfl,hd,hd5,sh5,s5⟩
      rw [hwl,← alF_len,List.take_length,fold_FG,List.nil_append] at sh5
      cases sh5 with
      | cons h5 t5=>
        cases t5
        exact ⟨_,rfl,d,_,_,_,rfl,rfl,SqL.of hd5,rfl,k _ _ h5 s5⟩
theorem scblock_shape:FnScope ["block"] ["block"] (defScope s_block_shape):=⟨rfl,rfl,rfl,by decide +kernel,rfl,by decide +kernel,by decide +kernel⟩
theorem ok_block_shape (T:Txt w K mg t):FnOk P w K mg base CX0 1 t.f_block_shape t.d_block_shape ["block"] spBsh:=by
  have D:=T.c_block_shape
  refine D.fn.ok scblock_shape (fun vs H Q E h=>?_) (fun cdv A outer s H vs Q E hr h=>?_)
  · obtain ⟨q,x,a,b,c,d,rfl,_⟩:=h
    rfl
  · obtain ⟨q,x,a,b,c,d,rfl,hq,k⟩:=h
    have hu:=hr.units0
    have hu1:=hu_of hr
    refine ⟨_,((pss_one (ps_ret (pe_tup (pa_consB (pe_op op_add (pe_op op_sub (pe_ix ix_tup (pv 0) pe_int (fun _ _=>rfl)) (pe_ix ix_tup (pv 0) pe_int (fun _ _=>rfl))) pe_int) (pa_consB (pe_op op_add (pe_op op_sub (pe_ix ix_tup (pv 0) pe_int (fun _ _=>rfl)) (pe_ix ix_tup (pv 0) pe_int (fun _ _=>rfl))) pe_int) pa_nil)))))),?_⟩
    refine ⟨_,rfl,q,_,_,_,rfl,rfl,SqT.of hq,rfl,_,rfl,q,_,_,_,rfl,rfl,SqT.of hq,rfl,_,_,rfl,rfl,_,_,rfl,rfl,_,rfl,q,_,_,_,rfl,rfl,SqT.of hq,rfl,_,rfl,q,_,_,_,rfl,rfl,SqT.of hq,rfl,_,_,rfl,rfl,_,_,rfl,rfl,two_le,k⟩
theorem scshown_table:FnScope ["block","shows"] ["block","shows"] (defScope s_shown_table):=⟨rfl,rfl,rfl,by decide +kernel,rfl,by decide +kernel,by decide +kernel⟩
theorem ok_shown_table (T:Txt w K mg t){Dp:Hp→Prop}{dom:Str→Int→Int→Prop}{g:Str→Int→Int→Vl}{f:Addr}(G:FV P w K mg base 1 f (spSh Dp dom g))(hD:∀ H H',SmD H H'→Dp H→Dp H'):FnOk P w K mg base CX0 2 t.f_shown_table t.d_shown_table ["block","shows"] (spShown f Dp dom g):=by
  have D:=T.c_shown_table
  refine D.fn.ok scshown_table (fun vs H Q E h=>?_) (fun cdv A outer s H vs Q E hr h=>?_)
  · obtain ⟨b,z,r,c,r2,c2,rfl,_⟩:=h
    rfl
  · obtain ⟨b,z,r,c,r2,c2,rfl,hb,hd,hdom,k⟩:=h
    have hu:=hr.units0
    have hu1:=hu_of hr
    refine ⟨_,((pss_one (ps_ret (pe_cl T.c_table_in_rows (ok_table_in_rows T) (hr.mono (by decide)) (pa_consH (pe_comp (fv:=["shows"]) (js:=[1]) (cl:=[("shows",s.heap.objs.size+1)]) rfl (by with_unfolding_all rfl) ⟨rfl,by decide +kernel,by decide +kernel,rfl,by decide +kernel,by decide +kernel,(List.forall_mem_cons.mpr ⟨⟨rfl,rfl,rfl⟩,(List.forall_mem_nil _)⟩),(List.forall_mem_cons.mpr ⟨rfl,(List.forall_mem_nil _)⟩),(.cons rfl .nil)⟩ (pi_list (pe_cl T.c_cells_of (ok_cells_of T) (hr.mono (by decide)) (pa_consN (pv 0) pa_nil))) (fun _ _ _ _ _=>pf_nil) (fun _ _ _ _ _=>(pe_callWc (k:=1) (pv 1) (hr.mono (by decide)) (pa_consN (pv 0) pa_nil)))) (pa_consS (pe_ix ix_tup (pe_cl T.c_block_shape (ok_block_shape T) (hr.mono (by decide)) (pa_consN (pv 0) pa_nil)) pe_int (fun _ _=>rfl)) pa_nil)))))),?_⟩
    have g1:=hb.r1;have g2:=hb.r16;have g3:=hb.c1;have g4:=hb.c8;have g5:=hb.r0;have g6:=hb.c0
    refine ⟨_,rfl,b,z,r,c,r2,c2,rfl,hb,fun l H1 hl0 s1 cs=>?_⟩
    generalize hwd:(c2-c+1).toNat=w_ at *
    generalize hhd:(r2-r+1).toNat=h_ at *
    obtain ⟨cs1,hl1,hcl,hcs⟩:=cs
    have hhw:h_*w_≤16*8:=Nat.mul_le_mul (by omega) (by omega)
    refine ⟨l,rfl,⟨_,SqL.of hl1⟩,fun D hD'=>?_⟩
    have sD:∀ o,Same H1 (upd H1 D o):=fun o=>Same.new hD'
    refine ⟨fun i m H4=>m=h_*w_-i∧i≤h_*w_∧∃ us,H4 D=some (.lst us)∧VsAt H4 us ((List.range i).map fun (k:Nat)=>g z (r+((k / w_:Nat):Int)) (c+((k%w_:Nat):Int)))∧Same H1 H4,⟨h_*w_,rfl,Nat.zero_le _,[],upd_same,.nil,sD _⟩,?_⟩
    rintro i m H4 ⟨rfl,hi,us,hD4,vs4,s4⟩
    have ul:us.length=i:=by rw [Paired.length vs4,List.length_map,List.length_range]
    by_cases hlt:i<h_*w_
    · obtain ⟨x,hx⟩:∃ x,cs1[i]?=some x:=⟨cs1[i]'(by omega),List.getElem?_eq_getElem (by omega)⟩
      refine .inr ⟨⟨_,_,SqL.of (s4 _ _ hl1),hx⟩,fun x' H' y=>?_⟩
      obtain ⟨rfl,y⟩:=y
      have hx':=y _ (SqL.of (s4 _ _ hl1))
      rw [hx] at hx'
      cases hx'
      obtain ⟨a,rfl,hA⟩:=hcs i x hx
      have hw1:1≤w_:=by omega
      have d1:((i / w_:Nat):Int)<(h_:Int):=by
        have:=Nat.div_lt_of_lt_mul (show i<w_*h_ by rw [Nat.mul_comm];exact hlt)
        omega
      have d0:=Int.natCast_nonneg (i / w_)
      have d3:=Int.natCast_nonneg (i%w_)
      have d2:((i%w_:Nat):Int)<(w_:Int):=by
        have:=Nat.mod_lt i (show w_>0 by omega)
        omega
      refine ⟨_,rfl,f,_,rfl,G,_,rfl,a,z,_,_,rfl,s4 _ _ hA,hD _ _ (SmD.of (s1.trans s4)) hd,hdom _ _ (by omega) (by omega) (by omega) (by omega),fun x5 H5 hx5 s5=>?_⟩
      refine ⟨us,s5 _ _ hD4,sl_lt (by omega),h_*w_-(i+1),(by omega),rfl,hlt,us++[x5],upd_same,?_,fun b' o e=>?_⟩
      · rw [List.range_succ,List.map_append]
        have kd:Kp H5 (upd H5 D (.lst (us++[x5]))):=Kp.lst (s5 _ _ hD4) KeepX.upd
        exact psnoc (VsAt.kp (VsAt.kp vs4 (Kp.same s5)) kd) (hx5.kp kd)
      · have nb:b'≠D:=ne_of_none e hD'
        rw [upd_ne nb];exact s5 _ _ (s4 _ _ e)
    · have ei:i=h_*w_:=by omega
      subst ei
      refine .inl ⟨⟨_,SqL.of (s4 _ _ hl1),(by omega)⟩,?_⟩
      have hb4:=hb.same (s1.trans s4)
      refine ⟨_,rfl,b,_,r,c,r2,c2,rfl,hb4.ob,fun p hp=>⟨p,_,_,_,rfl,rfl,SqT.of upd_same,rfl,?_⟩⟩
      have ew:c2-c+1=(w_:Int):=by omega
      have hw1:1≤w_:=by omega
      refine ⟨D,us,w_,h_,(by rw [ew];rfl),Same.new hp _ _ hD4,ul,hw1,(by omega),(by omega),fun x H' hx s'=>k x H' ⟨_,hx,?_⟩ ((s1.trans s4).trans ((Same.new hp).trans s'))⟩
      rw [← chunk_blk hw1]
      exact chunk_paired (VsAt.kp vs4 (Kp.same ((Same.new hp).trans s')))
theorem scleaf_table:FnScope ["leaf","cell","shows"] ["leaf","cell","shows"] (defScope s_leaf_table):=⟨rfl,rfl,rfl,by decide +kernel,rfl,by decide +kernel,by decide +kernel⟩
theorem ok_leaf_table (T:Txt w K mg t){Dp:Hp→Prop}{dom:Str→Int→Int→Prop}{g:Str→Int→Int→Vl}{f:Addr}(G:FV P w K mg base 1 f (spSh Dp dom g))(hD:∀ H H',SmD H H'→Dp H→Dp H'):FnOk P w K mg base CX0 3 t.f_leaf_table t.d_leaf_table ["leaf","cell","shows"] (spLtb f Dp dom g):=by
  have D:=T.c_leaf_table
  refine D.fn.ok scleaf_table (fun vs H Q E h=>?_) (fun cdv A outer s H vs Q E hr h=>?_)
  · obtain ⟨v,u,l,z,c,d,rfl,_⟩:=h
    rfl
  · obtain ⟨v,u,l,z,c,d,rfl,hv,lg,hd,k⟩:=h
    have hu:=hr.units0
    have hu1:=hu_of hr
    refine ⟨_,((pss_cons (ps_if (pt_cmpR op_eq (pe_ix ix_tup (pv 0) pe_int (fun _ _=>rfl)) pe_str (nomark _)) (pss_one ps_never) pss_nil)
      (pss_cons (ps_if (pt_cmpR op_eq (pe_ix ix_tup (pv 0) pe_int (fun _ _=>rfl)) pe_str (nomark _)) (pss_one ps_never) pss_nil)
      (pss_one (ps_ret (pe_cl T.c_shown_table (ok_shown_table T G hD) (hr.mono (by omega)) (pa_consC (pe_cl T.c_block_led_to (ok_block_led_to T) (hr.mono (by decide)) (pa_consN (pv 0) pa_nil)) (pa_consN (pv 2) pa_nil)))))))),?_⟩
    cases id hv with
    | @lf a l hl=>
      obtain ⟨w_,q,u_,r,ha,hw,_⟩:=lfB_at hl lg.b
      have n1:decide (V.str w_=vS "value")=false:=by rcases hw with rfl | rfl <;> decide +kernel
      have n2:decide (V.str w_=vS "fault")=false:=by rcases hw with rfl | rfl <;> decide +kernel
      refine ⟨_,rfl,a,_,_,_,rfl,rfl,SqT.of ha,atI_hd,rfl,false,congrArg V.bl n1,iteF ?_⟩
      refine ⟨_,rfl,a,_,_,_,rfl,rfl,SqT.of ha,atI_hd,rfl,false,congrArg V.bl n2,iteF ?_⟩
      refine ⟨_,rfl,.ref a,l,z,c,d,rfl,hv,lg.b,fun p hp=>⟨_,rfl,?_⟩⟩
      refine ⟨p,z,c.r,c.c,d.r,d.c,rfl,⟨upd_same,lg.nm,lg.r0,lg.r1,lg.r16,lg.c0,lg.c1,lg.c8⟩,hD _ _ (SmD.of (Same.new hp)) hd,lg.dm,fun x H' hx s=>k x H' ?_ ((Same.new hp).trans s)⟩
      unfold lfT
      rw [lg.b]
      exact hx
theorem scsingle_value:FnScope ["formula","tables","cell","outer","kind","first"] ["formula","tables","cell","outer"] (defScope s_single_value):=⟨rfl,rfl,rfl,by decide +kernel,rfl,by decide +kernel,by decide +kernel⟩
theorem ok_single_value (T:Txt w K mg t):FnOk P w K mg base CX0 8 t.f_single_value t.d_single_value ["formula","tables","cell","outer"] spSg7:=by
  have D:=T.c_single_value
  refine D.fn.ok scsingle_value (fun vs H Q E h=>?_) (fun cdv A outer s H vs Q E hr h=>?_)
  · obtain ⟨v,y,o,l,a,x0,z_,r,m,w_,hm,β,γ,rfl,_⟩:=h
    rfl
  · obtain ⟨v,y,o,l,a,x0,z_,r,m,w_,hm,β,γ,rfl,rfl,hz4,ha,hl,t0,rm,m30,w30,okm,nok,hy,k⟩:=h
    have hu:=hr.units0
    have hu1:=hu_of hr
    refine ⟨_,((pss_cons (ps_set (i:=4) scsingle_value.nd rfl (Or.inl rfl) (pe_ix ix_tup (pv 0) pe_int (fun _ _=>rfl)))
      (pss_cons (ps_set (i:=5) scsingle_value.nd rfl (Or.inl rfl) (pe_ix ix_list (pv 1) pe_int (fun _ _=>rfl)))
      (pss_cons (ps_if (pt_cmpR op_eq (pv 4) pe_str (nomark _)) (pss_one (ps_ret (pe_cl T.c_summed_up (ok_summed_up T) (hr.mono (by decide)) (pa_consN (pv 5) (pa_consN (pv 2) pa_nil))))) pss_nil)
      (pss_cons (ps_if (pt_cmpR op_eq (pv 4) pe_str (nomark _)) (pss_one (ps_ret (pe_cl T.c_counted_up (ok_counted_up T) (hr.mono (by decide)) (pa_consN (pv 5) pa_nil)))) pss_nil)
      (pss_cons (ps_if (pw_or (pt_cmpR op_eq (pv 4) pe_str (nomark _)) (pw_or1 (pt_cmpR op_eq (pv 4) pe_str (nomark _)))).pt (pss_one (ps_ret (pe_cl T.c_ends_of (ok_ends_of T) (hr.mono (by decide)) (pa_consN (pv 5) (pa_consM (pe_cmpR op_eq (pv 4) pe_str (nomark _)) pa_nil))))) pss_nil)
      (pss_cons (ps_if (pt_cmpR op_eq (pv 4) pe_str (nomark _)) (pss_one ps_never) pss_nil)
      (pss_cons (ps_if (pt_cmpR op_eq (pv 4) pe_str (nomark _)) (pss_one ps_never) pss_nil)
      (pss_one ps_never))))))))),?_⟩
    refine ⟨_,rfl,a,_,_,_,rfl,rfl,SqT.of ha,atI_hd,?_⟩
    refine ⟨_,rfl,l,_,_,_,rfl,rfl,SqL.of hl,rfl,?_⟩
    rcases mem_W4 hz4 with rfl | rfl | rfl | rfl
    · refine ⟨_,rfl,rfl,true,(by decide +kernel),iteT ?_⟩
      refine ⟨_,rfl,_,rfl,x0,y,m,w_,hm,β,γ,rfl,t0,rm,w30,m30,nok,hy,fun z H' hz s=>k z H' ?_ s⟩
      unfold fn1
      rw [if_pos rfl]
      exact hz
    · refine ⟨_,rfl,rfl,false,(by decide +kernel),iteF ?_⟩
      refine ⟨_,rfl,rfl,true,(by decide +kernel),iteT ?_⟩
      refine ⟨_,rfl,x0,m,w_,rfl,t0,rm,w30,m30,fun z H' hz s=>k z H' ?_ s⟩
      unfold fn1
      rw [if_neg (by decide +kernel),if_pos rfl]
      exact hz
    · refine ⟨_,rfl,rfl,false,(by decide +kernel),iteF ?_⟩
      refine ⟨_,rfl,rfl,false,(by decide +kernel),iteF ?_⟩
      refine ⟨_,rfl,rfl,true,(by decide +kernel),iteT (iteT ?_)⟩
      refine ⟨_,rfl,_,rfl,rfl,x0,false,m,w_,(by rw [show decide (V.str (Str.ofString "least")=V.str (Str.ofString "most"))=false by decide +kernel];rfl),t0,rm,w30,m30,okm,fun z H' hz s=>k z H' ?_ s⟩
      unfold fn1
      rw [if_neg (by decide +kernel),if_neg (by decide +kernel),show decide (Str.ofString "least"=Str.ofString "most")=false by decide +kernel]
      exact hz
    · refine ⟨_,rfl,rfl,false,(by decide +kernel),iteF ?_⟩
      refine ⟨_,rfl,rfl,false,(by decide +kernel),iteF ?_⟩
      refine ⟨_,rfl,rfl,false,(by decide +kernel),iteF ?_⟩
      refine ⟨_,rfl,rfl,true,(by decide +kernel),iteT ?_⟩
      refine ⟨_,rfl,_,rfl,rfl,x0,true,m,w_,(by rw [show decide (V.str (Str.ofString "most")=V.str (Str.ofString "most"))=true by decide +kernel];rfl),t0,rm,w30,m30,okm,fun z H' hz s=>k z H' ?_ s⟩
      unfold fn1
      rw [if_neg (by decide +kernel),if_neg (by decide +kernel),show decide (Str.ofString "most"=Str.ofString "most")=true by decide +kernel]
      exact hz
theorem sctable_by_parts:FnScope ["formula","tables","cell","shows","outer","kind"] ["formula","tables","cell","shows","outer"] (defScope s_table_by_parts):=⟨rfl,rfl,rfl,by decide +kernel,rfl,by decide +kernel,by decide +kernel⟩
theorem ok_table_by_parts (T:Txt w K mg t){Dp:Hp→Prop}{dom:Str→Int→Int→Prop}{g:Str→Int→Int→Vl}{hm:Hm}{f:Addr}(G:FV P w K mg base 1 f (spSh Dp dom g))(hD:∀ H H',SmD H H'→Dp H→Dp H'):FnOk P w K mg base CX0 9 t.f_table_by_parts t.d_table_by_parts ["formula","tables","cell","shows","outer"] (spTb7 f Dp dom g hm):=by
  have D:=T.c_table_by_parts
  refine D.fn.ok sctable_by_parts (fun vs H Q E h=>?_) (fun cdv A outer s H vs Q E hr h=>?_)
  · obtain ⟨v,y,o,fm,l,us,n,rfl,_⟩:=h
    rfl
  · obtain ⟨v,y,o,fm,l,us,n,rfl,hv,fo,ok,hd,hl,tb,hy,k⟩:=h
    have hu:=hr.units0
    have hu1:=hu_of hr
    refine ⟨_,((pss_cons (ps_set (i:=5) sctable_by_parts.nd rfl (Or.inl rfl) (pe_ix ix_tup (pv 0) pe_int (fun _ _=>rfl)))
      (pss_cons (ps_if (pt_cmpR op_eq (pe_callB call_len_seq (by rfl) T.len PySem.boot_len (pa_consN (pv 1) pa_nil)) pe_int (nomark _)) (pss_one (ps_ret (pe_cl T.c_leaf_table (ok_leaf_table T G hD) (hr.mono (by omega)) (pa_consN (pv 0) (pa_consN (pv 2) (pa_consN (pv 3) pa_nil)))))) pss_nil)
      (pss_cons (ps_if (pt_cmpR op_eq (pv 5) pe_str (nomark _)) (pss_one ps_never) pss_nil)
      (pss_cons (ps_if (pt_cmpR op_eq (pv 5) pe_str (nomark _)) (pss_one ps_never) pss_nil)
      (pss_cons (ps_if (pt_cmpR op_eq (pv 5) pe_str (nomark _)) (pss_one ps_never) pss_nil)
      (pss_cons (ps_if (pt_cmpR op_eq (pv 5) pe_str (nomark _)) (pss_one ps_never) pss_nil)
      (pss_cons (ps_if (pt_cmpR op_eq (pv 5) pe_str (nomark _)) (pss_one ps_never) pss_nil)
      (pss_cons (ps_if (pt_cmpR op_eq (pv 5) pe_str (nomark _)) (pss_one ps_never) pss_nil)
      (pss_one (ps_ret (pe_cl T.c_table_of_one (ok_table_of_one T) (hr.mono (by decide)) (pa_consC (pe_cl T.c_single_value (ok_single_value T) (hr.mono (by decide)) (pa_consN (pv 0) (pa_consN (pv 1) (pa_consN (pv 2) (pa_consN (pv 4) pa_nil))))) pa_nil))))))))))))),?_⟩
    rcases ok with ⟨lf,rfl,⟨z_,c_,d_,lg⟩,_⟩ | ⟨z_,fa,rfl,hz4,⟨⟨za,ca,da,ga⟩,va⟩,β,γ,nok⟩
    · obtain ⟨a,rfl,ha⟩:=lf_FmAt hv
      obtain ⟨w_,r,haa,_⟩:=ha.pp
      have tb':Paired (TbAt H) us []:=tb
      cases tb'
      refine ⟨_,rfl,a,_,_,_,rfl,rfl,SqT.of haa,atI_hd,?_⟩
      refine ⟨_,rfl,l,_,rfl,.inl (SqL.of hl),rfl,true,(by simp),iteT ?_⟩
      exact ⟨_,rfl,_,rfl,_,rfl,.ref a,y,lf,_,_,_,rfl,hv,lg,hd,k⟩
    · obtain ⟨ra,sa,wa⟩:=ga.rect (g:=g)
      have tb':Paired (TbAt H) us [lfT g fa]:=tb
      cases tb' with
      | @cons x0 _ _ _ t0 tb'=>
        cases tb'
        cases hv with
        | @nd a t _ us _ ha ht hl' hh=>
          have ha':H a=some (.tup (.str z_::us)):=ha
          refine ⟨_,rfl,a,_,_,_,rfl,rfl,SqT.of ha',atI_hd,?_⟩
          refine ⟨_,rfl,l,_,rfl,.inl (SqL.of hl),rfl,false,(by simp),iteF ?_⟩
          refine ⟨_,rfl,rfl,false,no_W4 hz4 (by simp),iteF ?_⟩
          refine ⟨_,rfl,rfl,false,no_W4 hz4 (by simp),iteF ?_⟩
          refine ⟨_,rfl,rfl,false,no_W4 hz4 (by simp),iteF ?_⟩
          refine ⟨_,rfl,rfl,false,no_W4 hz4 (by simp),iteF ?_⟩
          refine ⟨_,rfl,rfl,false,no_W4 hz4 (by simp),iteF ?_⟩
          refine ⟨_,rfl,rfl,false,no_W4 hz4 (by simp),iteF ?_⟩
          refine ⟨_,rfl,_,rfl,_,rfl,_,rfl,.ref a,y,o,l,a,x0,z_,us,_,_,hm,β,γ,rfl,rfl,hz4,ha',hl,t0,ra,(by omega),(by omega),va,nok,hy,fun z H1 hz s1=>?_⟩
          refine ⟨z,rfl,fun x H2 hx s2=>k x H2 ⟨_,hx,.cons (.cons (hz.kp (Kp.same s2)) .nil) .nil⟩ (s1.trans s2)⟩
theorem screckoned:FnScope ["opened","cell","shows","outer"] ["opened","cell","shows","outer"] (defScope s_reckoned):=⟨rfl,rfl,rfl,by decide +kernel,rfl,by decide +kernel,by decide +kernel⟩
theorem ok_reckoned (T:Txt w K mg t){Dp:Hp→Prop}{dom:Str→Int→Int→Prop}{g:Str→Int→Int→Vl}{f:Addr}(G:FV P w K mg base 1 f (spSh Dp dom g))(hD:∀ H H',SmD H H'→Dp H→Dp H')(hC:PySem.W.CodeHd base t.c_reckoned t.P_reckoned)(hB:BM mg base):FnOk P w K mg base CX0 12 t.f_reckoned t.d_reckoned ["opened","cell","shows","outer"] (spRck7 t.P_reckoned f Dp dom g):=by
  have D:=T.c_reckoned
  refine D.fn.okC screckoned (fun vs H Q E h=>?_) (fun cdv A outer s H vs Q E hcd hr h=>?_)
  · obtain ⟨v,y,o,fm,n,hm,rfl,_⟩:=h
    rfl
  · obtain ⟨v,y,o,fm,n,hm,rfl,hv,fo,h8,okA,hd,hy,ht,k⟩:=h
    have hu:=hr.units0
    have hu1:=hu_of hr
    refine ⟨_,((pss_one (ps_ret (pe_callL (k:=11) (hr.mono (by decide)) (by rfl) T.c_told_by_parts.gl T.c_told_by_parts.fn.kp T.c_told_by_parts.b (pa_consC (pe_cl T.c_all_parts (ok_all_parts T) (hr.mono (by decide)) (pa_consN (pv 0) pa_nil)) (pa_consZ (pe_lam (clos:=[("shows",s.heap.objs.size+2),("outer",s.heap.objs.size+3),("cell",s.heap.objs.size+1)]) rfl (by with_unfolding_all rfl) (hcd.symm.trans T.kc_reckoned) hC hB) pa_nil)))))),?_⟩
    refine ⟨_,rfl,v,fm,0,n,rfl,hv,fo,h8,fun l ws H1 hl0 hl fms s1=>?_⟩
    refine ⟨ht.sm s1,fun lf H2 nf keep tab lam=>?_⟩
    obtain ⟨ps,hP,_⟩:=ht.sm s1
    have d2:SmD H1 H2:=SmD.tab hP keep
    have dd:SmD H (L2.del qR H2):=((SmD.of s1).trans d2).trans (SmD.del qR H2)
    obtain ⟨c',ctv,hlf,hcd'⟩:=lam
    refine ⟨qR,spTold lf TbAt (sem7 g hm) (okF7 dom g hm) (fun H=>Dp H∧HmAt H y hm),fun base' W=>?_,?_⟩
    · refine ok_told_by_parts T (fun H H' v b s x=>x.kp s) (fun H H' s x=>⟨hD _ _ s x.1,x.2.kp s.kp⟩) ?_
      refine W.lam (k:=9) (ps:=["formula","tables"]) (fv:=["cell","shows","outer"]) (js:=[1,2,3]) hlf hcd' ⟨rfl,rfl,rfl,by decide +kernel,(List.forall_mem_cons.mpr ⟨rfl,(List.forall_mem_cons.mpr ⟨rfl,(List.forall_mem_nil _)⟩)⟩),by decide +kernel,by decide +kernel,(List.forall_mem_cons.mpr ⟨⟨rfl,rfl,rfl⟩,(List.forall_mem_cons.mpr ⟨⟨rfl,rfl,rfl⟩,(List.forall_mem_cons.mpr ⟨⟨rfl,rfl,rfl⟩,(List.forall_mem_nil _)⟩)⟩)⟩),(List.forall_mem_cons.mpr ⟨rfl,(List.forall_mem_cons.mpr ⟨rfl,(List.forall_mem_cons.mpr ⟨rfl,(List.forall_mem_nil _)⟩)⟩)⟩),(.cons rfl (.cons rfl (.cons rfl .nil)))⟩ (fun us hl=>by obtain ⟨_,_,rfl⟩:=len_2 hl;rfl) (fun vs H Q E h=>?_) (fun A outer s H vs Q E hr h=>?_)
      · obtain ⟨_,_,_,_,_,rfl,_⟩:=h
        rfl
      · obtain ⟨v',f',l',us',n',rfl,hv',fo',ok',⟨hd',hy'⟩,hl',tb',k'⟩:=h
        refine ⟨_,(pe_cl T.c_table_by_parts (ok_table_by_parts (hm:=hm) T (W.fv G) hD) (hr.mono (by omega)) (pa_consN (pv 0) (pa_consN (pv 1) (pa_consN (pv 2) (pa_consN (pv 3) (pa_consN (pv 4) pa_nil)))))),?_⟩
        exact ⟨_,rfl,_,rfl,_,rfl,_,rfl,_,rfl,v',y,o,f',l',us',n',rfl,hv',fo',ok',hd',hl',tb',hy',k'⟩
    · have d3:=d2.trans (SmD.del qR H2)
      refine ⟨l,fm,ws,n,rfl,d3 _ _ hl rfl,FmsAt.kp fms d3.kp,fo,h8,okA,⟨hD _ _ dd hd,hy.kp dd.kp⟩,fun x H3 hx s3 hn=>?_⟩
      exact k x _ (hx.kp (Kp.back hn)) (fun b o hb e=>same_put s3 _ _ (keep b o hb (s1 _ _ e))) (tab.sm (same_put s3))
theorem sc_law_lowest:FnScope ["_law_top","_law_bottom","_law_one","_law_other"] ["_law_top","_law_bottom"] (defScope s__law_lowest):=⟨rfl,rfl,rfl,by decide +kernel,rfl,by decide +kernel,by decide +kernel⟩
theorem ok__law_lowest (T:Txt w K mg t):FnOk P w K mg base CX0 1 t.f__law_lowest t.d__law_lowest ["_law_top","_law_bottom"] spLoV:=by
  have D:=T.c__law_lowest
  refine D.fn.ok sc_law_lowest (fun vs H Q E h=>?_) (fun cdv A outer s H vs Q E hr h=>?_)
  · obtain ⟨t_,b,rfl,_⟩:=h
    rfl
  · obtain ⟨t_,b,rfl,hb1,hz,k⟩:=h
    have hu:=hr.units0
    have hu1:=hu_of hr
    refine ⟨_,((pss_cons (ps_set (i:=2) sc_law_lowest.nd rfl (Or.inl rfl) (pe_callB call_abs (by rfl) T.abs boot_abs (pa_consN (pv 0) pa_nil)))
      (pss_cons (ps_set (i:=3) sc_law_lowest.nd rfl (Or.inl rfl) (pv 1))
      (pss_cons (ps_while PassesOwn.never (pt_cmpR op_gt (pv 3) pe_int (nomark _)) (pss_one (ps_par (i:=2) (j:=3) rfl sc_law_lowest.nd rfl rfl (by decide) rfl rfl (pa_consN (pv 3) (pa_consB (pe_op op_mod (pv 2) (pv 3)) pa_nil)) rfl)))
      (pss_one (ps_ret (pe_tup (pa_consK pe_str (pa_consB (pe_op op_fdivW (pv 0) (pv 2)) (pa_consB (pe_op op_fdivW (pv 1) (pv 2)) pa_nil)))))))))),?_⟩
    have hb:b≠0:=by omega
    refine ⟨_,rfl,t_,rfl,?_⟩
    refine ⟨_,rfl,?_⟩
    refine while_by (fun σ H'=>H'=H∧∃ (m n:Nat),σ=[some (.int t_),some (.int b),some (.int m),some (.int n)]∧Nat.gcd m n=Nat.gcd t_.natAbs b.natAbs)
      (fun σ _=>lastN σ) ⟨rfl,t_.natAbs,b.natAbs,by rw [← abs_if t_,show ((b.natAbs:Nat):Int)=b by omega];rfl,rfl⟩ ?_ (fun σ H Q Q' hq ⟨v,e,i,j,z1,z2,c,e2,q⟩=>⟨v,e,i,j,z1,z2,c,e2,hq _ _ q⟩)
    rintro σ H' ⟨rfl,m,n,rfl,hg⟩
    refine ⟨_,rfl,_,_,rfl,rfl,_,rfl,?_⟩
    refine ite2 (fun hc=>?_) (fun hc=>?_)
    · have hn:(0:Int)<(n:Int):=by simpa using hc
      refine ⟨_,rfl,_,rfl,_,rfl,_,_,rfl,rfl,hn,_,_,rfl,?_⟩
      refine ⟨⟨rfl,n,m%n,?_,by rw [gcd_turn];exact hg⟩,?_⟩
      · rw [Int.natCast_emod];rfl
      · show ((m:Int)%(n:Int)).toNat<((n:Int)).toNat
        have h1:=Int.emod_lt_of_pos (m:Int) hn
        have h2:=Int.emod_nonneg (m:Int) (show (n:Int)≠0 by omega)
        omega
    · have hn':¬ (0:Int)<(n:Int):=by simpa using hc
      have hn:n=0:=by omega
      subst hn
      rw [Nat.gcd_zero_right] at hg
      subst hg
      have h0:=dv_ne (t:=t_) hb
      have h1:=sz_dv (t:=t_) hb hz
      unfold lowT lowB at k
      have e:dv t_ b=((Nat.gcd t_.natAbs b.natAbs:Nat):Int):=if_neg (by omega)
      rw [e] at k h0 h1
      exact ⟨_,rfl,_,rfl,_,_,rfl,rfl,⟨h0,h1⟩,_,rfl,_,rfl,_,_,rfl,rfl,⟨h0,h1⟩,three_le,k⟩
theorem sc_law_cell_at:FnScope ["_law_script","_law_k"] ["_law_script","_law_k"] (defScope s__law_cell_at):=⟨rfl,rfl,rfl,by decide +kernel,rfl,by decide +kernel,by decide +kernel⟩
theorem ok__law_cell_at (T:Txt w K mg t):FnOk P w K mg base CX0 1 t.f__law_cell_at t.d__law_cell_at ["_law_script","_law_k"] (spCat K):=by
  have D:=T.c__law_cell_at
  refine D.fn.ok sc_law_cell_at (fun vs H Q E h=>?_) (fun cdv A outer s H vs Q E hr h=>?_)
  · obtain ⟨a,ns,i,rfl,_⟩:=h
    rfl
  · obtain ⟨a,ns,i,rfl,hS,h0,k⟩:=h
    have hu:=hr.units0
    have hu1:=hu_of hr
    refine ⟨_,((pss_cons (ps_if (pt_cmpR op_lt (pv 1) (pe_callB call_len_seq (by rfl) T.len PySem.boot_len (pa_consN (pv 0) pa_nil)) (nomark _)) (pss_one (ps_ret (pe_ix ix_list (pv 0) (pv 1) (fun _ _=>rfl)))) pss_nil)
      (pss_one (ps_ret pe_int)))),?_⟩
    refine ⟨_,rfl,_,rfl,a,_,rfl,.inl hS,_,_,rfl,rfl,_,rfl,ite2 (fun c1=>?_) (fun c1=>k 0)⟩
    have hlt:i<(ns.length:Int):=by have:=of_decide_eq_true c1;rw [List.length_map] at this;exact this
    obtain ⟨v,hv⟩:=atI_ints (ns:=ns) h0 hlt
    exact ⟨_,rfl,_,rfl,a,_,_,_,rfl,rfl,hS,hv,k v⟩
theorem sc_law_pen:FnScope ["_law_script"] ["_law_script"] (defScope s__law_pen):=⟨rfl,rfl,rfl,by decide +kernel,rfl,by decide +kernel,by decide +kernel⟩
theorem ok__law_pen (T:Txt w K mg t):FnOk P w K mg base CX0 2 t.f__law_pen t.d__law_pen ["_law_script"] (spPeM K):=by
  have D:=T.c__law_pen
  refine D.fn.ok sc_law_pen (fun vs H Q E h=>?_) (fun cdv A outer s H vs Q E hr h=>?_)
  · obtain ⟨a,ns,rfl,_⟩:=h
    rfl
  · obtain ⟨a,ns,rfl,hS,h63,k⟩:=h
    have hu:=hr.units0
    have hu1:=hu_of hr
    refine ⟨_,((pss_one (ps_ret (pe_lst (pa_consN (pv 0) (pa_consM (pe_cmpR op_eq (pe_op op_mod (pe_cl T.c__law_cell_at (ok__law_cell_at T) (hr.mono (by decide)) (pa_consN (pv 0) (pa_consK pe_int pa_nil))) pe_int) pe_int (nomark _)) (pa_consK pe_int (pa_consK pe_int pa_nil)))))))),?_⟩
    refine ⟨_,rfl,_,rfl,a,ns,0,rfl,hS,(by decide),fun v=>⟨_,_,rfl,rfl,(by show (0:Int)<_;decide),rfl,(by show 4≤sizeLine;decide),fun p hp=>?_⟩⟩
    exact k p _ hp ⟨_,0,0,upd_same,(Same.new hp).seq hS,by decide,by decide,h63⟩ (Same.new hp)
theorem sc_law_take:FnScope ["_law_pen_here","_law_most","_law_count","_law_drawn","_law_mixing"] ["_law_pen_here","_law_most"] (defScope s__law_take):=⟨rfl,rfl,rfl,by decide +kernel,rfl,by decide +kernel,by decide +kernel⟩
theorem ok__law_take (T:Txt w K mg t):FnOk P w K mg base CX0 2 t.f__law_take t.d__law_take ["_law_pen_here","_law_most"] (spTkM K):=by
  have D:=T.c__law_take
  refine D.fn.ok sc_law_take (fun vs H Q E h=>?_) (fun cdv A outer s H vs Q E hr h=>?_)
  · obtain ⟨p,m,n,S,rfl,_⟩:=h
    rfl
  · obtain ⟨p,m,n,S,rfl,hm,hz,hpen,hn,k⟩:=h
    have hu:=hr.units0
    have hu1:=hu_of hr
    refine ⟨_,((pss_cons (ps_set (i:=2) sc_law_take.nd rfl (Or.inl rfl) (pe_ix ix_list (pv 0) pe_int (fun _ _=>rfl)))
      (pss_cons (ps_asg (pe_op op_add (pv 2) pe_int) (pg_sub (pv 0) pe_int set_list))
      (pss_cons (ps_if (pt_val (pe_ix ix_list (pv 0) pe_int (fun _ _=>rfl))) (pss_cons (ps_if (pt_cmpR op_eq (pe_op op_mod (pv 2) pe_int) pe_int (nomark _)) (pss_one (ps_asg (pe_cl T.c__law_cell_at (ok__law_cell_at T) (hr.mono (by decide)) (pa_consS (pe_ix ix_list (pv 0) pe_int (fun _ _=>rfl)) (pa_consB (pe_op op_add pe_int (pe_op op_fdiv (pv 2) pe_int)) pa_nil))) (pg_sub (pv 0) pe_int set_list))) pss_nil)
      (pss_cons (ps_set (i:=3) sc_law_take.nd rfl (Or.inl rfl) (pe_op op_mod (pe_ix ix_list (pv 0) pe_int (fun _ _=>rfl)) (pv 1)))
      (pss_cons (ps_asg (pe_op op_fdivW (pe_ix ix_list (pv 0) pe_int (fun _ _=>rfl)) (pv 1)) (pg_sub (pv 0) pe_int set_list))
      (pss_one (ps_ret (pv 3)))))) pss_nil)
      (pss_cons (ps_set (i:=4) sc_law_take.nd rfl (Or.inl rfl) (pe_op op_mod (pe_op op_mulW (pe_op op_add (pe_op op_mod (pe_cl T.c__law_cell_at (ok__law_cell_at T) (hr.mono (by decide)) (pa_consS (pe_ix ix_list (pv 0) pe_int (fun _ _=>rfl)) (pa_consB (pe_op op_add pe_int (pe_op op_mod (pv 2) pe_int)) pa_nil))) pe_int) pe_int) (pe_op op_add pe_int (pe_op op_mulW pe_int (pv 2)))) pe_int))
      (pss_cons (ps_set (i:=4) sc_law_take.nd rfl (Or.inl rfl) (pe_op op_mod (pe_op op_mulW (pv 4) (pe_op op_add (pe_op op_add (pe_op op_mod (pv 4) pe_int) (pv 2)) pe_int)) pe_int))
      (pss_one (ps_ret (pe_op op_mod (pe_op op_fdiv (pe_op op_mod (pe_op op_mulW (pv 4) (pe_op op_add (pe_op op_mod (pv 4) pe_int) pe_int)) pe_int) pe_int) (pv 1)))))))))),?_⟩
    obtain ⟨a,ns⟩:=S
    obtain ⟨b,c,r,hp,hS,hc0,hc1,h63⟩:=hpen
    dsimp only at hp hS h63
    refine ⟨_,rfl,p,_,_,_,rfl,rfl,SqL.of hp,rfl,?_⟩
    refine ⟨_,rfl,_,_,rfl,rfl,_,rfl,p,_,_,2,rfl,rfl,hp,rfl,?_⟩
    have hp1:upd H p (.lst [.ref a,.bl b,.int (c+1),.int r]) p=some (.lst [.ref a,.bl b,.int (c+1),.int r]):=upd_same
    have kp1:KeepX p H (upd H p (.lst [.ref a,.bl b,.int (c+1),.int r])):=KeepX.upd
    show _
    generalize hH1:upd H p (.lst [.ref a,.bl b,.int (c+1),.int r])=H1 at hp1 kp1
    have hH1':upd H p (.lst (([.ref a,.bl b,.int c,.int r]:List V).set 2 (.int (c+1))))=H1:=hH1
    have hS1:=SqL.kl hS hp kp1
    have fin:∀ (r' x:Int) (H2:Hp),0≤x→x<m→H2 p=some (.lst [.ref a,.bl b,.int (c+1),.int r'])→KeepX p H H2→Q (.int x) H2:=fun r' x H2 x0 x1 h2 kp=>
      k x H2 x0 x1 ⟨b,c+1,r',h2,SqL.kl hS hp kp,by omega,by omega,h63⟩ kp
    rw [hH1']
    refine ⟨_,rfl,p,_,_,_,rfl,rfl,SqL.of hp1,rfl,b,rfl,?_⟩
    cases b with
    | true=>
      refine iteT ?_
      have last:∀ (r':Int) (H2:Hp),H2 p=some (.lst [.ref a,.bl true,.int (c+1),.int r'])→KeepX p H H2→Q (.int (r'%m)) (upd H2 p (.lst [.ref a,.bl true,.int (c+1),.int (r'.fdiv m)])):=fun r' H2 h2 kp=>
        fin (r'.fdiv m) (r'%m) (upd H2 p (.lst [.ref a,.bl true,.int (c+1),.int (r'.fdiv m)])) (Int.emod_nonneg _ (by omega)) (Int.emod_lt_of_pos _ hm) upd_same (kp.trans KeepX.upd)
      refine ⟨_,rfl,_,_,rfl,rfl,(by show (0:Int)<_;decide),rfl,_,rfl,ite2 (fun c2=>?_) (fun c2=>?_)⟩
      · refine ⟨_,rfl,p,_,_,_,rfl,rfl,SqL.of hp1,rfl,_,rfl,_,_,rfl,rfl,⟨by decide,by decide⟩,_,_,rfl,rfl,a,ns,_,rfl,hS1,(by omega),fun v=>⟨_,rfl,p,_,_,3,rfl,rfl,hp1,rfl,?_⟩⟩
        have hp2:upd H1 p (.lst [.ref a,.bl true,.int (c+1),.int v]) p=some (.lst [.ref a,.bl true,.int (c+1),.int v]):=upd_same
        refine ⟨_,rfl,p,_,_,_,rfl,rfl,SqL.of hp2,rfl,_,rfl,_,_,rfl,rfl,hm,?_⟩
        refine ⟨_,rfl,p,_,_,_,rfl,rfl,SqL.of hp2,rfl,_,rfl,_,_,rfl,rfl,⟨by omega,hz⟩,_,rfl,p,_,_,3,rfl,rfl,hp2,rfl,?_⟩
        exact ⟨_,rfl,last v _ hp2 (kp1.trans KeepX.upd)⟩
      · refine ⟨_,rfl,p,_,_,_,rfl,rfl,SqL.of hp1,rfl,_,rfl,_,_,rfl,rfl,hm,?_⟩
        refine ⟨_,rfl,p,_,_,_,rfl,rfl,SqL.of hp1,rfl,_,rfl,_,_,rfl,rfl,⟨by omega,hz⟩,_,rfl,p,_,_,3,rfl,rfl,hp1,rfl,?_⟩
        exact ⟨_,rfl,last r _ hp1 kp1⟩
    | false=>
      refine iteF ?_
      refine ⟨_,rfl,p,_,_,_,rfl,rfl,SqL.of hp1,rfl,_,rfl,_,_,rfl,rfl,(by show (0:Int)<_;decide),_,_,rfl,rfl,a,ns,_,rfl,hS1,(by omega),fun v=>?_⟩
      have n1:=Int.emod_nonneg v (show (2147483629:Int)≠0 by decide)
      have n2:=Int.emod_lt_of_pos v (show (0:Int)<2147483629 by decide)
      refine ⟨_,_,rfl,rfl,(by show (0:Int)<_;decide),?_⟩
      generalize v%2147483629=y at n1 n2 ⊢
      have m1:=Int.emod_nonneg ((y+1)*(48271+69621*c)) (show (2147483647:Int)≠0 by decide)
      have m2:=Int.emod_lt_of_pos ((y+1)*(48271+69621*c)) (show (0:Int)<2147483647 by decide)
      refine ⟨_,_,rfl,rfl,_,rfl,_,_,rfl,rfl,⟨sz4000 (by decide) (by decide),sz4000 (by omega) (by omega)⟩,_,_,rfl,rfl,_,_,rfl,rfl,⟨sz4000 (by omega) (by omega),sz4000 (by omega) (by omega)⟩,_,_,rfl,rfl,(by show (0:Int)<_;decide),?_⟩
      generalize (y+1)*(48271+69621*c)%2147483647=x at m1 m2 ⊢
      have q1:=Int.emod_nonneg (x*(x%65521+c+3)) (show (2147483629:Int)≠0 by decide)
      have q2:=Int.emod_lt_of_pos (x*(x%65521+c+3)) (show (0:Int)<2147483629 by decide)
      refine ⟨_,rfl,_,rfl,_,_,rfl,rfl,(by show (0:Int)<_;decide),_,rfl,_,_,rfl,rfl,_,_,rfl,rfl,_,_,rfl,rfl,⟨sz4000 (by omega) (by omega),sz4000 (by omega) (by omega)⟩,_,_,rfl,rfl,(by show (0:Int)<_;decide),?_⟩
      generalize x*(x%65521+c+3)%2147483629=w' at q1 q2 ⊢
      refine ⟨_,rfl,_,rfl,_,_,rfl,rfl,(by show (0:Int)<_;decide),_,_,rfl,rfl,_,_,rfl,rfl,⟨sz4000 (by omega) (by omega),sz4000 (by omega) (by omega)⟩,_,_,rfl,rfl,(by show (0:Int)<_;decide),_,_,rfl,rfl,⟨by decide,by decide⟩,_,rfl,_,_,rfl,rfl,hm,?_⟩
      exact fin r _ H1 (Int.emod_nonneg _ (by omega)) (Int.emod_lt_of_pos _ hm) hp1 kp1
theorem sc_law_drawn_cell:FnScope ["_law_pen_here"] ["_law_pen_here"] (defScope s__law_drawn_cell):=⟨rfl,rfl,rfl,by decide +kernel,rfl,by decide +kernel,by decide +kernel⟩
theorem ok__law_drawn_cell (T:Txt w K mg t):FnOk P w K mg base CX0 3 t.f__law_drawn_cell t.d__law_drawn_cell ["_law_pen_here"] (spDcl K):=by
  have D:=T.c__law_drawn_cell
  refine D.fn.ok sc_law_drawn_cell (fun vs H Q E h=>?_) (fun cdv A outer s H vs Q E hr h=>?_)
  · obtain ⟨p,n,S,rfl,_⟩:=h
    rfl
  · obtain ⟨p,n,S,rfl,hpen,hn,k⟩:=h
    have hu:=hr.units0
    have hu1:=hu_of hr
    refine ⟨_,((pss_one (ps_ret (pe_tup (pa_consS (pe_ix ix_list (pe_lst (pa_consK pe_str (pa_consK pe_str pa_nil))) (pe_cl T.c__law_take (ok__law_take T) (hr.mono (by decide)) (pa_consN (pv 0) (pa_consK pe_int pa_nil))) (fun _ _=>rfl)) (pa_consB (pe_op op_add pe_int (pe_cl T.c__law_take (ok__law_take T) (hr.mono (by decide)) (pa_consN (pv 0) (pa_consK pe_int pa_nil)))) (pa_consB (pe_op op_add pe_int (pe_cl T.c__law_take (ok__law_take T) (hr.mono (by decide)) (pa_consN (pv 0) (pa_consK pe_int pa_nil)))) pa_nil))))))),?_⟩
    refine ⟨two_le,fun l hl=>?_⟩
    refine ⟨_,rfl,p,_,_,S,rfl,(by show (0:Int)<_;decide),sz4000 (by decide) (by decide),(hpen.same (Same.new hl)),(by omega),fun r1 H1 a1 b1 pen1 kp1=>?_⟩
    obtain ⟨hl1,kq1⟩:=kpl hpen hl kp1
    obtain ⟨v,hv,hvm⟩:=at2 (x:=vS "main") (y:=vS "b") a1 b1
    obtain ⟨z,rfl,nz⟩:∃ z,v=V.str z∧Nm z:=by
      rcases hvm with rfl | rfl
      · exact ⟨_,rfl,nm_main⟩
      · exact ⟨_,rfl,nm_b⟩
    refine ⟨l,_,_,_,rfl,rfl,SqL.of hl1,hv,?_⟩
    refine ⟨_,rfl,p,_,_,S,rfl,(by show (0:Int)<_;decide),sz4000 (by decide) (by decide),pen1,(by omega),fun r2 H2 a2 b2 pen2 kp2=>⟨_,_,rfl,rfl,?_⟩⟩
    refine ⟨_,rfl,p,_,_,S,rfl,(by show (0:Int)<_;decide),sz4000 (by decide) (by decide),pen2,(by omega),fun r3 H3 a3 b3 pen3 kp3=>⟨_,_,rfl,rfl,three_le,fun q hq=>?_⟩⟩
    exact k q ⟨z,1+r2,1+r3⟩ _ upd_same nz (by show 1≤1+r2;omega) (by show 1+r2≤16;omega) (by show 1≤1+r3;omega) (by show 1+r3≤8;omega) (pen3.same (Same.new hq)) (((kq1.trans kp2).trans kp3).trans (Same.keep (Same.new hq)))
theorem sc_law_great_value:FnScope ["_law_pen_here","_law_way","_law_edge"] ["_law_pen_here"] (defScope s__law_great_value):=⟨rfl,rfl,rfl,by decide +kernel,rfl,by decide +kernel,by decide +kernel⟩
theorem ok__law_great_value (T:Txt w K mg t):FnOk P w K mg base CX0 3 t.f__law_great_value t.d__law_great_value ["_law_pen_here"] (spGvl K):=by
  have D:=T.c__law_great_value
  refine D.fn.ok sc_law_great_value (fun vs H Q E h=>?_) (fun cdv A outer s H vs Q E hr h=>?_)
  · obtain ⟨p,n,S,rfl,_⟩:=h
    rfl
  · obtain ⟨p,n,S,rfl,hpen,hn,k⟩:=h
    have hu:=hr.units0
    have hu1:=hu_of hr
    refine ⟨_,((pss_cons (ps_set (i:=1) sc_law_great_value.nd rfl (Or.inl rfl) (pe_cl T.c__law_take (ok__law_take T) (hr.mono (by decide)) (pa_consN (pv 0) (pa_consK pe_int pa_nil))))
      (pss_cons (ps_if (pt_cmpR op_eq (pv 1) pe_int (nomark _)) (pss_one (ps_ret (pe_cl T.c__law_lowest (ok__law_lowest T) (hr.mono (by decide)) (pa_consB (pe_op op_sub (pe_cl T.c__law_take (ok__law_take T) (hr.mono (by decide)) (pa_consN (pv 0) (pa_consB (pe_op op_mulW pe_int (pe_op op_pow pe_int pe_int)) pa_nil))) (pe_op op_pow pe_int pe_int)) (pa_consB (pe_op op_add pe_int (pe_cl T.c__law_take (ok__law_take T) (hr.mono (by decide)) (pa_consN (pv 0) (pa_consB (pe_op op_pow pe_int pe_int) pa_nil)))) pa_nil))))) pss_nil)
      (pss_cons (ps_set (i:=2) sc_law_great_value.nd rfl (Or.inl rfl) (pe_op op_sub (pe_op op_sub (pe_op op_pow pe_int pe_int) pe_int) (pe_cl T.c__law_take (ok__law_take T) (hr.mono (by decide)) (pa_consN (pv 0) (pa_consK pe_int pa_nil)))))
      (pss_cons (ps_if (pt_cmpR op_eq (pv 1) pe_int (nomark _)) (pss_one (ps_ret (pe_tup (pa_consK pe_str (pa_consB (pe_op op_mulW (pv 2) (pe_ix ix_list (pe_lst (pa_consK pe_int (pa_consU (pe_un un_neg pe_int) pa_nil))) (pe_cl T.c__law_take (ok__law_take T) (hr.mono (by decide)) (pa_consN (pv 0) (pa_consK pe_int pa_nil))) (fun _ _=>rfl))) (pa_consK pe_int pa_nil)))))) pss_nil)
      (pss_one (ps_ret (pe_cl T.c__law_lowest (ok__law_lowest T) (hr.mono (by decide)) (pa_consB (pe_op op_add pe_int (pe_cl T.c__law_take (ok__law_take T) (hr.mono (by decide)) (pa_consN (pv 0) (pa_consK pe_int pa_nil)))) (pa_consN (pv 2) pa_nil)))))))))),?_⟩
    have e30:=n30
    refine ⟨_,rfl,p,_,_,S,rfl,(by show (0:Int)<_;decide),sz4000 (by decide) (by decide),hpen,(by omega),fun r1 H1 a1 b1 pen1 kp1=>⟨_,rfl,rfl,_,rfl,ite2 (fun c1=>?_) (fun c1=>?_)⟩⟩
    · refine ⟨_,rfl,_,_,rfl,rfl,⟨by decide,by decide,by decide⟩,_,_,rfl,rfl,⟨(szlit (n:=200) (by decide)).mono (by decide),(szlit (n:=200) (by decide)).mono (by decide)⟩,p,_,_,S,rfl,(by show (0:Int)<_;decide),(szlit (n:=200) (by decide)).mono (by decide),pen1,(by omega),fun r2 H2 a2 b2 pen2 kp2=>?_⟩
      refine ⟨_,_,rfl,rfl,⟨by decide,by decide,by decide⟩,_,_,rfl,rfl,_,rfl,_,_,rfl,rfl,⟨by decide,by decide,by decide⟩,p,_,_,S,rfl,(by show (0:Int)<_;decide),(szlit (n:=200) (by decide)).mono (by decide),pen2,(by omega),fun r3 H3 a3 b3 pen3 kp3=>⟨_,_,rfl,rfl,?_⟩⟩
      rw [p28] at b2 ⊢
      rw [p9] at b3
      refine ⟨_,_,rfl,(by omega),sz30 (by omega) (by omega),fun q hq=>k _ _ _ vNum (low_vl (by omega) (by omega) (by omega)) ((pen3.same (Same.new hq)).mono (by omega)) (((kp1.trans kp2).trans kp3).trans (Same.keep (Same.new hq)))⟩
    · refine ⟨_,_,rfl,rfl,⟨by decide,by decide,by decide⟩,_,_,rfl,rfl,_,rfl,p,_,_,S,rfl,(by show (0:Int)<_;decide),sz4000 (by decide) (by decide),pen1,(by omega),fun r2 H2 a2 b2 pen2 kp2=>⟨_,_,rfl,rfl,?_⟩⟩
      rw [p30]
      refine ⟨_,rfl,rfl,_,rfl,ite2 (fun c2=>?_) (fun c2=>?_)⟩
      · refine ⟨_,rfl,1,rfl,two_le,fun l hl=>⟨_,rfl,p,_,_,S,rfl,(by show (0:Int)<_;decide),sz4000 (by decide) (by decide),(pen2.same (Same.new hl)),(by omega),fun r3 H3 a3 b3 pen3 kp3=>?_⟩⟩
        obtain ⟨hl3,kq3⟩:=kpl pen2 hl kp3
        obtain ⟨v,hv,hvm⟩:=at2 (x:=.int 1) (y:=.int (-1)) a3 b3
        obtain ⟨z,rfl,nz⟩:∃ z:Int,v=V.int z∧(z=1∨z = -1):=by
          rcases hvm with rfl | rfl
          · exact ⟨_,rfl,.inl rfl⟩
          · exact ⟨_,rfl,.inr rfl⟩
        refine ⟨l,_,_,_,rfl,rfl,SqL.of hl3,hv,_,_,rfl,rfl,⟨sz30 (by omega) (by omega),sz30 (by omega) (by omega)⟩,three_le,fun q hq=>?_⟩
        refine k _ _ _ vNum (one_vl ?_) ((pen3.same (Same.new hq)).mono (by omega)) (((kp1.trans kp2).trans kq3).trans (Same.keep (Same.new hq)))
        rcases nz with rfl | rfl
        · rw [Int.mul_one];omega
        · rw [Int.mul_neg,Int.mul_one];omega
      · refine ⟨_,rfl,p,_,_,S,rfl,(by show (0:Int)<_;decide),sz4000 (by decide) (by decide),pen2,(by omega),fun r3 H3 a3 b3 pen3 kp3=>⟨_,_,rfl,rfl,_,rfl,?_⟩⟩
        exact ⟨_,_,rfl,(by omega),sz30 (by omega) (by omega),fun q hq=>k _ _ _ vNum (low_vl (by omega) (by omega) (by omega)) ((pen3.same (Same.new hq)).mono (by omega)) (((kp1.trans kp2).trans kp3).trans (Same.keep (Same.new hq)))⟩
theorem sc_law_drawn_value:FnScope ["_law_pen_here","_law_way","_law_some","_law_words"] ["_law_pen_here"] (defScope s__law_drawn_value):=⟨rfl,rfl,rfl,by decide +kernel,rfl,by decide +kernel,by decide +kernel⟩
theorem ok__law_drawn_value (T:Txt w K mg t):FnOk P w K mg base CX0 4 t.f__law_drawn_value t.d__law_drawn_value ["_law_pen_here"] (spDvl K):=by
  have D:=T.c__law_drawn_value
  refine D.fn.ok sc_law_drawn_value (fun vs H Q E h=>?_) (fun cdv A outer s H vs Q E hr h=>?_)
  · obtain ⟨p,n,S,rfl,_⟩:=h
    rfl
  · obtain ⟨p,n,S,rfl,hpen,hn,k⟩:=h
    have hu:=hr.units0
    have hu1:=hu_of hr
    refine ⟨_,((pss_cons (ps_set (i:=1) sc_law_drawn_value.nd rfl (Or.inl rfl) (pe_cl T.c__law_take (ok__law_take T) (hr.mono (by decide)) (pa_consN (pv 0) (pa_consK pe_int pa_nil))))
      (pss_cons (ps_if (pt_cmpR op_lt (pv 1) pe_int (nomark _)) (pss_one (ps_ret (pe_tup (pa_consK pe_str pa_nil)))) pss_nil)
      (pss_cons (ps_if (pt_cmpR op_lt (pv 1) pe_int (nomark _)) (pss_one (ps_ret (pe_cl T.c__law_lowest (ok__law_lowest T) (hr.mono (by decide)) (pa_consB (pe_op op_sub (pe_cl T.c__law_take (ok__law_take T) (hr.mono (by decide)) (pa_consN (pv 0) (pa_consK pe_int pa_nil))) pe_int) (pa_consB (pe_op op_add pe_int (pe_cl T.c__law_take (ok__law_take T) (hr.mono (by decide)) (pa_consN (pv 0) (pa_consK pe_int pa_nil)))) pa_nil))))) pss_nil)
      (pss_cons (ps_if (pt_cmpR op_eq (pv 1) pe_int (nomark _)) (pss_one (ps_ret (pe_cl T.c__law_great_value (ok__law_great_value T) (hr.mono (by decide)) (pa_consN (pv 0) pa_nil)))) pss_nil)
      (pss_cons (ps_if (pt_cmpR op_lt (pv 1) pe_int (nomark _)) (pss_cons (ps_set (i:=2) sc_law_drawn_value.nd rfl (Or.inl rfl) (pe_lst (pa_consK pe_str (pa_consK pe_str (pa_consK pe_str (pa_consK pe_str (pa_consK pe_str (pa_consK pe_str (pa_consK pe_str (pa_consK pe_str pa_nil))))))))))
      (pss_one (ps_ret (pe_tup (pa_consK pe_str (pa_consS (pe_ix ix_list (pv 2) (pe_cl T.c__law_take (ok__law_take T) (hr.mono (by decide)) (pa_consN (pv 0) (pa_consK pe_int pa_nil))) (fun _ _=>rfl)) pa_nil)))))) pss_nil)
      (pss_cons (ps_if (pt_cmpR op_lt (pv 1) pe_int (nomark _)) (pss_one (ps_ret (pe_tup (pa_consK pe_str (pa_consM (pe_cmpR op_eq (pe_cl T.c__law_take (ok__law_take T) (hr.mono (by decide)) (pa_consN (pv 0) (pa_consK pe_int pa_nil))) pe_int (nomark _)) pa_nil))))) pss_nil)
      (pss_cons (ps_set (i:=3) sc_law_drawn_value.nd rfl (Or.inl rfl) (pe_lst (pa_consK pe_str (pa_consK pe_str (pa_consK pe_str (pa_consK pe_str (pa_consK pe_str (pa_consK pe_str (pa_consK pe_str (pa_consK pe_str (pa_consK pe_str pa_nil)))))))))))
      (pss_one (ps_ret (pe_tup (pa_consK pe_str (pa_consS (pe_ix ix_list (pv 3) (pe_cl T.c__law_take (ok__law_take T) (hr.mono (by decide)) (pa_consN (pv 0) (pa_consK pe_int pa_nil))) (fun _ _=>rfl)) (pa_consC (pe_cl T.c__law_drawn_cell (ok__law_drawn_cell T) (hr.mono (by decide)) (pa_consN (pv 0) pa_nil)) pa_nil)))))))))))))),?_⟩
    have e30:=n30
    refine ⟨_,rfl,p,_,_,S,rfl,(by show (0:Int)<_;decide),sz4000 (by decide) (by decide),hpen,(by omega),fun r1 H1 a1 b1 pen1 kp1=>⟨_,rfl,_,_,rfl,rfl,_,rfl,ite2 (fun c1=>?_) (fun c1=>?_)⟩⟩
    · exact ⟨(by show 1≤sizeLine;decide),fun q hq=>k (.ref q) .none _ ⟨q,rfl,upd_same⟩ trivial ((pen1.same (Same.new hq)).mono (by omega)) (kp1.trans (Same.keep (Same.new hq)))⟩
    refine ⟨_,rfl,_,_,rfl,rfl,_,rfl,ite2 (fun c2=>?_) (fun c2=>?_)⟩
    · refine ⟨_,rfl,p,_,_,S,rfl,(by show (0:Int)<_;decide),sz4000 (by decide) (by decide),pen1,(by omega),fun r2 H2 a2 b2 pen2 kp2=>⟨_,_,rfl,rfl,_,rfl,p,_,_,S,rfl,(by show (0:Int)<_;decide),sz4000 (by decide) (by decide),pen2,(by omega),fun r3 H3 a3 b3 pen3 kp3=>⟨_,_,rfl,rfl,?_⟩⟩⟩
      exact ⟨_,_,rfl,(by omega),sz30 (by omega) (by omega),fun q hq=>k _ _ _ vNum (low_vl (by omega) (by omega) (by omega)) ((pen3.same (Same.new hq)).mono (by omega)) (((kp1.trans kp2).trans kp3).trans (Same.keep (Same.new hq)))⟩
    refine ⟨_,rfl,rfl,_,rfl,ite2 (fun c3=>?_) (fun c3=>?_)⟩
    · exact ⟨_,rfl,p,_,S,rfl,pen1,(by omega),fun u v H' hv ok pen' kp'=>k u v H' hv ok (pen'.mono (by omega)) (kp1.trans kp')⟩
    refine ⟨_,rfl,_,_,rfl,rfl,_,rfl,ite2 (fun c4=>?_) (fun c4=>?_)⟩
    · refine ⟨(by show 8≤sizeLine;decide),fun l hl=>⟨_,rfl,_,rfl,p,_,_,S,rfl,(by show (0:Int)<_;decide),sz4000 (by decide) (by decide),(pen1.same (Same.new hl)),(by omega),fun r2 H2 a2 b2 pen2 kp2=>?_⟩⟩
      obtain ⟨hl2,kq2⟩:=kpl pen1 hl kp2
      obtain ⟨v,hv,hvm⟩:=atR (xs:=drawnTx) a2 b2
      obtain ⟨z,rfl,nz⟩:=drawnTx_ok v hvm
      exact ⟨l,_,_,_,rfl,rfl,SqL.of hl2,hv,two_le,fun q hq=>k (.ref q) (.txt z) _ ⟨q,rfl,upd_same⟩ nz ((pen2.same (Same.new hq)).mono (by omega)) ((kp1.trans kq2).trans (Same.keep (Same.new hq)))⟩
    refine ⟨_,rfl,_,_,rfl,rfl,_,rfl,ite2 (fun c5=>?_) (fun c5=>?_)⟩
    · exact ⟨_,rfl,p,_,_,S,rfl,(by show (0:Int)<_;decide),sz4000 (by decide) (by decide),pen1,(by omega),fun r2 H2 a2 b2 pen2 kp2=>⟨rfl,two_le,fun q hq=>k (.ref q) (.tru _) _ ⟨q,rfl,upd_same⟩ trivial ((pen2.same (Same.new hq)).mono (by omega)) ((kp1.trans kp2).trans (Same.keep (Same.new hq)))⟩⟩
    · refine ⟨(by show 9≤sizeLine;decide),fun l hl=>⟨_,rfl,_,rfl,p,_,_,S,rfl,(by show (0:Int)<_;decide),sz4000 (by decide) (by decide),(pen1.same (Same.new hl)),(by omega),fun r2 H2 a2 b2 pen2 kp2=>?_⟩⟩
      obtain ⟨hl2,kq2⟩:=kpl pen1 hl kp2
      obtain ⟨v,hv,hvm⟩:=atR (xs:=faults.map V.str) a2 b2
      obtain ⟨w',rfl,nz⟩:=faults_mem hvm
      refine ⟨l,_,_,_,rfl,rfl,SqL.of hl2,hv,_,rfl,p,_,S,rfl,pen2,(by omega),fun q h H3 hq nm x1 x2 x3 x4 pen3 kp3=>⟨three_le,fun q2 hq2=>?_⟩⟩
      exact k (.ref q2) (.flt w' h.z h.r h.c) _ ⟨q2,rfl,q,upd_same,Same.new hq2 _ _ hq⟩ ⟨nz,nm,x1,x2,x3,x4⟩ ((pen3.same (Same.new hq2)).mono (by omega)) (((kp1.trans kq2).trans kp3).trans (Same.keep (Same.new hq2)))
theorem sc_law_drawn_table:FnScope ["_law_pen_here","_law_high","_law_wide"] ["_law_pen_here","_law_high","_law_wide"] (defScope s__law_drawn_table):=⟨rfl,rfl,rfl,by decide +kernel,rfl,by decide +kernel,by decide +kernel⟩
theorem ok__law_drawn_table (T:Txt w K mg t):FnOk P w K mg base CX0 5 t.f__law_drawn_table t.d__law_drawn_table ["_law_pen_here","_law_high","_law_wide"] (spDtb K):=by
  have D:=T.c__law_drawn_table
  refine D.fn.ok sc_law_drawn_table (fun vs H Q E h=>?_) (fun cdv A outer s H vs Q E hr h=>?_)
  · obtain ⟨p,h_,w_,n,S,rfl,_⟩:=h
    rfl
  · obtain ⟨p,h_,w_,n,S,rfl,h1,h6,w1,w6,hpen,hn,k⟩:=h
    have hu:=hr.units0
    have hu1:=hu_of hr
    refine ⟨_,((pss_one (ps_ret (pe_comp (fv:=["_law_pen_here","_law_wide"]) (js:=[0,2]) (cl:=[("_law_wide",s.heap.objs.size+2),("_law_pen_here",s.heap.objs.size+1)]) rfl (by with_unfolding_all rfl) ⟨rfl,by decide +kernel,by decide +kernel,rfl,by decide +kernel,by decide +kernel,(List.forall_mem_cons.mpr ⟨⟨rfl,rfl,rfl⟩,(List.forall_mem_cons.mpr ⟨⟨rfl,rfl,rfl⟩,(List.forall_mem_nil _)⟩)⟩),(List.forall_mem_cons.mpr ⟨rfl,(List.forall_mem_cons.mpr ⟨rfl,(List.forall_mem_nil _)⟩)⟩),(.cons rfl (.cons rfl .nil))⟩ (pi_range1 rfl T.range (pa_consN (pv 1) pa_nil)) (fun _ _ _ _ _=>pf_nil) (fun _ _ _ _ _=>(pe_comp (fv:=["_law_pen_here"]) (js:=[1]) (cl:=[("_law_pen_here",s.heap.objs.size+1)]) rfl (by with_unfolding_all rfl) ⟨rfl,by decide +kernel,by decide +kernel,rfl,by decide +kernel,by decide +kernel,(List.forall_mem_cons.mpr ⟨⟨rfl,rfl,rfl⟩,(List.forall_mem_nil _)⟩),(List.forall_mem_cons.mpr ⟨rfl,(List.forall_mem_nil _)⟩),(.cons rfl .nil)⟩ (pi_range1 rfl T.range (pa_consN (pv 2) pa_nil)) (fun _ _ _ _ _=>pf_nil) (fun _ _ _ _ _=>(pe_cl T.c__law_drawn_value (ok__law_drawn_value T) (hr.mono (by decide)) (pa_consN (pv 1) pa_nil))))))))),?_⟩
    refine ⟨_,rfl,_,rfl,(by omega),(by omega),fun D hD=>?_⟩
    have hDp:=hpen.ne hD
    have pen0:PenM K S (upd H D (.lst [])) p n:=hpen.same (Same.new hD)
    refine ⟨fun i m H4=>m=h_-i∧i≤h_∧∃ (bs:List Addr) (rows:List (List V)) (ms:List (List Vl)),H4 D=some (.lst (bs.map V.ref))∧bs.Nodup∧(∀ b∈bs,H b=none∧b≠D)∧LsAt H4 bs rows∧VtAt H4 rows ms∧ms.length=i∧Oks ms w_∧PenM K S H4 p (n+i*70)∧KeepX p H H4,
      ⟨h_,rfl,Nat.zero_le _,[],[],[],upd_same,List.nodup_nil,fun b z=>absurd z (by simp),.nil,.nil,rfl,fun r z=>absurd z (by simp),pen0.mono (by omega),Same.keep (Same.new hD)⟩,?_⟩
    rintro i m H4 ⟨rfl,hi,bs,rows,ms,hD4,nd4,fr4,ls4,vt4,len4,ok4,pen4,kp4⟩
    have bl:bs.length=i:=by rw [Paired.length ls4,Paired.length vt4,len4]
    have hi60:i*70≤16*70:=Nat.mul_le_mul_right 70 (by omega)
    by_cases hlt:i<h_
    · refine .inr ⟨hlt,fun x H' y=>?_⟩
      obtain ⟨e4,rfl⟩:=y
      subst e4
      refine ⟨_,rfl,_,rfl,(by omega),(by omega),fun D2 hD2=>?_⟩
      have n2:=pen4.ne hD2
      have nDD:D2≠D:=fun z=>by rw [z,hD4] at hD2;cases hD2
      have hD2b:D2∉bs:=fun z=>by
        obtain ⟨j,hj⟩:=List.getElem?_of_mem z
        obtain ⟨row,_,e⟩:=paired_at ls4 hj
        rw [hD2] at e;cases e
      refine ⟨fun j m H5=>m=w_-j∧j≤w_∧∃ (us:List V) (vs:List Vl),H5 D2=some (.lst us)∧VsAt H5 us vs∧vs.length=j∧(∀ v∈vs,VlOk v)∧PenM K S H5 p (n+i*70+j*8)∧KeepX p H' H5,
        ⟨w_,rfl,Nat.zero_le _,[],[],upd_same,.nil,rfl,fun r z=>absurd z (by simp),(pen4.same (Same.new hD2)).mono (by omega),Same.keep (Same.new hD2)⟩,?_⟩
      rintro j m H5 ⟨rfl,hj,us,vs,hD5,vs5,len5,ok5,pen5,kp5⟩
      have ul:us.length=j:=by rw [Paired.length vs5,len5]
      have hj8:j*8≤8*8:=Nat.mul_le_mul_right 8 (by omega)
      by_cases hlt2:j<w_
      · refine .inr ⟨hlt2,fun x H6 y=>?_⟩
        obtain ⟨e6,rfl⟩:=y
        subst e6
        refine ⟨_,rfl,p,_,S,rfl,pen5,(by omega),fun u v H7 hv okv pen7 kp7=>?_⟩
        have hD7:=kp7 _ _ n2 hD5
        refine ⟨us,hD7,sl_lt (by omega),w_-(j+1),(by omega),rfl,hlt2,us++[u],vs++[v],upd_same,?_,(by rw [List.length_append,len5];rfl),fun z hz=>?_,?_,fun b o hb e=>?_⟩
        · exact psnoc (VsAt.kp (VsAt.kp vs5 (pen5.kp kp7)) (kp_upd hD7)) (hv.kp (kp_upd hD7))
        · rcases List.mem_append.mp hz with z1 | z1
          · exact ok5 z z1
          · rw [List.mem_singleton.mp z1];exact okv
        · exact (pen4.put hD2 pen7).mono (by omega)
        · rw [upd_ne (ne_of_none e hD2)];exact kp7 _ _ hb (kp5 _ _ hb e)
      · have ej:j=w_:=by omega
        subst ej
        have kpa:=kp4.trans kp5
        refine .inl ⟨Nat.le_refl _,bs.map V.ref,kp5 _ _ hDp hD4,sl_lt (by rw [List.length_map];omega),h_-(i+1),(by omega),rfl,hlt,bs++[D2],rows++[us],ms++[vs],?_,?_,fun b hb=>?_,?_,?_,(by rw [List.length_append,len4];rfl),fun r hr'=>?_,?_,fun b o hb e=>?_⟩
        · rw [upd_same,List.map_append];rfl
        · exact List.nodup_append.mpr ⟨nd4,by simp,fun a ha b hb=>by rw [List.mem_singleton.mp hb];exact fun z=>hD2b (z▸ha)⟩
        · rcases List.mem_append.mp hb with z | z
          · exact fr4 b z
          · rw [List.mem_singleton.mp z];exact ⟨kp4.fresh n2 hD2,nDD⟩
        · refine psnoc (pmem ls4 fun b row hb e=>?_) (by rw [upd_ne nDD];exact hD5)
          rw [upd_ne (fr4 b hb).2]
          exact kp5 _ _ (fun z=>by have:=(fr4 b hb).1;rw [z] at this;obtain ⟨_,eo⟩:=hpen.ob;rw [this] at eo;cases eo) e
        · have kk:Kp H' (upd H5 D (.lst (bs.map V.ref++[.ref D2]))):=(pen4.kp kp5).trans (kp_upd (kp5 _ _ hDp hD4))
          exact psnoc (VtAt.kp vt4 kk) (VsAt.kp vs5 (kp_upd (kp5 _ _ hDp hD4)))
        · rcases List.mem_append.mp hr' with z | z
          · exact ok4 r z
          · rw [List.mem_singleton.mp z];exact ⟨len5,ok5⟩
        · exact (hpen.put hD pen5).mono (by omega)
        · rw [upd_ne (ne_of_none e hD)];exact kpa _ _ hb e
    · have ei:i=h_:=by omega
      subst ei
      refine .inl ⟨Nat.le_refl _,k D bs rows ms H4 hD (fun b hb=>(fr4 b hb).1) ⟨hD4,nd4,fun z=>?_,fun z=>(fr4 D z).2 rfl,hDp,ls4,vt4⟩ len4 ok4 (pen4.mono (by omega)) kp4⟩
      have:=(fr4 p z).1
      obtain ⟨_,eo⟩:=hpen.ob
      rw [this] at eo;cases eo
theorem sc_law_laid:FnScope ["_law_known","_law_sheet","_law_table","_law_high","_law_wide","_law_j","_law_row","_law_k","_law_one","_law_first"] ["_law_known","_law_sheet","_law_table","_law_high","_law_wide"] (defScope s__law_laid):=⟨rfl,rfl,rfl,by decide +kernel,rfl,by decide +kernel,by decide +kernel⟩
theorem ok__law_laid (T:Txt w K mg t):FnOk P w K mg base CX0 1 t.f__law_laid t.d__law_laid ["_law_known","_law_sheet","_law_table","_law_high","_law_wide"] (spLai K):=by
  have D:=T.c__law_laid
  refine D.fn.ok sc_law_laid (fun vs H Q E h=>?_) (fun cdv A outer s H vs Q E hr h=>?_)
  · obtain ⟨kn,l,z,hi,wi,kvs,bs,rows,h_,w_,rfl,_⟩:=h
    rfl
  · obtain ⟨kn,l,z,hi,wi,kvs,bs,rows,h_,w_,rfl,hkn,hk5,hl,ls,hlen,h1,h16,w1,w8,hw,k⟩:=h
    have hu:=hr.units0
    have hu1:=hu_of hr
    refine ⟨_,((pss_cons (ps_for PassesOwn.never rfl (pi_enum rfl T.enumerate bt_enumerate (pa_consN (pv 2) pa_nil)) (pg_tup rfl (pgs_cons (pg_name (i:=5) sc_law_laid.nd rfl (Or.inl rfl)) (pgs_cons (pg_name (i:=6) sc_law_laid.nd rfl (Or.inl rfl)) pgs_nil)))
      (pss_one (ps_for PassesOwn.never rfl (pi_enum rfl T.enumerate bt_enumerate (pa_consN (pv 6) pa_nil)) (pg_tup rfl (pgs_cons (pg_name (i:=7) sc_law_laid.nd rfl (Or.inl rfl)) (pgs_cons (pg_name (i:=8) sc_law_laid.nd rfl (Or.inl rfl)) pgs_nil)))
      (pss_one (ps_dput hu1 (pv 0) (pe_tup (pa_consN (pv 1) (pa_consB (pe_op op_add (pe_op op_add (pv 3) (pv 5)) pe_int) (pa_consB (pe_op op_add (pe_op op_add (pv 4) (pv 7)) pe_int) pa_nil)))) (pv 8) rfl)))))
      (pss_cons (ps_set (i:=9) sc_law_laid.nd rfl (Or.inl rfl) (pe_tup (pa_consB (pe_op op_add (pv 3) pe_int) (pa_consB (pe_op op_add (pv 4) pe_int) (pa_consK pe_bl (pa_consK pe_bl pa_nil))))))
      (pss_cons (ps_if (pw_and (pt_cmpR op_eq (pe_callB call_len_seq (by rfl) T.len PySem.boot_len (pa_consN (pv 2) pa_nil)) pe_int (nomark _)) (pw_and1 (pt_cmpR op_eq (pe_callB call_len_seq (by rfl) T.len PySem.boot_len (pa_consS (pe_ix ix_list (pv 2) pe_int (fun _ _=>rfl)) pa_nil)) pe_int (nomark _)))).pt (pss_one (ps_ret (pe_tup (pa_consK pe_str (pa_consN (pv 1) (pa_consN (pv 9) pa_nil)))))) pss_nil)
      (pss_one (ps_ret (pe_tup (pa_consK pe_str (pa_consN (pv 1) (pa_consN (pv 9) (pa_consT (pe_tup (pa_consB (pe_op op_add (pv 3) (pe_callB call_len_seq (by rfl) T.len PySem.boot_len (pa_consN (pv 2) pa_nil))) (pa_consB (pe_op op_add (pv 4) (pe_callB call_len_seq (by rfl) T.len PySem.boot_len (pa_consS (pe_ix ix_list (pv 2) pe_int (fun _ _=>rfl)) pa_nil))) (pa_consK pe_bl (pa_consK pe_bl pa_nil))))) pa_nil))))))))))),?_⟩
    have bl:bs.length=h_:=by rw [Paired.length ls,hlen]
    have nkl:l≠kn:=ne_of hl hkn (by intro z;cases z)
    have nkb:∀ b row,H b=some (.lst row)→b≠kn:=fun b row e=>ne_of e hkn (by intro z;cases z)
    refine ⟨_,rfl,l,rfl,⟨_,SqL.of hl⟩,?_⟩
    refine for_enum (xs:=bs.map V.ref) (fun i σ H2=>∃ x5 x6 x7 x8 kv2,σ=[some (.ref kn),some (.str z),some (.ref l),some (.int hi),some (.int wi),x5,x6,x7,x8,none]∧H2 kn=some (.dT kv2)∧kv2.length≤kvs.length+i*w_∧Laid kv2 z hi wi rows i 0∧Else kvs kv2 z∧KeepX kn H H2)
      ⟨none,none,none,none,kvs,rfl,hkn,by omega,fun a b row v _ _ h3=>by omega,fun _ _=>rfl,KeepX.refl _ _⟩ ?_ ?_ ?_
    · rintro i σ H2 _ ⟨x5,x6,x7,x8,kv2,rfl,_,_,_,_,kp2⟩
      exact SqL.of (kp2 _ _ nkl hl)
    · rintro i x σ H2 b hx ⟨x5,x6,x7,x8,kv2,rfl,hk2,len2,la2,el2,kp2⟩ hb
      rw [List.getElem?_map] at hx
      obtain ⟨b0,hb0,rfl⟩:∃ b0,bs[i]?=some b0∧x=.ref b0:=by
        cases e:bs[i]? with
        | none=>rw [e] at hx;cases hx
        | some b0=>rw [e] at hx;cases hx;exact ⟨b0,rfl,rfl⟩
      obtain ⟨row,hrow,hbr⟩:=paired_at ls hb0
      have hi16:i<h_:=by have:=(List.getElem?_eq_some_iff.mp hb0).1;omega
      have hiw:i*w_≤16*8:=Nat.mul_le_mul (by omega) w8
      have rl:=hw row (List.mem_of_getElem? hrow)
      have s3:Same H2 (upd H2 b (.tup [.int i,.ref b0])):=Same.new hb
      have hb3:upd H2 b (.tup [.int i,.ref b0]) b=some (.tup [.int i,.ref b0]):=upd_same
      generalize upd H2 b (.tup [.int i,.ref b0])=H3 at *
      have hk3:=s3 _ _ hk2
      have kp3:KeepX kn H H3:=kp2.trans (Same.keep s3)
      refine ⟨b,_,rfl,SqT.of hb3,rfl,_,_,rfl,_,_,rfl,rfl,?_⟩
      refine ⟨_,rfl,b0,rfl,⟨_,SqL.of (kp3 _ _ (nkb _ _ hbr) hbr)⟩,?_⟩
      refine for_enum (xs:=row) (fun j σ H4=>∃ x7 x8 kv4,σ=[some (.ref kn),some (.str z),some (.ref l),some (.int hi),some (.int wi),some (.int i),some (.ref b0),x7,x8,none]∧H4 kn=some (.dT kv4)∧kv4.length≤kvs.length+i*w_+j∧Laid kv4 z hi wi rows i j∧Else kvs kv4 z∧KeepX kn H H4)
        ⟨x7,x8,kv2,rfl,hk3,by omega,la2,el2,kp3⟩ ?_ ?_ ?_
      · rintro j σ H4 _ ⟨x7,x8,kv4,rfl,_,_,_,_,kp4⟩
        exact SqL.of (kp4 _ _ (nkb _ _ hbr) hbr)
      · rintro j v σ H4 b4 hv ⟨x7,x8,kv4,rfl,hk4,len4,la4,el4,kp4⟩ hb4
        have hj:j<w_:=by have:=(List.getElem?_eq_some_iff.mp hv).1;omega
        have s5:Same H4 (upd H4 b4 (.tup [.int j,v])):=Same.new hb4
        have hb5:upd H4 b4 (.tup [.int j,v]) b4=some (.tup [.int j,v]):=upd_same
        generalize upd H4 b4 (.tup [.int j,v])=H5 at *
        have hk5':=s5 _ _ hk4
        refine ⟨b4,_,rfl,SqT.of hb5,rfl,_,_,rfl,_,_,rfl,rfl,?_⟩
        refine ⟨_,rfl,_,rfl,_,rfl,_,rfl,_,rfl,_,_,rfl,rfl,_,_,rfl,rfl,_,rfl,_,rfl,_,_,rfl,rfl,_,_,rfl,rfl,three_le,fun q hq=>?_⟩
        have nq:kn≠q:=ne_of_none hk5' hq
        refine ⟨kn,_,rfl,DPut.t (k:=cK z (hi+i+1) (wi+j+1)) (Same.new hq _ _ hk5') upd_same (sl_lt (by omega)),?_⟩
        refine ⟨_,_,_,rfl,upd_same,?_,la4.next hrow hv,el4.put,fun b' o hb' e=>?_⟩
        · have:=length_putK kv4 (cK z (hi+i+1) (wi+j+1)) v
          omega
        · rw [upd_ne hb'];exact Same.new hq _ _ (s5 _ _ (kp4 _ _ hb' e))
      · rintro σ H4 ⟨x7,x8,kv4,rfl,hk4,len4,la4,el4,kp4⟩
        exact ⟨_,_,_,_,kv4,rfl,hk4,by rw [Nat.succ_mul];omega,la4.row hrow (Nat.le_refl _),el4,kp4⟩
    · rintro σ H2 ⟨x5,x6,x7,x8,kv2,rfl,hk2,len2,la2,el2,kp2⟩
      rw [List.length_map,bl] at len2 la2
      have hl2:=kp2 _ _ nkl hl
      refine ⟨_,rfl,_,_,rfl,rfl,_,rfl,_,_,rfl,rfl,(by show 4≤sizeLine;decide),fun q hq=>?_⟩
      have s3:Same H2 (upd H2 q (.tup (corV ⟨hi+1,wi+1,true,false⟩))):=Same.new hq
      have hq3:upd H2 q (.tup (corV ⟨hi+1,wi+1,true,false⟩)) q=some (.tup (corV ⟨hi+1,wi+1,true,false⟩)):=upd_same
      generalize upd H2 q (.tup (corV ⟨hi+1,wi+1,true,false⟩))=H3 at *
      have hl3:=s3 _ _ hl2
      obtain ⟨b0,bt,rfl⟩:=cons_of (l:=bs) (by omega)
      obtain ⟨r0,rt,rfl⟩:=cons_of (l:=rows) (by omega)
      have hb0:H b0=some (.lst r0):=by cases ls with | cons h _=>exact h
      have hb3:=s3 _ _ (kp2 _ _ (nkb _ _ hb0) hb0)
      have r0l:=hw r0 List.mem_cons_self
      have kp3:KeepX kn H H3:=kp2.trans (Same.keep s3)
      refine ⟨_,rfl,l,_,rfl,.inl (SqL.of hl3),rfl,_,rfl,?_⟩
      refine ite2 (fun c1=>?_) (fun c1=>iteF ?_)
      · refine ⟨_,rfl,l,_,_,_,rfl,rfl,SqL.of hl3,atI_hd,b0,_,rfl,.inl (SqL.of hb3),rfl,_,rfl,ite2 (fun c2=>?_) (fun c2=>?_)⟩
        · have e1:(((b0::bt).map V.ref).length:Int)=1:=by have:=of_decide_eq_true c1;injection this
          have e2:(r0.length:Int)=1:=by have:=of_decide_eq_true c2;injection this
          rw [List.length_map] at e1
          refine ⟨_,rfl,_,rfl,three_le,fun a ha=>?_⟩
          exact k a (.cell (some z) ⟨hi+1,wi+1,true,false⟩) _ _ kv2 _ (Same.new ha _ _ (s3 _ _ hk2)) len2 la2 el2 ⟨q,upd_same,Same.new ha _ _ hq3⟩ rfl rfl rfl (by show hi+1=hi+h_;omega) (by show wi+1=wi+w_;omega) (kp3.trans (Same.keep (Same.new ha)))
        · refine ⟨_,rfl,_,rfl,_,rfl,_,rfl,l,_,rfl,.inl (SqL.of hl3),_,_,rfl,rfl,_,rfl,_,rfl,l,_,_,_,rfl,rfl,SqL.of hl3,atI_hd,b0,_,rfl,.inl (SqL.of hb3),_,_,rfl,rfl,(by show 4≤sizeLine;decide),fun u hu'=>⟨(by show 4≤sizeLine;decide),fun a ha=>?_⟩⟩
          have e1:(((b0::bt).map V.ref).length:Int)=h_:=by rw [List.length_map];omega
          have e2:(r0.length:Int)=w_:=by omega
          exact k a (.rng (some z) ⟨hi+1,wi+1,true,false⟩ ⟨hi+((b0::bt).map V.ref).length,wi+r0.length,false,false⟩) _ _ kv2 _ (Same.new ha _ _ (Same.new hu' _ _ (s3 _ _ hk2))) len2 la2 el2 ⟨q,u,upd_same,Same.new ha _ _ (Same.new hu' _ _ hq3),Same.new ha _ _ upd_same⟩ rfl rfl rfl (by show hi+_=hi+h_;rw [e1]) (by show wi+_=wi+w_;rw [e2]) (kp3.trans (Same.keep ((Same.new hu').trans (Same.new ha))))
      · refine ⟨_,rfl,_,rfl,_,rfl,_,rfl,l,_,rfl,.inl (SqL.of hl3),_,_,rfl,rfl,_,rfl,_,rfl,l,_,_,_,rfl,rfl,SqL.of hl3,atI_hd,b0,_,rfl,.inl (SqL.of hb3),_,_,rfl,rfl,(by show 4≤sizeLine;decide),fun u hu'=>⟨(by show 4≤sizeLine;decide),fun a ha=>?_⟩⟩
        have e1:(((b0::bt).map V.ref).length:Int)=h_:=by rw [List.length_map];omega
        have e2:(r0.length:Int)=w_:=by omega
        exact k a (.rng (some z) ⟨hi+1,wi+1,true,false⟩ ⟨hi+((b0::bt).map V.ref).length,wi+r0.length,false,false⟩) _ _ kv2 _ (Same.new ha _ _ (Same.new hu' _ _ (s3 _ _ hk2))) len2 la2 el2 ⟨q,u,upd_same,Same.new ha _ _ (Same.new hu' _ _ hq3),Same.new ha _ _ upd_same⟩ rfl rfl rfl (by show hi+_=hi+h_;rw [e1]) (by show wi+_=wi+w_;rw [e2]) (kp3.trans (Same.keep ((Same.new hu').trans (Same.new ha))))
theorem sc_law_put_down:FnScope ["_law_pen_here","_law_known","_law_sheet","_law_table"] ["_law_pen_here","_law_known","_law_sheet","_law_table"] (defScope s__law_put_down):=⟨rfl,rfl,rfl,by decide +kernel,rfl,by decide +kernel,by decide +kernel⟩
theorem ok__law_put_down (T:Txt w K mg t):FnOk P w K mg base CX0 3 t.f__law_put_down t.d__law_put_down ["_law_pen_here","_law_known","_law_sheet","_law_table"] (spPut K):=by
  have D:=T.c__law_put_down
  refine D.fn.ok sc_law_put_down (fun vs H Q E h=>?_) (fun cdv A outer s H vs Q E hr h=>?_)
  · obtain ⟨p,kn,l,z,kvs,bs,rows,h_,w_,n,S,rfl,_⟩:=h
    rfl
  · obtain ⟨p,kn,l,z,kvs,bs,rows,h_,w_,n,S,rfl,hpen,hn,hkn,hk8,hl,lp,npb,ls,hlen,h1,h16,w1,w8,hw,k⟩:=h
    have hu:=hr.units0
    have hu1:=hu_of hr
    refine ⟨_,((pss_one (ps_ret (pe_cl T.c__law_laid (ok__law_laid T) (hr.mono (by decide)) (pa_consN (pv 1) (pa_consN (pv 2) (pa_consN (pv 3) (pa_consC (pe_cl T.c__law_take (ok__law_take T) (hr.mono (by decide)) (pa_consN (pv 0) (pa_consB (pe_op op_sub pe_int (pe_callB call_len_seq (by rfl) T.len PySem.boot_len (pa_consN (pv 3) pa_nil))) pa_nil))) (pa_consC (pe_cl T.c__law_take (ok__law_take T) (hr.mono (by decide)) (pa_consN (pv 0) (pa_consB (pe_op op_sub pe_int (pe_callB call_len_seq (by rfl) T.len PySem.boot_len (pa_consS (pe_ix ix_list (pv 3) pe_int (fun _ _=>rfl)) pa_nil))) pa_nil))) pa_nil))))))))),?_⟩
    have bl:bs.length=h_:=by rw [Paired.length ls,hlen]
    have nkp:kn≠p:=by obtain ⟨_,eo⟩:=hpen.ob;exact ne_of hkn eo (by intro z;cases z)
    have e1:(((bs.map V.ref).length:Nat):Int)=h_:=by rw [List.length_map];omega
    refine ⟨_,rfl,_,rfl,_,rfl,_,rfl,_,rfl,l,_,rfl,.inl (SqL.of hl),_,_,rfl,rfl,p,_,_,S,rfl,(by rw [e1];omega),(by rw [e1];exact sz4000 (by omega) (by omega)),hpen,(by omega),fun r1 H1 a1 b1 pen1 kp1=>?_⟩
    rw [e1] at b1
    have hl1:=kp1 _ _ lp hl
    obtain ⟨b0,bt,rfl⟩:=cons_of (l:=bs) (by omega)
    obtain ⟨r0,rt,rfl⟩:=cons_of (l:=rows) (by omega)
    have ls1:LsAt H1 (b0::bt) (r0::rt):=pmem ls fun b row hb e=>kp1 _ _ (fun z=>npb (z▸hb)) e
    have hb0:H1 b0=some (.lst r0):=by cases ls1 with | cons h _=>exact h
    have r0l:=hw r0 List.mem_cons_self
    refine ⟨_,rfl,_,rfl,l,_,_,_,rfl,rfl,SqL.of hl1,atI_hd,b0,_,rfl,.inl (SqL.of hb0),_,_,rfl,rfl,p,_,_,S,rfl,(by rw [r0l];omega),(by rw [r0l];exact sz4000 (by omega) (by omega)),pen1,(by omega),fun r2 H2 a2 b2 pen2 kp2=>?_⟩
    rw [r0l] at b2
    have kp12:=kp1.trans kp2
    have ls2:LsAt H2 (b0::bt) (r0::rt):=pmem ls fun b row hb e=>kp12 _ _ (fun z=>npb (z▸hb)) e
    have hk2:=kp12 _ _ nkp hkn
    refine ⟨kn,l,z,r1,r2,kvs,b0::bt,r0::rt,h_,w_,rfl,hk2,hk8,kp12 _ _ lp hl,ls2,hlen,h1,h16,w1,w8,hw,fun a lf c d kvs' H' x1 x2 x3 x4 x5 x6 x7 x8 x9 x10 kp'=>?_⟩
    exact k a lf c d r1 r2 kvs' H' x1 x2 x3 x4 x5 x6 x7 x8 x9 x10 a1 (by omega) a2 (by omega) (pen2.kx hk2 kp') (fun b o hb hb' e=>kp' _ _ hb' (kp12 _ _ hb e))
theorem sc_law_tabled:FnScope ["_law_rows"] ["_law_rows"] (defScope s__law_tabled):=⟨rfl,rfl,rfl,by decide +kernel,rfl,by decide +kernel,by decide +kernel⟩
theorem ok__law_tabled (T:Txt w K mg t):FnOk P w K mg base CX0 1 t.f__law_tabled t.d__law_tabled ["_law_rows"] spTbd:=by
  have D:=T.c__law_tabled
  refine D.fn.ok sc_law_tabled (fun vs H Q E h=>?_) (fun cdv A outer s H vs Q E hr h=>?_)
  · obtain ⟨l,bs,rows,rfl,_⟩:=h
    rfl
  · obtain ⟨l,bs,rows,rfl,hl,ls,h100,k⟩:=h
    have hu:=hr.units0
    have hu1:=hu_of hr
    refine ⟨_,((pss_one (ps_ret (pe_callTy call_tuple_of (by rfl) T.tuple boot_tuple (pa_consH (pe_comp (fv:=[]) (js:=[]) (cl:=[]) rfl (by with_unfolding_all rfl) ⟨rfl,by decide +kernel,by decide +kernel,rfl,by decide +kernel,by decide +kernel,(List.forall_mem_nil _),(List.forall_mem_nil _),.nil⟩ (pi_list (pv 0)) (fun _ _ _ _ _=>pf_nil) (fun _ _ _ _ _=>(pe_callTy call_tuple_ofc (by rfl) T.tuple boot_tuple (pa_consN (pv 0) pa_nil)))) pa_nil))))),?_⟩
    have bl:bs.length=rows.length:=Paired.length ls
    refine ⟨_,rfl,l,rfl,⟨_,SqL.of hl⟩,fun D hD=>?_⟩
    have sD:∀ o,Same H (upd H D o):=fun o=>Same.new hD
    refine ⟨fun i m H4=>m=bs.length-i∧i≤bs.length∧∃ qs,H4 D=some (.lst qs)∧qs.length=i∧Paired (RsAt H4) qs (rows.take i)∧Same H H4,⟨bs.length,rfl,Nat.zero_le _,[],upd_same,rfl,.nil,sD _⟩,?_⟩
    rintro i m H4 ⟨rfl,hi,qs,hq4,hql,pr4,s4⟩
    by_cases hlt:i<bs.length
    · have hb:bs[i]?=some (bs[i]):=List.getElem?_eq_getElem hlt
      obtain ⟨row,hrow,hbr⟩:=paired_at ls hb
      have hx:(bs.map V.ref)[i]?=some (.ref bs[i]):=by rw [List.getElem?_map,hb];rfl
      refine .inr ⟨⟨_,_,SqL.of (s4 _ _ hl),hx⟩,fun x H' y=>?_⟩
      obtain ⟨e4,y⟩:=y
      subst e4
      have hx':=y _ (SqL.of (s4 _ _ hl))
      rw [hx] at hx'
      cases hx'
      refine ⟨_,rfl,bs[i],_,rfl,.inl ⟨SqL.of (s4 _ _ hbr),fun q hq=>?_⟩⟩
      have s5:=Same.new (o:=.tup row) hq
      have hqq:upd H' q (.tup row) q=some (.tup row):=upd_same
      generalize upd H' q (.tup row)=H5 at *
      have hD5:=s5 _ _ hq4
      refine ⟨qs,hD5,sl_lt (by omega),bs.length-(i+1),(by omega),rfl,hlt,qs++[.ref q],upd_same,(by rw [List.length_append,hql];rfl),?_,fun b o e=>?_⟩
      · rw [List.take_add_one,hrow]
        exact psnoc (Paired.imp' (fun _ _ ⟨c,e,y⟩=>⟨c,e,kp_upd hD5 _ _ (s5 _ _ y)⟩) pr4) ⟨q,rfl,kp_upd hD5 _ _ hqq⟩
      · rw [upd_ne (ne_of_none e hD)]
        exact s5 _ _ (s4 _ _ e)
    · have ei:i=bs.length:=by omega
      subst ei
      refine .inl ⟨⟨_,SqL.of (s4 _ _ hl),by rw [List.length_map];exact Nat.le_refl _⟩,D,qs,rfl,.inl ⟨SqL.of hq4,fun p hp=>k _ _ ⟨p,qs,rfl,upd_same,?_⟩ (s4.trans (Same.new hp))⟩⟩
      rw [List.take_of_length_le (Nat.le_of_eq bl.symm)] at pr4
      exact Paired.imp' (fun _ _ ⟨c,e,y⟩=>⟨c,e,Same.new hp _ _ y⟩) pr4
theorem sc_law_typed_alike:FnScope ["_law_told","_law_due"] ["_law_told","_law_due"] (defScope s__law_typed_alike):=⟨rfl,rfl,rfl,by decide +kernel,rfl,by decide +kernel,by decide +kernel⟩
theorem ok__law_typed_alike (T:Txt w K mg t):∀ n:Nat,FnOk P w K mg base CX0 (n+1) t.f__law_typed_alike t.d__law_typed_alike ["_law_told","_law_due"] (spTya n):=by
  have D:=T.c__law_typed_alike
  intro n
  induction n with
  | zero=>
    refine D.fn.ok sc_law_typed_alike (fun vs H Q E h=>?_) (fun cdv A outer s H vs Q E hr h=>?_)
    · obtain ⟨u,v,tr,rfl,_⟩:=h
      rfl
    · obtain ⟨u,v,tr,rfl,h1,h2,k⟩:=h
      have hu:=hr.units0
      have hu1:=hu_of hr
      have ih:FnOk P w K mg base CX0 0 t.f__law_typed_alike t.d__law_typed_alike ["_law_told","_law_due"] (fun _ _ _ _=>False):=⟨fun _ _ _ _ z=>z.elim,fun _ _ _ _ _ _ _ _ _ _ _ _ _ z=>z.elim⟩
      refine ⟨_,((pss_cons (ps_if (pt_val (pe_callB call_isinst (by rfl) T.isinstance boot_isinstance (pa_consN (pv 1) (pa_consN (pe_typ T.tuple boot_tuple) pa_nil)))) (pss_cons (ps_if (pw_or (pt_not (pt_val (pe_callB call_isinst (by rfl) T.isinstance boot_isinstance (pa_consN (pv 0) (pa_consN (pe_typ T.tuple boot_tuple) pa_nil))))) (pw_or1 (pt_cmpR op_ne (pe_callB call_len_seq (by rfl) T.len PySem.boot_len (pa_consN (pv 0) pa_nil)) (pe_callB call_len_seq (by rfl) T.len PySem.boot_len (pa_consN (pv 1) pa_nil)) (nomark _)))).pt (pss_one (ps_ret pe_bl)) pss_nil)
      (pss_one (ps_ret (pe_callB (call_all rfl) (by rfl) T.all boot_all (pa_consH (pe_comp (fv:=["_law_told","_law_due"]) (js:=[0,1]) (cl:=[("_law_told",s.heap.objs.size+1),("_law_due",s.heap.objs.size+2)]) rfl (by with_unfolding_all rfl) ⟨rfl,by decide +kernel,by decide +kernel,rfl,by decide +kernel,by decide +kernel,(List.forall_mem_cons.mpr ⟨⟨rfl,rfl,rfl⟩,(List.forall_mem_cons.mpr ⟨⟨rfl,rfl,rfl⟩,(List.forall_mem_nil _)⟩)⟩),(List.forall_mem_cons.mpr ⟨rfl,(List.forall_mem_cons.mpr ⟨rfl,(List.forall_mem_nil _)⟩)⟩),(.cons rfl (.cons rfl .nil))⟩ (pi_range1 rfl T.range (pa_consC (pe_callB call_len_seq (by rfl) T.len PySem.boot_len (pa_consN (pv 1) pa_nil)) pa_nil)) (fun _ _ _ _ _=>pf_nil) (fun _ _ _ _ _=>(pe_cl T.c__law_typed_alike ih (hr.mono (by omega)) (pa_consS (pe_ix ixc_tup (pv 1) (pv 0) (fun _ _=>rfl)) (pa_consS (pe_ix ixc_tup (pv 2) (pv 0) (fun _ _=>rfl)) pa_nil))))) pa_nil))))) pss_nil)
      (pss_cons (ps_if (pw_or (pt_val (pe_callB call_isinst (by rfl) T.isinstance boot_isinstance (pa_consN (pv 1) (pa_consN (pe_typ T.bool boot_bool) pa_nil)))) (pw_or1 (pt_val (pe_callB call_isinst (by rfl) T.isinstance boot_isinstance (pa_consN (pv 0) (pa_consN (pe_typ T.bool boot_bool) pa_nil)))))).pt (pss_one (ps_ret (pe_and (pe_callB call_isinst (by rfl) T.isinstance boot_isinstance (pa_consN (pv 1) (pa_consN (pe_typ T.bool boot_bool) pa_nil))) (pe_and (pe_callB call_isinst (by rfl) T.isinstance boot_isinstance (pa_consN (pv 0) (pa_consN (pe_typ T.bool boot_bool) pa_nil))) (pe_one (pe_cmpR op_eq (pv 0) (pv 1) (nomark _))))))) pss_nil)
      (pss_cons (ps_if (pt_val (pe_callB call_isinst (by rfl) T.isinstance boot_isinstance (pa_consN (pv 1) (pa_consN (pe_typ T.int boot_int) pa_nil)))) (pss_one (ps_ret (pe_and (pe_callB call_isinst (by rfl) T.isinstance boot_isinstance (pa_consN (pv 0) (pa_consN (pe_typ T.int boot_int) pa_nil))) (pe_one (pe_cmpR op_eq (pv 0) (pv 1) (nomark _)))))) pss_nil)
      (pss_one (ps_ret (pe_and (pe_callB call_isinst (by rfl) T.isinstance boot_isinstance (pa_consN (pv 0) (pa_consN (pe_typ T.str boot_str) pa_nil))) (pe_one (pe_cmpR op_eq (pv 0) (pv 1) (nomark _)))))))))),?_⟩
      cases h1 with
      | bl b=>
        cases h2
        refine ⟨_,rfl,_,_,_,_,false,rfl,.bl _,rfl,(fun _=>.inr trivial),T.ki_bt,false,rfl,iteF ?_⟩
        refine ⟨_,rfl,_,_,_,_,true,rfl,.bl _,rfl,(fun _=>.inr trivial),kit_tt _ _,true,rfl,iteT (iteT ?_)⟩
        refine ⟨_,rfl,_,_,_,_,true,rfl,.bl _,rfl,(fun _=>.inr trivial),kit_tt _ _,true,rfl,iteT ?_⟩
        refine ⟨_,rfl,_,_,_,_,true,rfl,.bl _,rfl,(fun _=>.inr trivial),kit_tt _ _,true,rfl,iteT ?_⟩
        exact ⟨_,rfl,_,rfl,rfl,rtv (by simp) (k _ (Same.refl _))⟩
      | int i=>
        cases h2
        refine ⟨_,rfl,_,_,_,_,false,rfl,.int _,rfl,(fun _=>.inr trivial),T.kiit,false,rfl,iteF ?_⟩
        refine ⟨_,rfl,_,_,_,_,false,rfl,.int _,rfl,(fun _=>.inr trivial),T.kib,false,rfl,iteF ?_⟩
        refine ⟨_,rfl,_,_,_,_,false,rfl,.int _,rfl,(fun _=>.inr trivial),T.kib,false,rfl,iteF ?_⟩
        refine ⟨_,rfl,_,_,_,_,true,rfl,.int _,rfl,(fun _=>.inr trivial),kit_tt _ _,true,rfl,iteT ?_⟩
        refine ⟨_,rfl,_,_,_,_,true,rfl,.int _,rfl,(fun _=>.inr trivial),kit_tt _ _,true,rfl,iteT ?_⟩
        exact ⟨_,rfl,_,rfl,rfl,rtv (by simp) (k _ (Same.refl _))⟩
      | str z=>
        cases h2
        refine ⟨_,rfl,_,_,_,_,false,rfl,.str _,rfl,(fun _=>.inr trivial),T.kist,false,rfl,iteF ?_⟩
        refine ⟨_,rfl,_,_,_,_,false,rfl,.str _,rfl,(fun _=>.inr trivial),T.ki_sb,false,rfl,iteF ?_⟩
        refine ⟨_,rfl,_,_,_,_,false,rfl,.str _,rfl,(fun _=>.inr trivial),T.ki_sb,false,rfl,iteF ?_⟩
        refine ⟨_,rfl,_,_,_,_,false,rfl,.str _,rfl,(fun _=>.inr trivial),T.ki_si,false,rfl,iteF ?_⟩
        refine ⟨_,rfl,_,_,_,_,true,rfl,.str _,rfl,(fun _=>.inr trivial),kit_tt _ _,true,rfl,iteT ?_⟩
        exact ⟨_,rfl,_,rfl,rfl,rtv (by simp) (k _ (Same.refl _))⟩
  | succ n ih=>
    refine D.fn.ok sc_law_typed_alike (fun vs H Q E h=>?_) (fun cdv A outer s H vs Q E hr h=>?_)
    · obtain ⟨u,v,tr,rfl,_⟩:=h
      rfl
    · obtain ⟨u,v,tr,rfl,h1,h2,k⟩:=h
      have hu:=hr.units0
      have hu1:=hu_of hr
      refine ⟨_,((pss_cons (ps_if (pt_val (pe_callB call_isinst (by rfl) T.isinstance boot_isinstance (pa_consN (pv 1) (pa_consN (pe_typ T.tuple boot_tuple) pa_nil)))) (pss_cons (ps_if (pw_or (pt_not (pt_val (pe_callB call_isinst (by rfl) T.isinstance boot_isinstance (pa_consN (pv 0) (pa_consN (pe_typ T.tuple boot_tuple) pa_nil))))) (pw_or1 (pt_cmpR op_ne (pe_callB call_len_seq (by rfl) T.len PySem.boot_len (pa_consN (pv 0) pa_nil)) (pe_callB call_len_seq (by rfl) T.len PySem.boot_len (pa_consN (pv 1) pa_nil)) (nomark _)))).pt (pss_one (ps_ret pe_bl)) pss_nil)
      (pss_one (ps_ret (pe_callB (call_all rfl) (by rfl) T.all boot_all (pa_consH (pe_comp (fv:=["_law_told","_law_due"]) (js:=[0,1]) (cl:=[("_law_told",s.heap.objs.size+1),("_law_due",s.heap.objs.size+2)]) rfl (by with_unfolding_all rfl) ⟨rfl,by decide +kernel,by decide +kernel,rfl,by decide +kernel,by decide +kernel,(List.forall_mem_cons.mpr ⟨⟨rfl,rfl,rfl⟩,(List.forall_mem_cons.mpr ⟨⟨rfl,rfl,rfl⟩,(List.forall_mem_nil _)⟩)⟩),(List.forall_mem_cons.mpr ⟨rfl,(List.forall_mem_cons.mpr ⟨rfl,(List.forall_mem_nil _)⟩)⟩),(.cons rfl (.cons rfl .nil))⟩ (pi_range1 rfl T.range (pa_consC (pe_callB call_len_seq (by rfl) T.len PySem.boot_len (pa_consN (pv 1) pa_nil)) pa_nil)) (fun _ _ _ _ _=>pf_nil) (fun _ _ _ _ _=>(pe_cl T.c__law_typed_alike ih (hr.mono (by omega)) (pa_consS (pe_ix ixc_tup (pv 1) (pv 0) (fun _ _=>rfl)) (pa_consS (pe_ix ixc_tup (pv 2) (pv 0) (fun _ _=>rfl)) pa_nil))))) pa_nil))))) pss_nil)
      (pss_cons (ps_if (pw_or (pt_val (pe_callB call_isinst (by rfl) T.isinstance boot_isinstance (pa_consN (pv 1) (pa_consN (pe_typ T.bool boot_bool) pa_nil)))) (pw_or1 (pt_val (pe_callB call_isinst (by rfl) T.isinstance boot_isinstance (pa_consN (pv 0) (pa_consN (pe_typ T.bool boot_bool) pa_nil)))))).pt (pss_one (ps_ret (pe_and (pe_callB call_isinst (by rfl) T.isinstance boot_isinstance (pa_consN (pv 1) (pa_consN (pe_typ T.bool boot_bool) pa_nil))) (pe_and (pe_callB call_isinst (by rfl) T.isinstance boot_isinstance (pa_consN (pv 0) (pa_consN (pe_typ T.bool boot_bool) pa_nil))) (pe_one (pe_cmpR op_eq (pv 0) (pv 1) (nomark _))))))) pss_nil)
      (pss_cons (ps_if (pt_val (pe_callB call_isinst (by rfl) T.isinstance boot_isinstance (pa_consN (pv 1) (pa_consN (pe_typ T.int boot_int) pa_nil)))) (pss_one (ps_ret (pe_and (pe_callB call_isinst (by rfl) T.isinstance boot_isinstance (pa_consN (pv 0) (pa_consN (pe_typ T.int boot_int) pa_nil))) (pe_one (pe_cmpR op_eq (pv 0) (pv 1) (nomark _)))))) pss_nil)
      (pss_one (ps_ret (pe_and (pe_callB call_isinst (by rfl) T.isinstance boot_isinstance (pa_consN (pv 0) (pa_consN (pe_typ T.str boot_str) pa_nil))) (pe_one (pe_cmpR op_eq (pv 0) (pv 1) (nomark _)))))))))),?_⟩
      cases h1 with
      | bl b=>
        cases h2
        refine ⟨_,rfl,_,_,_,_,false,rfl,.bl _,rfl,(fun _=>.inr trivial),T.ki_bt,false,rfl,iteF ?_⟩
        refine ⟨_,rfl,_,_,_,_,true,rfl,.bl _,rfl,(fun _=>.inr trivial),kit_tt _ _,true,rfl,iteT (iteT ?_)⟩
        refine ⟨_,rfl,_,_,_,_,true,rfl,.bl _,rfl,(fun _=>.inr trivial),kit_tt _ _,true,rfl,iteT ?_⟩
        refine ⟨_,rfl,_,_,_,_,true,rfl,.bl _,rfl,(fun _=>.inr trivial),kit_tt _ _,true,rfl,iteT ?_⟩
        exact ⟨_,rfl,_,rfl,rfl,rtv (by simp) (k _ (Same.refl _))⟩
      | int i=>
        cases h2
        refine ⟨_,rfl,_,_,_,_,false,rfl,.int _,rfl,(fun _=>.inr trivial),T.kiit,false,rfl,iteF ?_⟩
        refine ⟨_,rfl,_,_,_,_,false,rfl,.int _,rfl,(fun _=>.inr trivial),T.kib,false,rfl,iteF ?_⟩
        refine ⟨_,rfl,_,_,_,_,false,rfl,.int _,rfl,(fun _=>.inr trivial),T.kib,false,rfl,iteF ?_⟩
        refine ⟨_,rfl,_,_,_,_,true,rfl,.int _,rfl,(fun _=>.inr trivial),kit_tt _ _,true,rfl,iteT ?_⟩
        refine ⟨_,rfl,_,_,_,_,true,rfl,.int _,rfl,(fun _=>.inr trivial),kit_tt _ _,true,rfl,iteT ?_⟩
        exact ⟨_,rfl,_,rfl,rfl,rtv (by simp) (k _ (Same.refl _))⟩
      | str z=>
        cases h2
        refine ⟨_,rfl,_,_,_,_,false,rfl,.str _,rfl,(fun _=>.inr trivial),T.kist,false,rfl,iteF ?_⟩
        refine ⟨_,rfl,_,_,_,_,false,rfl,.str _,rfl,(fun _=>.inr trivial),T.ki_sb,false,rfl,iteF ?_⟩
        refine ⟨_,rfl,_,_,_,_,false,rfl,.str _,rfl,(fun _=>.inr trivial),T.ki_sb,false,rfl,iteF ?_⟩
        refine ⟨_,rfl,_,_,_,_,false,rfl,.str _,rfl,(fun _=>.inr trivial),T.ki_si,false,rfl,iteF ?_⟩
        refine ⟨_,rfl,_,_,_,_,true,rfl,.str _,rfl,(fun _=>.inr trivial),kit_tt _ _,true,rfl,iteT ?_⟩
        exact ⟨_,rfl,_,rfl,rfl,rtv (by simp) (k _ (Same.refl _))⟩
      | @tup a us ts _ e1 l1 n1 hh1=>
        cases h2 with
        | @tup b vs _ _ e2 l2 n2 hh2=>
          have ll:us.length=vs.length:=n1.trans n2.symm
          refine ⟨_,rfl,_,_,_,_,true,rfl,.tup e2,rfl,(fun _=>.inr trivial),kit_tt _ _,true,rfl,iteT ?_⟩
          refine ⟨_,rfl,_,_,_,_,true,rfl,.tup e1,rfl,(fun _=>.inr trivial),kit_tt _ _,true,rfl,iteF ?_⟩
          refine ⟨_,rfl,a,us,rfl,.inr (SqT.of e1),_,rfl,b,vs,rfl,.inr (SqT.of e2),rfl,false,(by simp [ll]),iteF ?_⟩
          refine ⟨_,rfl,b,vs,rfl,.inr (SqT.of e2),_,rfl,(by omega),(by omega),fun D hD=>?_⟩
          have sD:∀ o,Same H (upd H D o):=fun o=>Same.new hD
          refine ⟨fun i m H4=>m=vs.length-i∧i≤vs.length∧H4 D=some (.lst ((List.replicate i true).map V.bl))∧Same H H4,⟨vs.length,rfl,Nat.zero_le _,upd_same,sD _⟩,?_⟩
          rintro i m H4 ⟨rfl,hi,hD4,s4⟩
          by_cases hlt:i<vs.length
          · refine .inr ⟨(by show i<(vs.length:Int).toNat;omega),fun x H' y=>?_⟩
            obtain ⟨e4,rfl⟩:=y
            subst e4
            have hu1:us[i]?=some (us[i]'(by omega)):=List.getElem?_eq_getElem (by omega)
            have hv1:vs[i]?=some (vs[i]):=List.getElem?_eq_getElem hlt
            have ht1:ts[i]?=some (ts[i]'(by omega)):=List.getElem?_eq_getElem (by omega)
            refine ⟨_,rfl,_,rfl,a,_,_,_,rfl,rfl,SqT.of (s4 _ _ e1),(by rw [Int.zero_add];exact atI_nat hu1),_,rfl,_,rfl,b,_,_,_,rfl,rfl,SqT.of (s4 _ _ e2),(by rw [Int.zero_add];exact atI_nat hv1),?_⟩
            refine ⟨_,_,_,rfl,(hh1 _ _ _ hu1 ht1).kp (Kp.same s4),(hh2 _ _ _ hv1 ht1).kp (Kp.same s4),fun H5 s5=>?_⟩
            refine ⟨_,s5 _ _ hD4,sl_lt (by rw [List.length_map,List.length_replicate];omega),vs.length-(i+1),(by omega),rfl,hlt,?_,fun b' o e=>?_⟩
            · rw [upd_same,List.replicate_succ',List.map_append];rfl
            · rw [upd_ne (ne_of_none e hD)];exact s5 _ _ (s4 _ _ e)
          · have ei:i=vs.length:=by omega
            subst ei
            refine .inl ⟨(by show (vs.length:Int).toNat≤vs.length;omega),D,List.replicate vs.length true,rfl,SqL.of hD4,?_⟩
            rw [all_true]
            exact k _ s4
theorem sc_law_lessened:FnScope ["_law_one"] ["_law_one"] (defScope s__law_lessened):=⟨rfl,rfl,rfl,by decide +kernel,rfl,by decide +kernel,by decide +kernel⟩
theorem ok__law_lessened (T:Txt w K mg t):FnOk P w K mg base CX0 1 t.f__law_lessened t.d__law_lessened ["_law_one"] spLsn:=by
  have D:=T.c__law_lessened
  refine D.fn.ok sc_law_lessened (fun vs H Q E h=>?_) (fun cdv A outer s H vs Q E hr h=>?_)
  · obtain ⟨u,v,rfl,_⟩:=h
    rfl
  · obtain ⟨u,v,rfl,hv,k⟩:=h
    have hu:=hr.units0
    have hu1:=hu_of hr
    refine ⟨_,((pss_cons (ps_if (pw_and (pt_cmpR op_eq (pe_ix ix_tup (pv 0) pe_int (fun _ _=>rfl)) pe_str (nomark _)) (pw_and1 (pt_cmpR op_gt (pe_callB (call_max2 rfl) (by rfl) T.max boot_max (pa_consC (pe_callB call_abs (by rfl) T.abs boot_abs (pa_consS (pe_ix ix_tup (pv 0) pe_int (fun _ _=>rfl)) pa_nil)) (pa_consS (pe_ix ix_tup (pv 0) pe_int (fun _ _=>rfl)) pa_nil))) pe_int (nomark _)))).pt (pss_one (ps_ret (pe_tup (pa_consK pe_str (pa_consK pe_int (pa_consK pe_int pa_nil)))))) pss_nil)
      (pss_one (ps_ret (pv 0))))),?_⟩
    obtain ⟨q,xs,rfl,hq,_⟩:=hv.hd
    refine ⟨_,rfl,q,_,_,_,rfl,rfl,SqT.of hq,atI_hd,rfl,_,rfl,ite2 (fun c=>?_) (fun c=>iteF ?_)⟩
    · obtain ⟨_,ez,hz⟩:=id hv
      cases ez
      obtain ⟨t_,b_,rfl⟩:=hz.num_of c
      have hq':H q=some (.tup [vS "number",.int t_,.int b_]):=hz
      refine ⟨_,rfl,q,_,_,_,rfl,rfl,SqT.of hq',rfl,t_,rfl,_,rfl,q,_,_,_,rfl,rfl,SqT.of hq',rfl,_,_,rfl,_,_,rfl,rfl,big2 t_ b_,rfl,ite2 (fun d=>?_) (fun d=>?_)⟩
      · refine ⟨three_le,fun p hp=>k _ _ ?_ (Same.new hp)⟩
        rw [lessM_pos d]
        exact ⟨p,rfl,upd_same⟩
      · refine ⟨_,rfl,k _ _ ?_ (Same.refl _)⟩
        rw [lessM_neg d]
        exact hv
    · refine ⟨_,rfl,k _ _ ?_ (Same.refl _)⟩
      cases v with
      | num t b=>exact absurd (by show decide (V.str (Str.ofString "number")=vS "number")=true;decide +kernel) c
      | none=>exact hv
      | txt z=>exact hv
      | tru b=>exact hv
      | flt w z r c=>exact hv
theorem sc_law_dues:FnScope ["_law_table","_law_home","_law_numbers","_law_row","_law_one","_law_total","_law_least","_law_most"] ["_law_table","_law_home"] (defScope s__law_dues):=⟨rfl,rfl,rfl,by decide +kernel,rfl,by decide +kernel,by decide +kernel⟩
theorem ok__law_dues (T:Txt w K mg t):FnOk P w K mg base CX0 3 t.f__law_dues t.d__law_dues ["_law_table","_law_home"] spDu4:=by
  have D:=T.c__law_dues
  refine D.fn.ok sc_law_dues (fun vs H Q E h=>?_) (fun cdv A outer s H vs Q E hr h=>?_)
  · obtain ⟨p,l,bs,rows,m,h_,w_,y,hm,β,γ,rfl,_⟩:=h
    rfl
  · obtain ⟨p,l,bs,rows,m,h_,w_,y,hm,β,γ,rfl,tt0,nok,hy,k⟩:=h
    have hu:=hr.units0
    have hu1:=hu_of hr
    refine ⟨_,((pss_cons (ps_set (i:=2) sc_law_dues.nd rfl (Or.inl rfl) (pe_lst pa_nil))
      (pss_cons (ps_for PassesOwn.never rfl (pi_list (pv 0)) (pg_name (i:=3) sc_law_dues.nd rfl (Or.inl rfl))
      (pss_one (ps_for PassesOwn.never rfl (pi_list (pv 3)) (pg_name (i:=4) sc_law_dues.nd rfl (Or.inl rfl))
      (pss_cons (ps_if (pt_cmpR op_eq (pe_ix ix_tup (pv 4) pe_int (fun _ _=>rfl)) pe_str (nomark _)) (pss_one (ps_ret (pe_op op_rep (pe_lst (pa_consN (pv 4) pa_nil)) pe_int))) pss_nil)
      (pss_one (ps_if (pt_cmpR op_eq (pe_ix ix_tup (pv 4) pe_int (fun _ _=>rfl)) pe_str (nomark _)) (pss_one (ps_expr (pe_bm PySem.F.plainAttrs_list PySem.F.slot_list_append PySem.F.type_list_append mt_append (pv 2) (pa_consN (pv 4) pa_nil)))) pss_nil))))))
      (pss_cons (ps_set (i:=5) sc_law_dues.nd rfl (Or.inl rfl) (pe_tup (pa_consK pe_str (pa_consK pe_int (pa_consK pe_int pa_nil)))))
      (pss_cons (ps_set (i:=6) sc_law_dues.nd rfl (Or.inl rfl) (pe_tup (pa_consK pe_str pa_nil)))
      (pss_cons (ps_set (i:=7) sc_law_dues.nd rfl (Or.inl rfl) (pe_tup (pa_consK pe_str pa_nil)))
      (pss_cons (ps_for PassesOwn.never rfl (pi_list (pv 2)) (pg_name (i:=4) sc_law_dues.nd rfl (Or.inl rfl))
      (pss_cons (ps_set (i:=5) sc_law_dues.nd rfl (Or.inl rfl) (pe_cl T.c__law_lowest (ok__law_lowest T) (hr.mono (by decide)) (pa_consB (pe_op op_add (pe_op op_mulW (pe_ix ix_tup (pv 5) pe_int (fun _ _=>rfl)) (pe_ix ix_tup (pv 4) pe_int (fun _ _=>rfl))) (pe_op op_mulW (pe_ix ix_tup (pv 4) pe_int (fun _ _=>rfl)) (pe_ix ix_tup (pv 5) pe_int (fun _ _=>rfl)))) (pa_consB (pe_op op_mulW (pe_ix ix_tup (pv 5) pe_int (fun _ _=>rfl)) (pe_ix ix_tup (pv 4) pe_int (fun _ _=>rfl))) pa_nil))))
      (pss_cons (ps_if (pw_or (pt_cmpR (op_eqN hu1) (pv 6) (pe_tup (pa_consK pe_str pa_nil)) (nomark _)) (pw_or1 (pt_cmpR op_lt (pe_op op_mulW (pe_ix ix_tup (pv 4) pe_int (fun _ _=>rfl)) (pe_ix ix_tup (pv 6) pe_int (fun _ _=>rfl))) (pe_op op_mulW (pe_ix ix_tup (pv 6) pe_int (fun _ _=>rfl)) (pe_ix ix_tup (pv 4) pe_int (fun _ _=>rfl))) (nomark _)))).pt (pss_one (ps_set (i:=6) sc_law_dues.nd rfl (Or.inl rfl) (pv 4))) pss_nil)
      (pss_one (ps_if (pw_or (pt_cmpR (op_eqN hu1) (pv 7) (pe_tup (pa_consK pe_str pa_nil)) (nomark _)) (pw_or1 (pt_cmpR op_lt (pe_op op_mulW (pe_ix ix_tup (pv 7) pe_int (fun _ _=>rfl)) (pe_ix ix_tup (pv 4) pe_int (fun _ _=>rfl))) (pe_op op_mulW (pe_ix ix_tup (pv 4) pe_int (fun _ _=>rfl)) (pe_ix ix_tup (pv 7) pe_int (fun _ _=>rfl))) (nomark _)))).pt (pss_one (ps_set (i:=7) sc_law_dues.nd rfl (Or.inl rfl) (pv 4))) pss_nil)))))
      (pss_cons (ps_if (pw_or (pt_cmpR op_ge (pe_callB call_abs (by rfl) T.abs boot_abs (pa_consS (pe_ix ix_tup (pv 5) pe_int (fun _ _=>rfl)) pa_nil)) (pe_op op_pow pe_int pe_int) (nomark _)) (pw_or1 (pt_cmpR op_ge (pe_ix ix_tup (pv 5) pe_int (fun _ _=>rfl)) (pe_op op_pow pe_int pe_int) (nomark _)))).pt (pss_one (ps_set (i:=5) sc_law_dues.nd rfl (Or.inl rfl) (pe_tup (pa_consK pe_str (pa_consK pe_str (pa_consN (pv 1) pa_nil)))))) pss_nil)
      (pss_one (ps_ret (pe_lst (pa_consN (pv 5) (pa_consT (pe_tup (pa_consK pe_str (pa_consC (pe_callB call_len_seq (by rfl) T.len PySem.boot_len (pa_consN (pv 2) pa_nil)) (pa_consK pe_int pa_nil)))) (pa_consN (pv 6) (pa_consN (pv 7) pa_nil))))))))))))))),?_⟩
    have h16:=tt0.d.h16;have w8:=tt0.d.w8
    have bl:bs.length=h_:=(Paired.length tt0.d.ls).trans tt0.d.len
    have hhw:h_*w_≤16*8:=Nat.mul_le_mul h16 w8
    have okf:∀ v∈m.flatten,VlOk v:=flat_ok fun r hr=>(tt0.ok r hr).2
    have lmf:m.flatten.length=h_*w_:=by rw [flat_len tt0.rect.row,tt0.ml]
    have nlen:∀ ms:List Vl,(numsOf ms).length≤ms.length:=fun ms=>List.length_filterMap_le _ _
    refine ⟨Nat.zero_le _,fun ln hln=>?_⟩
    have s1:=Same.new (o:=.lst []) hln
    have hn1:upd H ln (.lst []) ln=some (.lst []):=upd_same
    generalize upd H ln (.lst [])=H1 at *
    refine ⟨_,rfl,l,rfl,⟨_,SqL.of (s1 _ _ tt0.d.ob)⟩,?_⟩
    refine for_list (xs:=bs.map V.ref) (fun j σ H5=>∃ x3 x4 us,σ=[some (.ref l),some y,some (.ref ln),x3,x4,none,none,none]∧H5 ln=some (.lst us)∧PnAt H5 us (numsOf (m.take j).flatten)∧(m.take j).flatten.find? isF=none∧Same H H5) ⟨_,_,[],rfl,hn1,.nil,rfl,s1⟩ ?_ ?_ ?_
    · rintro j σ H5 _ ⟨x3,x4,us,rfl,_,_,_,s5⟩
      exact SqL.of (s5 _ _ tt0.d.ob)
    · rintro j x σ H5 hx ⟨x3,x4,us,rfl,hn5,pn5,fn5,s5⟩
      rw [List.getElem?_map] at hx
      obtain ⟨b0,hb0,rfl⟩:∃ b0,bs[j]?=some b0∧x=.ref b0:=by
        cases e:bs[j]? with
        | none=>rw [e] at hx;cases hx
        | some b0=>rw [e] at hx;cases hx;exact ⟨b0,rfl,rfl⟩
      obtain ⟨row,hrow,hbr⟩:=paired_at tt0.d.ls hb0
      obtain ⟨mr,hmr,pv⟩:=paired_at tt0.vt hrow
      have hbr':H b0=some (.lst row):=hbr
      have lr:row.length=mr.length:=Paired.length pv
      have etj:m.take (j+1)=m.take j++[mr]:=take_snoc hmr
      have efl:(m.take (j+1)).flatten=(m.take j).flatten++mr:=by rw [etj,List.flatten_append];simp
      have esp:∃ r,m.flatten=(m.take j).flatten++mr++r:=⟨(m.drop (j+1)).flatten,by rw [← efl,← List.flatten_append,List.take_append_drop]⟩
      refine ⟨_,rfl,b0,rfl,⟨_,SqL.of (s5 _ _ hbr')⟩,?_⟩
      refine for_list (xs:=row) (fun kk σ H6=>∃ x4 us,σ=[some (.ref l),some y,some (.ref ln),some (.ref b0),x4,none,none,none]∧H6 ln=some (.lst us)∧PnAt H6 us (numsOf ((m.take j).flatten++mr.take kk))∧((m.take j).flatten++mr.take kk).find? isF=none∧Same H H6) ⟨_,us,rfl,hn5,(by rw [List.take_zero,List.append_nil];exact pn5),(by rw [List.take_zero,List.append_nil];exact fn5),s5⟩ ?_ ?_ ?_
      · rintro kk σ H6 _ ⟨x4,us,rfl,_,_,_,s6⟩
        exact SqL.of (s6 _ _ hbr')
      · rintro kk u σ H6 hu' ⟨x4,us,rfl,hn6,pn6,fn6,s6⟩
        obtain ⟨v,hv,xv⟩:=paired_at pv hu'
        have xv6:=xv.kp (Kp.same s6)
        have etk:(m.take j).flatten++mr.take (kk+1)=((m.take j).flatten++mr.take kk)++[v]:=by rw [take_snoc hv,List.append_assoc]
        have ul:us.length≤h_*w_:=by
          rw [Paired.length pn6]
          refine Nat.le_trans (nlen _) ?_
          obtain ⟨r,er⟩:=esp
          rw [← lmf,er,List.length_append,List.length_append,List.length_append,List.length_take]
          omega
        obtain ⟨q,xs,rfl,hq,_⟩:=xv6.hd
        refine ⟨_,rfl,q,_,_,_,rfl,rfl,SqT.of hq,atI_hd,rfl,isF v,rfl,ite2 (fun f=>?_) (fun f=>?_)⟩
        · refine ⟨_,rfl,(by show 1≤sizeLine;decide),fun l1 hl1=>⟨l1,4,_,rfl,rfl,upd_same,(by decide),(by decide),(by show 1*4≤sizeLine;decide),fun l2 hl2=>?_⟩⟩
          have ef:m.flatten.find? isF=some v:=by
            obtain ⟨r,er⟩:=esp
            have hk':kk<mr.length:=(List.getElem?_eq_some_iff.mp hv).1
            have:mr=mr.take kk++v::mr.drop (kk+1):=by
              conv=>lhs;rw [← List.take_append_drop kk mr]
              rw [List.drop_eq_getElem_cons hk',List.getElem?_eq_getElem hk'] at *
              cases hv
              rfl
            rw [er,this,List.append_assoc,List.append_assoc,← List.append_assoc,List.find?_append,fn6,Option.none_or,List.cons_append,List.find?_cons_of_pos f]
          have s7:=(Same.new (o:=.lst [V.ref q]) hl1).trans (Same.new (o:=.lst (List.replicate (4:Int).toNat [V.ref q]).flatten) hl2)
          have vv:=xv6.kp (Kp.same s7)
          refine k l2 [.ref q,.ref q,.ref q,.ref q] _ upd_same ?_ (s6.trans s7)
          unfold due4
          rw [fltO_s ef,fltO_s ef,fltO_s ef,fltO_s ef]
          exact .cons vv (.cons vv (.cons vv (.cons vv .nil)))
        · have fnC:((m.take j).flatten++mr.take (kk+1)).find? isF=none:=by rw [etk,List.find?_append,fn6,Option.none_or,List.find?_cons_of_neg f];rfl
          refine ⟨_,rfl,q,_,_,_,rfl,rfl,SqT.of hq,atI_hd,rfl,_,rfl,ite2 (fun g=>?_) (fun g=>?_)⟩
          · obtain ⟨_,ez,hz⟩:=xv6
            cases ez
            obtain ⟨t_,b_,rfl⟩:=hz.num_of g
            have kd:=kp_upd (vs:=us++[.ref q]) hn6
            refine ⟨_,rfl,.inl ⟨rfl,_,SqL.of hn6⟩,_,rfl,ln,us,_,rfl,rfl,hn6,sl_lt (by omega),_,us++[.ref q],rfl,upd_same,?_,fnC,fun b' o e=>by rw [upd_ne (ne_of_none e hln)];exact s6 _ _ e⟩
            show PnAt _ _ (numsOf ((m.take j).flatten++mr.take (kk+1)))
            rw [etk,nums_snoc]
            exact psnoc (PnAt.kp pn6 kd) ⟨q,rfl,kd _ _ hz⟩
          · refine ⟨_,us,rfl,hn6,?_,fnC,s6⟩
            show PnAt _ _ (numsOf ((m.take j).flatten++mr.take (kk+1)))
            have e0:[v].filterMap numO=[]:=by
              cases v with
              | num t b=>exact absurd (by show decide (V.str (Str.ofString "number")=vS "number")=true;decide +kernel) g
              | none=>rfl
              | txt z=>rfl
              | tru b=>rfl
              | flt w z r c=>rfl
            rw [etk,nums_snoc,e0,List.append_nil]
            exact pn6
      · rintro σ H6 ⟨x4,us,rfl,hn6,pn6,fn6,s6⟩
        rw [lr,List.take_length,← efl] at pn6 fn6
        exact ⟨_,_,us,rfl,hn6,pn6,fn6,s6⟩
    · rintro σ H5 ⟨x3,x4,us,rfl,hn5,pn5,fn5,s5⟩
      rw [List.length_map,bl,← tt0.ml,List.take_length] at pn5 fn5
      obtain ⟨ns,hns⟩:∃ ns,ns=numsOf m.flatten:=⟨_,rfl⟩
      rw [← hns] at pn5 nok
      have lus:us.length=ns.length:=Paired.length pn5
      have okn:∀ n∈ns,Low n.1 n.2∧n.1.natAbs<10 ^ 30∧n.2.natAbs<10 ^ 30:=fun n hn=>okf _ (nums_mem (hns▸hn))
      refine ⟨three_le,fun q0 hq0=>?_⟩
      have g1:=Same.new (o:=.tup [vS "number",.int 0,.int 1]) hq0
      have ht1:Tot (upd H5 q0 (.tup [vS "number",.int 0,.int 1])) q0 (fsl (ns.take 0)):=by rw [List.take_zero];exact upd_same
      generalize upd H5 q0 (.tup [vS "number",.int 0,.int 1])=H6 at *
      refine ⟨(by show 1≤sizeLine;decide),fun q1 hq1=>?_⟩
      have g2:=Same.new (o:=.tup [vS "none"]) hq1
      have hl2:VvAt (upd H6 q1 (.tup [vS "none"])) (.ref q1) .none:=⟨q1,rfl,upd_same⟩
      generalize upd H6 q1 (.tup [vS "none"])=H7 at *
      refine ⟨(by show 1≤sizeLine;decide),fun q2 hq2=>?_⟩
      have g3:=Same.new (o:=.tup [vS "none"]) hq2
      have hl3:VvAt (upd H7 q2 (.tup [vS "none"])) (.ref q2) .none:=⟨q2,rfl,upd_same⟩
      generalize upd H7 q2 (.tup [vS "none"])=H8 at *
      have s58:=(g1.trans g2).trans g3
      refine ⟨_,rfl,ln,rfl,⟨_,SqL.of (s58 _ _ hn5)⟩,?_⟩
      refine for_list (xs:=us) (fun i σ H9=>∃ x4 q ul um,σ=[some (.ref l),some y,some (.ref ln),x3,x4,some (.ref q),some ul,some um]∧Tot H9 q (fsl (ns.take i))∧VvAt H9 ul (endV (endF false (ns.take i)))∧VvAt H9 um (endV (endF true (ns.take i)))∧Same H5 H9) ⟨_,q0,.ref q1,.ref q2,rfl,g3 _ _ (g2 _ _ ht1),hl2.kp (Kp.same g3),hl3,s58⟩ ?_ ?_ ?_
      · rintro i σ H9 _ ⟨x4,q,ul,um,rfl,_,_,_,s9⟩
        exact SqL.of (s9 _ _ hn5)
      · rintro i xx σ H9 hxx ⟨x4,q,ul,um,rfl,ht9,hl9,hm9,s9⟩
        obtain ⟨n,hn,qn,rfl,hqn⟩:=paired_at pn5 hxx
        have hi:i<ns.length:=(List.getElem?_eq_some_iff.mp hn).1
        have hnm:=List.mem_of_getElem? hn
        obtain ⟨lo,z1,z2⟩:=okn n hnm
        have bp:=lo.pos
        have zt:Sz 4000 n.1:=(sz30n z1).mono (by decide)
        have zb:Sz 4000 n.2:=(sz30n z2).mono (by decide)
        obtain ⟨fp,y1,y2,y3⟩:=tot_sz (i:=i) nok (by omega)
        have bp2:=lowB_pos (t:=(fsl (ns.take i)).1) (b:=(fsl (ns.take i)).2) (by omega)
        obtain ⟨o1,o2⟩:=low_add (t:=n.1) (b:=n.2) fp bp
        have hpos:=Int.mul_pos bp2 bp
        have hqn9:=s9 _ _ hqn
        refine ⟨_,rfl,q,_,_,_,rfl,rfl,SqT.of ht9,rfl,_,rfl,qn,_,_,_,rfl,rfl,SqT.of hqn9,rfl,_,_,rfl,rfl,⟨y1,zb⟩,_,rfl,qn,_,_,_,rfl,rfl,SqT.of hqn9,rfl,_,rfl,q,_,_,_,rfl,rfl,SqT.of ht9,rfl,_,_,rfl,rfl,⟨zt,y2⟩,_,_,rfl,rfl,_,rfl,q,_,_,_,rfl,rfl,SqT.of ht9,rfl,_,rfl,qn,_,_,_,rfl,rfl,SqT.of hqn9,rfl,_,_,rfl,rfl,⟨y2,zb⟩,?_⟩
        refine ⟨_,_,rfl,(by omega),?_,fun q' hq'=>?_⟩
        · refine sz_of (k:=1) (m:=β*(i+1)) ?_ (by decide) ?_
          · rw [Nat.one_mul,Int.natAbs_mul]
            exact Nat.le_trans (Nat.mul_le_mul y3 (nok.1 n hnm).2.2) (by rw [← Nat.pow_add,Nat.mul_succ];exact Nat.le_refl _)
          · have:=Nat.mul_le_mul_left β (show i+1≤ns.length from hi)
            have:=nok.2.2
            omega
        have s10:=Same.new (o:=.tup [vS "number",.int (lowT (lowT (fsl (ns.take i)).1 (fsl (ns.take i)).2*n.2+n.1*lowB (fsl (ns.take i)).1 (fsl (ns.take i)).2) (lowB (fsl (ns.take i)).1 (fsl (ns.take i)).2*n.2)),.int (lowB (lowT (fsl (ns.take i)).1 (fsl (ns.take i)).2*n.2+n.1*lowB (fsl (ns.take i)).1 (fsl (ns.take i)).2) (lowB (fsl (ns.take i)).1 (fsl (ns.take i)).2*n.2))]) hq'
        have ht10:Tot (upd H9 q' (.tup [vS "number",.int (lowT (lowT (fsl (ns.take i)).1 (fsl (ns.take i)).2*n.2+n.1*lowB (fsl (ns.take i)).1 (fsl (ns.take i)).2) (lowB (fsl (ns.take i)).1 (fsl (ns.take i)).2*n.2)),.int (lowB (lowT (fsl (ns.take i)).1 (fsl (ns.take i)).2*n.2+n.1*lowB (fsl (ns.take i)).1 (fsl (ns.take i)).2) (lowB (fsl (ns.take i)).1 (fsl (ns.take i)).2*n.2))])) q' (fsl (ns.take (i+1))):=by
          rw [take_snoc hn,fsl_snoc]
          show upd _ _ _ _=_
          rw [upd_same,o1,o2]
        generalize upd H9 q' (.tup [vS "number",.int (lowT (lowT (fsl (ns.take i)).1 (fsl (ns.take i)).2*n.2+n.1*lowB (fsl (ns.take i)).1 (fsl (ns.take i)).2) (lowB (fsl (ns.take i)).1 (fsl (ns.take i)).2*n.2)),.int (lowB (lowT (fsl (ns.take i)).1 (fsl (ns.take i)).2*n.2+n.1*lowB (fsl (ns.take i)).1 (fsl (ns.take i)).2) (lowB (fsl (ns.take i)).1 (fsl (ns.take i)).2*n.2))])=H10 at *
        have hqn10:=s10 _ _ hqn9
        have hl10:=hl9.kp (Kp.same s10)
        have hm10:=hm9.kp (Kp.same s10)
        have el:endF false (ns.take (i+1))=stepE false (endF false (ns.take i)) n:=by rw [take_snoc hn,endF_snoc]
        have em:endF true (ns.take (i+1))=stepE true (endF true (ns.take i)) n:=by rw [take_snoc hn,endF_snoc]
        have okE:∀ b n0,endF b (ns.take i)=some n0→n0∈ns:=fun b n0 h0=>endF_mem (fun x hx=>List.mem_of_mem_take hx) h0
        dsimp only [gName]
        refine seq_cut (fun σ H11=>∃ ul',σ=[some (.ref l),some y,some (.ref ln),x3,some (.ref qn),some (.ref q'),some ul',some um]∧VvAt H11 ul' (endV (endF false (ns.take (i+1))))∧Same H10 H11) (fun N hN=>?_) ?_
        · refine ⟨_,rfl,(by show 1≤sizeLine;decide),fun qt hqt=>?_⟩
          have s12:=Same.new (o:=.tup [vS "none"]) hqt
          have ht12:VvAt (upd H10 qt (.tup [vS "none"])) (.ref qt) .none:=⟨qt,rfl,upd_same⟩
          generalize upd H10 qt (.tup [vS "none"])=H12 at *
          have hl12:=hl10.kp (Kp.same s12)
          obtain ⟨ql,xl,rfl,hql,itl⟩:=hl12.hd
          obtain ⟨_,xt,et,hqt',itt⟩:=ht12.hd
          cases et
          have hqn12:=s12 _ _ hqn10
          cases eo:endF false (ns.take i) with
          | none=>
            rw [eo] at hql itl hl12 el
            refine ⟨ql,qt,_,_,_,_,rfl,rfl,hql,hqt',itl,itt,true,congrArg V.bl eq_nn,iteT (iteT ⟨_,rfl,hN _ _ ⟨_,rfl,?_,s12⟩⟩)⟩
            rw [el]
            exact ⟨qn,rfl,hqn12⟩
          | some n0=>
            rw [eo] at hql itl hl12 el
            obtain ⟨lo0,w1,w2⟩:=okn n0 (okE false n0 eo)
            have zt0:Sz 4000 n0.1:=(sz30n w1).mono (by decide)
            have zb0:Sz 4000 n0.2:=(sz30n w2).mono (by decide)
            obtain ⟨_,e1,hql'⟩:=id hl12
            cases e1
            have hql2:H12 ql=some (.tup [vS "number",.int n0.1,.int n0.2]):=hql'
            refine ⟨ql,qt,_,_,_,_,rfl,rfl,hql,hqt',itl,itt,false,congrArg V.bl eq_num,iteF ?_⟩
            refine ⟨_,rfl,qn,_,_,_,rfl,rfl,SqT.of hqn12,rfl,_,rfl,ql,_,_,_,rfl,rfl,SqT.of hql2,rfl,_,_,rfl,rfl,⟨zt,zb0⟩,_,rfl,ql,_,_,_,rfl,rfl,SqT.of hql2,rfl,_,rfl,qn,_,_,_,rfl,rfl,SqT.of hqn12,rfl,_,_,rfl,rfl,⟨zt0,zb⟩,_,_,rfl,rfl,less2 n n0,rfl,ite2 (fun c=>?_) (fun c=>?_)⟩
            · refine ⟨_,rfl,hN _ _ ⟨_,rfl,?_,s12⟩⟩
              rw [el,stepE_y (by simpa using c)]
              exact ⟨qn,rfl,hqn12⟩
            · refine hN _ _ ⟨_,rfl,?_,s12⟩
              rw [el,stepE_n (by simpa using c)]
              exact hl12
        · rintro σ H11 ⟨ul',rfl,hl11,s11⟩
          have hm11:=hm10.kp (Kp.same s11)
          have hqn11:=s11 _ _ hqn10
          have s911:=s10.trans s11
          refine ⟨_,rfl,(by show 1≤sizeLine;decide),fun qt hqt=>?_⟩
          have s12:=Same.new (o:=.tup [vS "none"]) hqt
          have ht12:VvAt (upd H11 qt (.tup [vS "none"])) (.ref qt) .none:=⟨qt,rfl,upd_same⟩
          generalize upd H11 qt (.tup [vS "none"])=H12 at *
          have hm12:=hm11.kp (Kp.same s12)
          obtain ⟨qm,xm,rfl,hqm,itm_⟩:=hm12.hd
          obtain ⟨_,xt,et,hqt',itt⟩:=ht12.hd
          cases et
          have s912:=s911.trans s12
          have hqn12:=s12 _ _ hqn11
          have fin:∀ (um':V),VvAt H12 um' (endV (endF true (ns.take (i+1))))→∃ x4 q ul um,[some (.ref l),some y,some (.ref ln),x3,some (.ref qn),some (.ref q'),some ul',some um']=[some (.ref l),some y,some (.ref ln),x3,x4,some (.ref q),some ul,some um]∧Tot H12 q (fsl (ns.take (i+1)))∧VvAt H12 ul (endV (endF false (ns.take (i+1))))∧VvAt H12 um (endV (endF true (ns.take (i+1))))∧Same H5 H12:=fun um' h'=>
            ⟨_,q',ul',um',rfl,s12 _ _ (s11 _ _ ht10),hl11.kp (Kp.same s12),h',s9.trans s912⟩
          cases eo:endF true (ns.take i) with
          | none=>
            rw [eo] at hqm itm_ hm12 em
            refine ⟨qm,qt,_,_,_,_,rfl,rfl,hqm,hqt',itm_,itt,true,congrArg V.bl eq_nn,iteT (iteT ⟨_,rfl,fin _ ?_⟩)⟩
            rw [em]
            exact ⟨qn,rfl,hqn12⟩
          | some n0=>
            rw [eo] at hqm itm_ hm12 em
            obtain ⟨lo0,w1,w2⟩:=okn n0 (okE true n0 eo)
            have zt0:Sz 4000 n0.1:=(sz30n w1).mono (by decide)
            have zb0:Sz 4000 n0.2:=(sz30n w2).mono (by decide)
            obtain ⟨_,e1,hqm'⟩:=id hm12
            cases e1
            have hqm2:H12 qm=some (.tup [vS "number",.int n0.1,.int n0.2]):=hqm'
            refine ⟨qm,qt,_,_,_,_,rfl,rfl,hqm,hqt',itm_,itt,false,congrArg V.bl eq_num,iteF ?_⟩
            refine ⟨_,rfl,qm,_,_,_,rfl,rfl,SqT.of hqm2,rfl,_,rfl,qn,_,_,_,rfl,rfl,SqT.of hqn12,rfl,_,_,rfl,rfl,⟨zt0,zb⟩,_,rfl,qn,_,_,_,rfl,rfl,SqT.of hqn12,rfl,_,rfl,qm,_,_,_,rfl,rfl,SqT.of hqm2,rfl,_,_,rfl,rfl,⟨zt,zb0⟩,_,_,rfl,rfl,less2 n0 n,rfl,ite2 (fun c=>?_) (fun c=>?_)⟩
            · refine ⟨_,rfl,fin _ ?_⟩
              rw [em,stepE_y (by simpa using c)]
              exact ⟨qn,rfl,hqn12⟩
            · refine fin _ ?_
              rw [em,stepE_n (by simpa using c)]
              exact hm12
      · rintro σ H9 ⟨x4,q,ul,um,rfl,ht9,hl9,hm9,s9⟩
        rw [lus,List.take_length] at ht9 hl9 hm9
        obtain ⟨fp,_⟩:=tot_sz (i:=ns.length) nok (Nat.le_refl _)
        rw [List.take_length] at fp
        have lowp:=(low_low (t:=(fsl ns).1) (b:=(fsl ns).2) (by omega)).pos
        have s09:=s5.trans s9
        have hn9:=s9 _ _ hn5
        dsimp only
        refine seq_cut (fun σ H10=>∃ qx,σ=[some (.ref l),some y,some (.ref ln),x3,x4,some (.ref qx),some ul,some um]∧VvAt H10 (.ref qx) (sumN ns hm)∧Same H9 H10) (fun N hN=>?_) ?_
        · refine ⟨_,rfl,q,_,_,_,rfl,rfl,SqT.of ht9,rfl,_,rfl,_,_,rfl,rfl,⟨by decide,by decide,by decide⟩,_,_,rfl,rfl,_,rfl,?_⟩
          rw [p30,few_abs]
          have numE:∀ b1 b2,few (lowT (fsl ns).1 (fsl ns).2)=b1→few (lowB (fsl ns).1 (fsl ns).2)=b2→sumN ns hm=if (b1&&b2)=true then .num (lowT (fsl ns).1 (fsl ns).2) (lowB (fsl ns).1 (fsl ns).2) else fltK "great" hm:=fun b1 b2 h1 h2=>by
            unfold sumN numV
            rw [h1,h2]
          have hy9:=hy.kp (Kp.same s09)
          cases e1:few (lowT (fsl ns).1 (fsl ns).2) with
          | false=>
            refine iteT (iteT ⟨_,rfl,three_le,fun r hr'=>?_⟩)
            refine hN _ _ ⟨r,rfl,?_,Same.new hr'⟩
            rw [numE _ _ e1 rfl]
            exact hy9.flt hr'
          | true=>
            refine iteF ⟨_,rfl,q,_,_,_,rfl,rfl,SqT.of ht9,rfl,_,_,rfl,rfl,⟨by decide,by decide,by decide⟩,_,_,rfl,rfl,_,rfl,?_⟩
            rw [p30,few_pos lowp]
            cases e2:few (lowB (fsl ns).1 (fsl ns).2) with
            | false=>
              refine iteT ⟨_,rfl,three_le,fun r hr'=>?_⟩
              refine hN _ _ ⟨r,rfl,?_,Same.new hr'⟩
              rw [numE _ _ e1 e2]
              exact hy9.flt hr'
            | true=>
              refine iteF (hN _ _ ⟨q,rfl,?_,Same.refl _⟩)
              rw [numE _ _ e1 e2]
              exact ⟨q,rfl,ht9⟩
        · rintro σ H10 ⟨qx,rfl,hx10,s10⟩
          refine ⟨_,rfl,_,rfl,ln,us,rfl,.inl (SqL.of (s10 _ _ hn9)),three_le,fun qc hqc=>?_⟩
          have s11:=Same.new (o:=.tup [vS "number",.int us.length,.int 1]) hqc
          have hc11:VvAt (upd H10 qc (.tup [vS "number",.int us.length,.int 1])) (.ref qc) (.num (ns.length:Int) 1):=⟨qc,rfl,by rw [← lus];exact upd_same⟩
          generalize upd H10 qc (.tup [vS "number",.int us.length,.int 1])=H11 at *
          refine ⟨_,rfl,_,rfl,(by show 4≤sizeLine;decide),fun lr hlr=>?_⟩
          have s12:=Same.new (o:=.lst [.ref qx,.ref qc,ul,um]) hlr
          have kk:=Kp.same s12
          have k912:=Kp.same ((s10.trans s11).trans s12)
          refine k lr _ _ upd_same ?_ (((s09.trans s10).trans s11).trans s12)
          unfold due4
          rw [fltO_n fn5,fltO_n fn5,fltO_n fn5,fltO_n fn5,← hns]
          exact .cons (hx10.kp (Kp.same (s11.trans s12))) (.cons (hc11.kp kk) (.cons (hl9.kp k912) (.cons (hm9.kp k912) .nil)))
theorem sclaw:FnScope ["_law_script","_law_pen_here","_law_turn","_law_known","_law_most","_law_table","_law_way","_law_barred","_law_home","_law_leaf","_law_dues_here","_law_word","_law_due","_law_told","_law_handed","_law_found"] ["_law_script"] (defScope s_law):=⟨rfl,rfl,rfl,by decide +kernel,rfl,by decide +kernel,by decide +kernel⟩
theorem ok_law (T:Txt w K mg t)(hC:∀ q∈[(t.c_reckoned,t.P_reckoned),(t.c_law,t.P_law)],PySem.W.CodeHd base q.1 q.2)(hB:BM mg base):FnOk P w K mg base CX0 14 t.f_law t.d_law ["_law_script"] (spLawT K t.P_reckoned t.P_law):=by
  have D:=T.c_law
  refine D.fn.okC sclaw (fun vs H Q E h=>?_) (fun cdv A outer s H vs Q E hcd hr h=>?_)
  · obtain ⟨a,ns,rfl,_⟩:=h
    rfl
  · obtain ⟨a,ns,rfl,hS,h63,hP1,hP2,k⟩:=h
    have hu:=hr.units0
    have hu1:=hu_of hr
    have hCL:=hC (t.c_law,t.P_law) (by simp)
    have hCR:=hC (t.c_reckoned,t.P_reckoned) (by simp)
    refine ⟨_,((pss_cons (ps_set (i:=1) sclaw.nd rfl (Or.inl rfl) (pe_cl T.c__law_pen (ok__law_pen T) (hr.mono (by decide)) (pa_consN (pv 0) pa_nil)))
      (pss_cons (ps_for PassesOwn.never rfl (pi_range1 rfl T.range (pa_consK pe_int pa_nil)) (pg_name (i:=2) sclaw.nd rfl (Or.inl rfl))
      (pss_cons (ps_set (i:=3) sclaw.nd rfl (Or.inr rfl) pe_dnewT)
      (pss_cons (ps_set (i:=4) sclaw.nd rfl (Or.inl rfl) (pe_ix ix_list (pe_lst (pa_consL (pe_lst (pa_consK pe_int (pa_consK pe_int pa_nil))) (pa_consL (pe_lst (pa_consK pe_int (pa_consK pe_int pa_nil))) (pa_consL (pe_lst (pa_consK pe_int (pa_consK pe_int pa_nil))) (pa_consL (pe_lst (pa_consK pe_int (pa_consK pe_int pa_nil))) pa_nil))))) (pe_cl T.c__law_take (ok__law_take T) (hr.mono (by decide)) (pa_consN (pv 1) (pa_consK pe_int pa_nil))) (fun _ _=>rfl)))
      (pss_cons (ps_set (i:=5) sclaw.nd rfl (Or.inl rfl) (pe_cl T.c__law_drawn_table (ok__law_drawn_table T) (hr.mono (by decide)) (pa_consN (pv 1) (pa_consB (pe_op op_add pe_int (pe_cl T.c__law_take (ok__law_take T) (hr.mono (by decide)) (pa_consN (pv 1) (pa_consS (pe_ix ix_list (pv 4) pe_int (fun _ _=>rfl)) pa_nil)))) (pa_consB (pe_op op_add pe_int (pe_cl T.c__law_take (ok__law_take T) (hr.mono (by decide)) (pa_consN (pv 1) (pa_consS (pe_ix ix_list (pv 4) pe_int (fun _ _=>rfl)) pa_nil)))) pa_nil)))))
      (pss_cons (ps_if (pt_cmpR op_gt (pe_ix ix_list (pv 4) pe_int (fun _ _=>rfl)) pe_int (nomark _)) (pss_one (ps_setC (i:=5) sclaw.nd rfl rfl (fv:=[]) (js:=[]) (cl:=[]) rfl (by with_unfolding_all rfl) ⟨rfl,by decide +kernel,by decide +kernel,rfl,by decide +kernel,by decide +kernel,(List.forall_mem_nil _),(List.forall_mem_nil _),.nil⟩ (pi_list (pv 5)) (fun _ _ _ _ _=>pf_nil) (fun _ _ _ _ _=>(by exact (pe_comp (fv:=[]) (js:=[]) (cl:=[]) rfl (by with_unfolding_all rfl) ⟨rfl,by decide +kernel,by decide +kernel,rfl,by decide +kernel,by decide +kernel,(List.forall_mem_nil _),(List.forall_mem_nil _),.nil⟩ (by exact (pi_listc (pv 0))) (fun _ _ _ _ _=>pf_nil) (fun _ _ _ _ _=>(by exact (pe_cl T.c__law_lessened (ok__law_lessened T) (hr.mono (by decide)) (pa_consN (pv 0) pa_nil))))))))) pss_nil)
      (pss_cons (ps_set (i:=6) sclaw.nd rfl (Or.inl rfl) (pe_cl T.c__law_take (ok__law_take T) (hr.mono (by decide)) (pa_consN (pv 1) (pa_consK pe_int pa_nil))))
      (pss_cons (ps_set (i:=7) sclaw.nd rfl (Or.inr rfl) (pe_ix ix_list (pe_lst (pa_consL (pe_lst pa_nil) (pa_consL (pe_lst (pa_consK pe_str pa_nil)) (pa_consL (pe_lst (pa_consK pe_str pa_nil)) (pa_consL (pe_lst (pa_consK pe_str (pa_consK pe_str pa_nil))) pa_nil))))) (pv 6) (fun _ _=>rfl)))
      (pss_cons (ps_setC (i:=5) sclaw.nd rfl rfl (fv:=["_law_barred"]) (js:=[7]) (cl:=[("_law_barred",s.heap.objs.size+1)]) rfl (by with_unfolding_all rfl) ⟨rfl,by decide +kernel,by decide +kernel,rfl,by decide +kernel,by decide +kernel,(List.forall_mem_cons.mpr ⟨⟨rfl,rfl,rfl⟩,(List.forall_mem_nil _)⟩),(List.forall_mem_cons.mpr ⟨rfl,(List.forall_mem_nil _)⟩),(.cons rfl .nil)⟩ (pi_list (pv 5)) (fun _ _ _ _ _=>pf_nil) (fun _ _ _ _ _=>(by exact (pe_comp (fv:=["_law_barred"]) (js:=[1]) (cl:=[("_law_barred",s.heap.objs.size+1)]) rfl (by with_unfolding_all rfl) ⟨rfl,by decide +kernel,by decide +kernel,rfl,by decide +kernel,by decide +kernel,(List.forall_mem_cons.mpr ⟨⟨rfl,rfl,rfl⟩,(List.forall_mem_nil _)⟩),(List.forall_mem_cons.mpr ⟨rfl,(List.forall_mem_nil _)⟩),(.cons rfl .nil)⟩ (by exact (pi_listc (pv 0))) (fun _ _ _ _ _=>pf_nil) (fun _ _ _ _ _=>(by exact (pe_ix ixcc_list (pe_lst (pa_consN (pv 0) (pa_consT (pe_tup (pa_consK pe_str pa_nil)) pa_nil))) (pe_callTy call_int1 (by rfl) T.int boot_int (pa_consM (pe_cmpR op_incc (pe_ix ixcc_tup (pv 0) pe_int (fun _ _=>rfl)) (pv 1) rfl) pa_nil)) (fun _ _=>rfl))))))))
      (pss_cons (ps_set (i:=8) sclaw.nd rfl (Or.inl rfl) (pe_cl T.c__law_drawn_cell (ok__law_drawn_cell T) (hr.mono (by decide)) (pa_consN (pv 1) pa_nil)))
      (pss_cons (ps_set (i:=9) sclaw.nd rfl (Or.inl rfl) (pe_cl T.c__law_put_down (ok__law_put_down T) (hr.mono (by decide)) (pa_consN (pv 1) (pa_consN (pv 3) (pa_consK pe_str (pa_consN (pv 5) pa_nil))))))
      (pss_cons (ps_set (i:=10) sclaw.nd rfl (Or.inl rfl) (pe_cl T.c__law_dues (ok__law_dues T) (hr.mono (by decide)) (pa_consN (pv 5) (pa_consN (pv 8) pa_nil))))
      (pss_cons (ps_for PassesOwn.never rfl (pi_zipl rfl T.zip bt_zip (pa_consL (pe_lst (pa_consK pe_str (pa_consK pe_str (pa_consK pe_str (pa_consK pe_str pa_nil))))) (pa_consN (pv 10) pa_nil))) (pg_tup rfl (pgs_cons (pg_name (i:=11) sclaw.nd rfl (Or.inl rfl)) (pgs_cons (pg_name (i:=12) sclaw.nd rfl (Or.inl rfl)) pgs_nil)))
      (pss_cons (ps_set (i:=13) sclaw.nd rfl (Or.inl rfl) (pe_callL (k:=12) (hr.mono (by decide)) (by rfl) T.c_reckoned.gl T.c_reckoned.fn.kp T.c_reckoned.b (pa_consT (pe_tup (pa_consN (pv 11) (pa_consN (pv 9) pa_nil))) (pa_consN (pv 8) (pa_consZ (pe_lam (clos:=[("_law_known",s.heap.objs.size+2)]) rfl (by with_unfolding_all rfl) (hcd.symm.trans T.kc_law) hCL hB) (pa_consZ (pe_lam (clos:=[]) rfl (by with_unfolding_all rfl) (hcd.symm.trans T.kc_law) hCL hB) pa_nil))))))
      (pss_one (ps_if (pt_not (pt_val (pe_cl T.c__law_typed_alike (ok__law_typed_alike T 4) (hr.mono (by omega)) (pa_consN (pv 13) (pa_consT (pe_tup (pa_consT (pe_tup (pa_consN (pv 12) pa_nil)) pa_nil)) pa_nil))))) (pss_one (ps_ret pe_bl)) pss_nil))))
      (pss_cons (ps_set (i:=14) sclaw.nd rfl (Or.inl rfl) (pe_cl T.c__law_tabled (ok__law_tabled T) (hr.mono (by decide)) (pa_consN (pv 5) pa_nil)))
      (pss_cons (ps_set (i:=15) sclaw.nd rfl (Or.inl rfl) (pe_lst (pa_consC (pe_cl T.c_summed_up (ok_summed_up T) (hr.mono (by decide)) (pa_consN (pv 14) (pa_consN (pv 8) pa_nil))) (pa_consC (pe_cl T.c_counted_up (ok_counted_up T) (hr.mono (by decide)) (pa_consN (pv 14) pa_nil)) (pa_consC (pe_cl T.c_ends_of (ok_ends_of T) (hr.mono (by decide)) (pa_consN (pv 14) (pa_consK pe_bl pa_nil))) (pa_consC (pe_cl T.c_ends_of (ok_ends_of T) (hr.mono (by decide)) (pa_consN (pv 14) (pa_consK pe_bl pa_nil))) pa_nil))))))
      (pss_one (ps_if (pt_not (pt_val (pe_cl T.c__law_typed_alike (ok__law_typed_alike T 3) (hr.mono (by omega)) (pa_consC (pe_callTy call_tuple_of (by rfl) T.tuple boot_tuple (pa_consN (pv 15) pa_nil)) (pa_consC (pe_callTy call_tuple_of (by rfl) T.tuple boot_tuple (pa_consN (pv 10) pa_nil)) pa_nil))))) (pss_one (ps_ret pe_bl)) pss_nil))))))))))))))))
      (pss_one (ps_ret pe_bl))))),?_⟩
    refine ⟨_,rfl,a,ns,rfl,hS,h63,fun p H1 hp0 pen1 s1=>?_⟩
    have ev1:Env8 K (a,ns) t.P_reckoned t.P_law H1 p 0:=⟨pen1,TabAt.nil (s1 _ _ hP1),TabAt.nil (s1 _ _ hP2)⟩
    refine ⟨_,rfl,(by decide),(by decide),?_⟩
    refine for_range (fun i σ H2=>∃ x2 x3 x4 x5 x6 x7 x8 x9 x10 x11 x12 x13 x14 x15,σ=[some (.ref a),some (.ref p),x2,x3,x4,x5,x6,x7,x8,x9,x10,x11,x12,x13,x14,x15]∧Env8 K (a,ns) t.P_reckoned t.P_law H2 p (i*3000))
      ⟨_,_,_,_,_,_,_,_,_,_,_,_,_,_,rfl,ev1⟩ ?_ ?_
    · rintro i σ H2 hi ⟨x2,x3,x4,x5,x6,x7,x8,x9,x10,x11,x12,x13,x14,x15,rfl,ev2⟩
      have hi5:i<5:=hi
      refine fun kn hkn=>?_
      have ev3:=ev2.same (Same.new (o:=.dT []) hkn)
      have hkn3:upd H2 kn (.dT []) kn=some (.dT []):=upd_same
      generalize upd H2 kn (.dT [])=H3 at *
      have nkp:kn≠p:=by obtain ⟨_,eo⟩:=ev3.pen.ob;exact ne_of hkn3 eo (by intro z;cases z)
      refine ⟨(by show 2≤sizeLine;decide),fun m1 hm1=>?_⟩
      have gm1:=Same.new (o:=.lst [.int 4,.int 4]) hm1
      have em1:upd H3 m1 (.lst [.int 4,.int 4]) m1=some (.lst [.int 4,.int 4]):=upd_same
      generalize upd H3 m1 (.lst [.int 4,.int 4])=H31 at *
      refine ⟨(by show 2≤sizeLine;decide),fun m2 hm2=>?_⟩
      have gm2:=Same.new (o:=.lst [.int 4,.int 4]) hm2
      have em2:upd H31 m2 (.lst [.int 4,.int 4]) m2=some (.lst [.int 4,.int 4]):=upd_same
      generalize upd H31 m2 (.lst [.int 4,.int 4])=H32 at *
      refine ⟨(by show 2≤sizeLine;decide),fun m3 hm3=>?_⟩
      have gm3:=Same.new (o:=.lst [.int 4,.int 4]) hm3
      have em3:upd H32 m3 (.lst [.int 4,.int 4]) m3=some (.lst [.int 4,.int 4]):=upd_same
      generalize upd H32 m3 (.lst [.int 4,.int 4])=H33 at *
      refine ⟨(by show 2≤sizeLine;decide),fun m4 hm4=>?_⟩
      have gm4:=Same.new (o:=.lst [.int 16,.int 8]) hm4
      have em4:upd H33 m4 (.lst [.int 16,.int 8]) m4=some (.lst [.int 16,.int 8]):=upd_same
      generalize upd H33 m4 (.lst [.int 16,.int 8])=H34 at *
      refine ⟨(by show 4≤sizeLine;decide),fun mo hmo=>?_⟩
      have gmo:=Same.new (o:=.lst [.ref m1,.ref m2,.ref m3,.ref m4]) hmo
      have emo:upd H34 mo (.lst [.ref m1,.ref m2,.ref m3,.ref m4]) mo=some (.lst [.ref m1,.ref m2,.ref m3,.ref m4]):=upd_same
      generalize upd H34 mo (.lst [.ref m1,.ref m2,.ref m3,.ref m4])=H35 at *
      have n1:=ev3.pen.ne hm1
      have n2:=(ev3.pen.same gm1).ne hm2
      have n3:=(ev3.pen.same (gm1.trans gm2)).ne hm3
      have n4:=(ev3.pen.same ((gm1.trans gm2).trans gm3)).ne hm4
      have no:=(ev3.pen.same (((gm1.trans gm2).trans gm3).trans gm4)).ne hmo
      have g35:=(((gm1.trans gm2).trans gm3).trans gm4).trans gmo
      have ev35:=ev3.same g35
      have f1:=gmo _ _ (gm4 _ _ (gm3 _ _ (gm2 _ _ em1)))
      have f2:=gmo _ _ (gm4 _ _ (gm3 _ _ em2))
      have f3:=gmo _ _ (gm4 _ _ em3)
      have f4:=gmo _ _ em4
      refine ⟨_,rfl,p,_,_,_,rfl,(by show (0:Int)<_;decide),sz4000 (by decide) (by decide),ev35.pen,(by omega),fun r4 H4 a4 b4 pen4 kp4=>?_⟩
      obtain ⟨lm,am,bm,hat,hlm,nlm,hab⟩:∃ (lm:Addr) (am bm:Nat),atI [V.ref m1,V.ref m2,V.ref m3,V.ref m4] r4=some (.ref lm)∧H4 lm=some (.lst [.int am,.int bm])∧lm≠p∧((am=4∧bm=4)∨(am=16∧bm=8)):=by
        have:r4=0∨r4=1∨r4=2∨r4=3:=by omega
        rcases this with rfl | rfl | rfl | rfl
        · exact ⟨m1,4,4,rfl,kp4 _ _ n1 f1,n1,.inl ⟨rfl,rfl⟩⟩
        · exact ⟨m2,4,4,rfl,kp4 _ _ n2 f2,n2,.inl ⟨rfl,rfl⟩⟩
        · exact ⟨m3,4,4,rfl,kp4 _ _ n3 f3,n3,.inl ⟨rfl,rfl⟩⟩
        · exact ⟨m4,16,8,rfl,kp4 _ _ n4 f4,n4,.inr ⟨rfl,rfl⟩⟩
      have ev4:=ev35.kx pen4 kp4
      have hkn4:=kp4 _ _ nkp (g35 _ _ hkn3)
      refine ⟨mo,_,_,_,rfl,rfl,SqL.of (kp4 _ _ no emo),hat,?_⟩
      refine ⟨_,rfl,_,rfl,_,rfl,lm,_,_,_,rfl,rfl,SqL.of hlm,rfl,p,_,_,_,rfl,(by omega),sz4000 (by omega) (by omega),ev4.pen,(by omega),fun r5 H5 a5 b5 pen5 kp5=>?_⟩
      obtain ⟨h_,eh⟩:∃ h_:Nat,(1+r5:Int)=h_:=⟨(1+r5).toNat,by omega⟩
      have hlm5:=kp5 _ _ nlm hlm
      refine ⟨_,_,rfl,rfl,_,rfl,_,rfl,lm,_,_,_,rfl,rfl,SqL.of hlm5,rfl,p,_,_,_,rfl,(by omega),sz4000 (by omega) (by omega),pen5,(by omega),fun r6 H6 a6 b6 pen6 kp6=>?_⟩
      obtain ⟨w_,ew⟩:∃ w_:Nat,(1+r6:Int)=w_:=⟨(1+r6).toNat,by omega⟩
      refine ⟨_,_,rfl,rfl,p,h_,w_,_,_,(show [V.ref p,V.int (1+r5),V.int (1+r6)]=[V.ref p,V.int h_,V.int w_] by rw [eh,ew]),(by omega),(by omega),(by omega),(by omega),pen6,(by omega),fun l0 bs0 rows0 m0 H7 hl70 hb70 lt7 ml7 ok7 pen7 kp7=>?_⟩
      have tt0:TT H7 p l0 bs0 rows0 m0 h_ w_:=TT.of lt7 ml7 ok7 (by omega) (by omega) (by omega) (by omega)
      have kpA:=(kp5.trans kp6).trans kp7
      have ev7:Env8 K (a,ns) t.P_reckoned t.P_law H7 p (i*3000+1210):=(ev4.kx pen7 kpA).mono (by omega)
      have hkn7:=kpA _ _ nkp hkn4
      have hlm7:=kpA _ _ nlm hlm
      have h1:=tt0.d.h1;have h16:=tt0.d.h16;have w1:=tt0.d.w1;have w8:=tt0.d.w8
      refine ⟨_,rfl,lm,_,_,_,rfl,rfl,SqL.of hlm7,rfl,_,_,rfl,rfl,_,rfl,?_⟩
      refine iteJ (fun σ H=>∃ l bs rows m β,σ=[some (.ref a),some (.ref p),some (.int (0+(i:Int))),some (.ref kn),some (.ref lm),some (.ref l),x6,x7,x8,x9,x10,x11,x12,x13,x14,x15]∧Env8 K (a,ns) t.P_reckoned t.P_law H p (i*3000+1210)∧H kn=some (.dT [])∧TT H p l bs rows m h_ w_∧(∀ r∈m,∀ v∈r,SmV β v)∧β*(h_*w_)+β≤3000) (fun c=>?_) (fun c rest=>?_) ?_
      · have hc:¬ ((am:Int)>4):=by simpa using c
        have ha4:am=4∧bm=4:=by omega
        have hhw:h_*w_≤4*4:=Nat.mul_le_mul (by omega) (by omega)
        exact ⟨l0,bs0,rows0,m0,100,rfl,ev7,hkn7,tt0,fun r hr v hv=>smv100 ((ok7 r hr).2 v hv),by omega⟩
      · have hhw:h_*w_≤16*8:=Nat.mul_le_mul h16 w8
        have bl_b:bs0.length=h_:=(Paired.length tt0.d.ls).trans tt0.d.len
        refine ⟨_,rfl,l0,rfl,⟨_,SqL.of tt0.d.ob⟩,fun D_b hD_b=>?_⟩
        refine ⟨fun j mm H=>mm=h_-j∧j≤h_∧∃ bs rows,RD H7 H D_b bs rows (tabC (fun j k=>lessM (cy .none m0 j k)) j w_),⟨h_,rfl,Nat.zero_le _,[],[],RD.nil hD_b⟩,?_⟩
        rintro j mm HJ_b ⟨rfl,hj,bs_b,rows_b,rd_b⟩
        have tj_b:=tt0.same rd_b.s
        by_cases hlt:j<h_
        · obtain ⟨b_,r_,hb_,hbr_,lr_,_,_⟩:=tj_b.at j 0
          rw [Nat.mod_eq_of_lt hlt] at hb_
          have hx:(bs0.map V.ref)[j]?=some (.ref b_):=by rw [List.getElem?_map,hb_];rfl
          refine .inr ⟨⟨_,_,SqL.of tj_b.d.ob,hx⟩,fun x' H' y=>?_⟩
          obtain ⟨e4,y⟩:=y
          subst e4
          have hx':=y _ (SqL.of tj_b.d.ob)
          rw [hx] at hx'
          cases hx'
          refine ⟨_,rfl,b_,rfl,⟨_,SqL.of hbr_⟩,fun D2 hD2=>?_⟩
          obtain ⟨n1,n2,n3⟩:=rd_b.new hD2
          refine ⟨fun k mm H=>mm=w_-k∧k≤w_∧RD H7 H D_b bs_b rows_b (tabC (fun j k=>lessM (cy .none m0 j k)) j w_)∧∃ us,H D2=some (.lst us)∧VsAt H us ((List.range k).map fun k=>lessM (cy .none m0 j k))∧Same H' H,⟨w_,rfl,Nat.zero_le _,rd_b.same (Same.new hD2),[],upd_same,.nil,Same.new hD2⟩,?_⟩
          rintro k' mm H52 ⟨rfl,hk',rd52,us,hD52,vs52,s52⟩
          have ul:us.length=k':=(Paired.length vs52).trans (by rw [List.length_map,List.length_range])
          have hbr52:=s52 _ _ hbr_
          by_cases hlt2:k'<w_
          · obtain ⟨b2,r2,hb2,hbr2,lr2,hr2,hv2⟩:=(tj_b.same s52).at j k'
            rw [Nat.mod_eq_of_lt hlt,hb_] at hb2
            cases hb2
            rw [hbr52] at hbr2
            cases hbr2
            rw [Nat.mod_eq_of_lt hlt2] at hr2
            refine .inr ⟨⟨_,_,SqL.of hbr52,hr2⟩,fun x' H3 y=>?_⟩
            obtain ⟨e4,y⟩:=y
            subst e4
            have hx':=y _ (SqL.of hbr52)
            rw [hr2] at hx'
            cases hx'
            refine ⟨_,rfl,_,_,rfl,hv2,fun zn H54 hz54 s54=>?_⟩
            have hD54:=s54 _ _ hD52
            have kd:=kp_upd (vs:=us++[zn]) hD54
            refine ⟨us,hD54,sl_lt (by omega),w_-(k'+1),(by omega),rfl,hlt2,(rd52.same s54).st n1 n2 n3 hD54,us++[zn],upd_same,?_,fun b o e=>by rw [upd_ne (ne_of_none e hD2)];exact s54 _ _ (s52 _ _ e)⟩
            rw [List.range_succ,List.map_append]
            exact psnoc (VsAt.kp vs52 ((Kp.same s54).trans kd)) (hz54.kp kd)
          · have ek:w_=k':=by omega
            subst ek
            have hln:=rd52.len.1
            rw [tabC_len] at hln
            refine .inl ⟨⟨_,SqL.of hbr52,by rw [lr_];exact Nat.le_refl _⟩,_,rd52.b.ob,sl_lt (by rw [List.length_map];omega),h_-(j+1),(by omega),rfl,hlt,bs_b++[D2],rows_b++[us],?_⟩
            rw [tabC_succ]
            exact rd52.push n1 n3 hD52 vs52
        have ej_b:h_=j:=by omega
        subst ej_b
        refine .inl ⟨⟨_,SqL.of tj_b.d.ob,by rw [List.length_map,bl_b];exact Nat.le_refl _⟩,?_⟩
        have okL:∀ jj kk,VlOk (cy .none m0 jj kk):=fun jj kk=>cy_ok tt0.rect (fun r hr=>(tt0.ok r hr).2) jj kk
        refine rest _ _ ⟨D_b,bs_b,rows_b,_,7,rfl,ev7.same rd_b.s,rd_b.s _ _ hkn7,TT.rd rd_b ev7.pen h1 h16 w1 w8 (fun jj kk=>(lessM_ok (okL jj kk)).1),fun r hr v hv=>?_,by omega⟩
        unfold tabC at hr
        obtain ⟨jj,_,rfl⟩:=List.mem_map.mp hr
        obtain ⟨kk,_,rfl⟩:=List.mem_map.mp hv
        exact lessM_ok (okL jj kk)
      rintro σ H11 ⟨l11,bs11,rows11,m11,β,rfl,ev11,hkn11,tt11,sm11,hβ⟩
      refine ⟨_,rfl,p,_,_,_,rfl,(by show (0:Int)<_;decide),sz4000 (by decide) (by decide),ev11.pen,(by omega),fun r12 H12 a12 b12 pen12 kp12=>?_⟩
      have ev12:=ev11.kx pen12 kp12
      have hkn12:=kp12 _ _ nkp hkn11
      have tt12:=tt11.kx kp12 (ev11.pen.kp kp12)
      refine ⟨Nat.zero_le _,fun z1 hz1=>?_⟩
      have gz1:=Same.new (o:=.lst []) hz1
      have ez1:upd H12 z1 (.lst []) z1=some (.lst []):=upd_same
      generalize upd H12 z1 (.lst [])=H121 at *
      refine ⟨(by show 1≤sizeLine;decide),fun z2 hz2=>?_⟩
      have gz2:=Same.new (o:=.lst [vS "fault"]) hz2
      have ez2:upd H121 z2 (.lst [vS "fault"]) z2=some (.lst [vS "fault"]):=upd_same
      generalize upd H121 z2 (.lst [vS "fault"])=H122 at *
      refine ⟨(by show 1≤sizeLine;decide),fun z3 hz3=>?_⟩
      have gz3:=Same.new (o:=.lst [vS "fault"]) hz3
      have ez3:upd H122 z3 (.lst [vS "fault"]) z3=some (.lst [vS "fault"]):=upd_same
      generalize upd H122 z3 (.lst [vS "fault"])=H123 at *
      refine ⟨(by show 2≤sizeLine;decide),fun z4 hz4=>?_⟩
      have gz4:=Same.new (o:=.lst [vS "fault",vS "number"]) hz4
      have ez4:upd H123 z4 (.lst [vS "fault",vS "number"]) z4=some (.lst [vS "fault",vS "number"]):=upd_same
      generalize upd H123 z4 (.lst [vS "fault",vS "number"])=H124 at *
      refine ⟨(by show 4≤sizeLine;decide),fun zo hzo=>?_⟩
      have gzo:=Same.new (o:=.lst [.ref z1,.ref z2,.ref z3,.ref z4]) hzo
      have ezo:upd H124 zo (.lst [.ref z1,.ref z2,.ref z3,.ref z4]) zo=some (.lst [.ref z1,.ref z2,.ref z3,.ref z4]):=upd_same
      generalize upd H124 zo (.lst [.ref z1,.ref z2,.ref z3,.ref z4])=H13 at *
      have g13:=(((gz1.trans gz2).trans gz3).trans gz4).trans gzo
      have ev13:=ev12.same g13
      have hkn13:=g13 _ _ hkn12
      have tt13:=tt12.same g13
      have j1:=gzo _ _ (gz4 _ _ (gz3 _ _ (gz2 _ _ ez1)))
      have j2:=gzo _ _ (gz4 _ _ (gz3 _ _ ez2))
      have j3:=gzo _ _ (gz4 _ _ ez3)
      have j4:=gzo _ _ ez4
      obtain ⟨lb,zs,hatb,hlb,hzf⟩:∃ (lb:Addr) (zs:List V),atI [V.ref z1,V.ref z2,V.ref z3,V.ref z4] r12=some (.ref lb)∧H13 lb=some (.lst zs)∧zs.all flatV=true:=by
        have:r12=0∨r12=1∨r12=2∨r12=3:=by omega
        rcases this with rfl | rfl | rfl | rfl
        · exact ⟨z1,_,rfl,j1,rfl⟩
        · exact ⟨z2,_,rfl,j2,rfl⟩
        · exact ⟨z3,_,rfl,j3,rfl⟩
        · exact ⟨z4,_,rfl,j4,rfl⟩
      refine ⟨_,rfl,zo,_,_,_,rfl,rfl,SqL.of ezo,hatb,?_⟩
      have bl_c:bs11.length=h_:=(Paired.length tt13.d.ls).trans tt13.d.len
      refine ⟨_,rfl,l11,rfl,⟨_,SqL.of tt13.d.ob⟩,fun D_c hD_c=>?_⟩
      refine ⟨fun j mm H=>mm=h_-j∧j≤h_∧∃ bs rows,RD H13 H D_c bs rows (tabC (fun j k=>brM zs (cy .none m11 j k)) j w_),⟨h_,rfl,Nat.zero_le _,[],[],RD.nil hD_c⟩,?_⟩
      rintro j mm HJ_c ⟨rfl,hj,bs_c,rows_c,rd_c⟩
      have tj_c:=tt13.same rd_c.s
      by_cases hlt:j<h_
      · obtain ⟨b_,r_,hb_,hbr_,lr_,_,_⟩:=tj_c.at j 0
        rw [Nat.mod_eq_of_lt hlt] at hb_
        have hx:(bs11.map V.ref)[j]?=some (.ref b_):=by rw [List.getElem?_map,hb_];rfl
        refine .inr ⟨⟨_,_,SqL.of tj_c.d.ob,hx⟩,fun x' H' y=>?_⟩
        obtain ⟨e4,y⟩:=y
        subst e4
        have hx':=y _ (SqL.of tj_c.d.ob)
        rw [hx] at hx'
        cases hx'
        refine ⟨_,rfl,b_,rfl,⟨_,SqL.of hbr_⟩,fun D2 hD2=>?_⟩
        obtain ⟨n1,n2,n3⟩:=rd_c.new hD2
        refine ⟨fun k mm H=>mm=w_-k∧k≤w_∧RD H13 H D_c bs_c rows_c (tabC (fun j k=>brM zs (cy .none m11 j k)) j w_)∧∃ us,H D2=some (.lst us)∧VsAt H us ((List.range k).map fun k=>brM zs (cy .none m11 j k))∧Same H' H,⟨w_,rfl,Nat.zero_le _,rd_c.same (Same.new hD2),[],upd_same,.nil,Same.new hD2⟩,?_⟩
        rintro k' mm H52 ⟨rfl,hk',rd52,us,hD52,vs52,s52⟩
        have ul:us.length=k':=(Paired.length vs52).trans (by rw [List.length_map,List.length_range])
        have hbr52:=s52 _ _ hbr_
        by_cases hlt2:k'<w_
        · obtain ⟨b2,r2,hb2,hbr2,lr2,hr2,hv2⟩:=(tj_c.same s52).at j k'
          rw [Nat.mod_eq_of_lt hlt,hb_] at hb2
          cases hb2
          rw [hbr52] at hbr2
          cases hbr2
          rw [Nat.mod_eq_of_lt hlt2] at hr2
          refine .inr ⟨⟨_,_,SqL.of hbr52,hr2⟩,fun x' H3 y=>?_⟩
          obtain ⟨e4,y⟩:=y
          subst e4
          have hx':=y _ (SqL.of hbr52)
          rw [hr2] at hx'
          cases hx'
          obtain ⟨qv,xv_,hqe,hqv,_⟩:=hv2.hd
          generalize cy .non rows11 j k'=ux at *
          subst hqe
          refine ⟨_,rfl,(by show 1≤sizeLine;decide),fun qn hqn=>⟨two_le,fun lx hlx=>?_⟩⟩
          have g1:=Same.new (o:=.tup [vS "none"]) hqn
          have g2:=Same.new (o:=.lst [V.ref qv,V.ref qn]) hlx
          have hn53:VvAt (upd (upd H3 qn (.tup [vS "none"])) lx (.lst [V.ref qv,V.ref qn])) (.ref qn) .none:=⟨qn,rfl,g2 _ _ upd_same⟩
          have hx53:upd (upd H3 qn (.tup [vS "none"])) lx (.lst [V.ref qv,V.ref qn]) lx=some (.lst [V.ref qv,V.ref qn]):=upd_same
          have s54:=g1.trans g2
          generalize upd (upd H3 qn (.tup [vS "none"])) lx (.lst [V.ref qv,V.ref qn])=H54 at *
          have hb54:=(rd_c.s.trans (s52.trans s54)) _ _ hlb
          refine ⟨_,rfl,qv,_,_,_,rfl,rfl,SqT.of (s54 _ _ hqv),atI_hd,_,rfl,lb,zs,rfl,.inl (SqL.of hb54),rfl,hzf,.inr ⟨_,rfl,?_⟩⟩
          obtain ⟨zn,hat54,hz54⟩:∃ zn,atI [V.ref qv,V.ref qn] (if inV (.str (tag (cy .none m11 j k'))) zs then 1 else 0)=some zn∧VvAt H54 zn (brM zs (cy .none m11 j k')):=by
            unfold brM
            by_cases cb:inV (.str (tag (cy .none m11 j k'))) zs=true
            · rw [if_pos cb,if_pos cb];exact ⟨_,rfl,hn53⟩
            · rw [if_neg cb,if_neg cb];exact ⟨_,rfl,hv2.kp (Kp.same s54)⟩
          refine ⟨lx,_,_,_,rfl,rfl,SqL.of hx53,hat54,?_⟩
          have hD54:=s54 _ _ hD52
          have kd:=kp_upd (vs:=us++[zn]) hD54
          refine ⟨us,hD54,sl_lt (by omega),w_-(k'+1),(by omega),rfl,hlt2,(rd52.same s54).st n1 n2 n3 hD54,us++[zn],upd_same,?_,fun b o e=>by rw [upd_ne (ne_of_none e hD2)];exact s54 _ _ (s52 _ _ e)⟩
          rw [List.range_succ,List.map_append]
          exact psnoc (VsAt.kp vs52 ((Kp.same s54).trans kd)) (hz54.kp kd)
        · have ek:w_=k':=by omega
          subst ek
          have hln:=rd52.len.1
          rw [tabC_len] at hln
          refine .inl ⟨⟨_,SqL.of hbr52,by rw [lr_];exact Nat.le_refl _⟩,_,rd52.b.ob,sl_lt (by rw [List.length_map];omega),h_-(j+1),(by omega),rfl,hlt,bs_c++[D2],rows_c++[us],?_⟩
          rw [tabC_succ]
          exact rd52.push n1 n3 hD52 vs52
      have ej_c:h_=j:=by omega
      subst ej_c
      refine .inl ⟨⟨_,SqL.of tj_c.d.ob,by rw [List.length_map,bl_c];exact Nat.le_refl _⟩,?_⟩
      obtain ⟨fB,hfB⟩:∃ fB:Nat→Nat→Vl,fB=fun j k=>brM zs (cy .none m11 j k):=⟨_,rfl⟩
      rw [← hfB] at rd_c
      have smB:∀ jj kk,SmV β (fB jj kk):=fun jj kk=>by
        rw [hfB]
        refine brM_sm ?_
        have rc:=tt13.rect
        have hn:=rc.len
        have q1:=rc.w1
        have hj':jj%m11.length<m11.length:=Nat.mod_lt _ (by omega)
        have lw:=rc.row _ (List.getElem_mem hj')
        have hk':kk%w_<(m11[jj%m11.length]).length:=by rw [lw];exact Nat.mod_lt _ (by omega)
        unfold cy
        rw [rc.wd,List.getD_eq_getElem?_getD,List.getD_eq_getElem?_getD,List.getElem?_eq_getElem hj',Option.getD_some,List.getElem?_eq_getElem hk',Option.getD_some]
        exact sm11 _ (List.getElem_mem hj') _ (List.getElem_mem hk')
      have tt14:=TT.rd rd_c ev13.pen h1 h16 w1 w8 (fun jj kk=>(smB jj kk).1)
      obtain ⟨m,hm'⟩:∃ m,m=tabC fB h_ w_:=⟨_,rfl⟩
      rw [← hm'] at tt14
      have hhw:h_*w_≤16*8:=Nat.mul_le_mul h16 w8
      have lmf:m.flatten.length=h_*w_:=by rw [flat_len tt14.rect.row,tt14.ml]
      have nok:NsOk β β (numsOf m.flatten):=smv_ns (fun v hv=>by
        obtain ⟨r,hr,hv'⟩:=List.mem_flatten.mp hv
        rw [hm'] at hr
        unfold tabC at hr
        obtain ⟨jj,_,rfl⟩:=List.mem_map.mp hr
        obtain ⟨kk,_,rfl⟩:=List.mem_map.mp hv'
        exact smB jj kk) (by omega) (by rw [lmf];exact hβ)
      have ev14:=ev13.same rd_c.s
      have hkn14:=rd_c.s _ _ hkn13
      refine ⟨_,rfl,p,_,_,rfl,ev14.pen,(by omega),fun qh hm H15 hq15 nm15 y1 y2 y3 y4 pen15 kp15=>?_⟩
      have kk15:=ev14.pen.kp kp15
      have ev15:=ev14.kx pen15 kp15
      have tt15:=tt14.kx kp15 kk15
      have hkn15:=kp15 _ _ nkp hkn14
      have hh15:HmAt H15 (.ref qh) hm:=⟨qh,rfl,hq15⟩
      refine ⟨_,rfl,_,rfl,_,rfl,p,kn,D_c,Str.ofString "main",[],bs_c,rows_c,h_,w_,_,(a,ns),rfl,ev15.pen,(by omega),hkn15,(by simp),tt15.d.ob,tt15.d.lp,tt15.d.np,tt15.d.ls,tt15.d.len,tt15.d.h1,tt15.d.h16,tt15.d.w1,tt15.d.w8,tt15.d.row,fun aa lf c d hi'_ wi' kvs' H16 k1 k2 k3 k4 k5 k6 k7 k8 k9 k10 k11 k12 k13 k14 pen16 kp16=>?_⟩
      have kp16':Keep2 p kn H15 H16:=kp16
      have kk16:Kp H15 H16:=ev15.kp2 hkn15 kp16'
      have ev16:=ev15.k2 hkn15 pen16 kp16'
      have tt16:=tt15.k2 kp16' hkn15 kk16
      have hh16:=hh15.kp kk16
      obtain ⟨a0,lf0,sA,ea,f0,zA',mA,ldA,useA⟩:=lay_sh (H:=H16) (kvs:=kvs') (m:=m) (u:=.ref aa) ⟨aa,lf,c,d,hi'_,wi',rfl,k5,k6,k7,k8,k9,k10,k11,k12,k13,k14,k3⟩ nm_main tt16.vt tt16.ml (fun r hr=>(tt16.ok r hr).1) tt16.d.h1 tt16.d.w1
      have ea':a0=aa:=by injection ea with e;exact e.symm
      subst ea'
      have ndT:(([sA]:List Sht).map fun s=>s.z).Nodup:=by simp
      obtain ⟨dom,hdom⟩:∃ dom,dom=domS [sA]:=⟨_,rfl⟩
      obtain ⟨g,hg⟩:∃ g,g=gS [sA]:=⟨_,rfl⟩
      obtain ⟨⟨z0,c0,d0,lg0⟩,e0⟩:=useA [sA] ndT (by simp)
      have dp16:DpF kn dom g H16:=by
        rw [hdom,hg]
        exact dp_S k1 ndT (List.forall_mem_cons.mpr ⟨ldA,List.forall_mem_nil _⟩)
      rw [← hdom] at lg0
      rw [← hg] at e0
      have k0:okl2 dom g lf0:=⟨⟨_,_,_,lg0⟩,by rw [e0];exact fun r hr=>(tt16.ok r hr).2⟩
      refine ⟨_,rfl,_,rfl,p,D_c,bs_c,rows_c,m,h_,w_,.ref qh,hm,β,β,rfl,tt16,nok,hh16,fun ld us4 H17 hl17 vs17 s17=>?_⟩
      refine ⟨(by show 4≤sizeLine;decide),fun lw hlw=>?_⟩
      have glw:=Same.new (o:=.lst [vS "sum",vS "count",vS "least",vS "most"]) hlw
      have elw:upd H17 lw (.lst [vS "sum",vS "count",vS "least",vS "most"]) lw=some (.lst [vS "sum",vS "count",vS "least",vS "most"]):=upd_same
      generalize upd H17 lw (.lst [vS "sum",vS "count",vS "least",vS "most"])=H18 at *
      have s18:=s17.trans glw
      have vs18:VsAt H18 us4 (due4 m.flatten hm):=VsAt.kp vs17 (Kp.same glw)
      have hl18:=glw _ _ hl17
      have l4:us4.length=4:=Paired.length vs18
      refine ⟨_,rfl,lw,ld,rfl,⟨_,SqL.of elw⟩,⟨_,SqL.of hl18⟩,?_⟩
      refine for_zipl (xs:=[vS "sum",vS "count",vS "least",vS "most"]) (ys:=us4) (fun e σ H=>∃ x11 x12 x13,σ=[some (.ref a),some (.ref p),some (.int (0+(i:Int))),some (.ref kn),some (.ref lm),some (.ref D_c),some (.int r12),some (.ref lb),some (.ref qh),some (.ref a0),some (.ref ld),x11,x12,x13,x14,x15]∧Env8 K (a,ns) t.P_reckoned t.P_law H p (i*3000+1220)∧SmD H18 H) (by rw [l4];rfl) ⟨_,_,_,rfl,(ev16.same s18).mono (by omega),SmD.refl _⟩ ?_ ?_ ?_
      · rintro e σ H _ ⟨x11,x12,x13,rfl,_,sd⟩
        exact ⟨SqL.of (sd _ _ elw rfl),SqL.of (sd _ _ hl18 rfl)⟩
      · rintro e xw ud σ H20 bb hxw hud ⟨x11,x12,x13,rfl,ev20,sd20⟩ hbb
        obtain ⟨vd,hvd,pud⟩:=paired_at vs18 hud
        have hxw':(W4.map V.str)[e]?=some xw:=hxw
        rw [due4_eq,List.getElem?_map] at hvd
        rw [List.getElem?_map] at hxw'
        obtain ⟨z,hz4,rfl,rfl⟩:∃ z,z∈W4∧xw=.str z∧vd=fn1 z m.flatten hm:=by
          cases q:W4[e]? with
          | none=>rw [q] at hxw';cases hxw'
          | some z=>
            rw [q] at hxw' hvd
            cases hxw';cases hvd
            exact ⟨z,List.mem_of_getElem? q,rfl,rfl⟩
        have sb:=Same.new (o:=.tup [.str z,ud]) hbb
        have eb:upd H20 bb (.tup [.str z,ud]) bb=some (.tup [.str z,ud]):=upd_same
        generalize upd H20 bb (.tup [.str z,ud])=H21 at *
        refine ⟨bb,_,rfl,SqT.of eb,rfl,_,_,rfl,_,_,rfl,rfl,?_⟩
        refine ⟨_,rfl,_,rfl,two_le,fun qf hqf=>?_⟩
        have s22:=Same.new (o:=.tup [.str z,.ref a0]) hqf
        have hf22:upd H21 qf (.tup [.str z,.ref a0]) qf=some (.tup [.str z,.ref a0]):=upd_same
        generalize upd H21 qf (.tup [.str z,.ref a0])=H22 at *
        have sd22:=(sd20.trans (SmD.of sb)).trans (SmD.of s22)
        have sd1622:=(SmD.of s18).trans sd22
        have ev22:=(ev20.same sb).same s22
        have fm22:FmAt H22 (.ref qf) (.nd (.wd z) [.lf lf0]):=mk1 (t:=qf) hf22 rfl (.lf (LfAt.kp f0 sd1622.kp))
        have dp22:=DpF.smd sd1622 dp16
        have hh22:=hh16.kp sd1622.kp
        have hz22:=pud.kp sd22.kp
        obtain ⟨psL_u,hPL_u,_⟩:=id ev22.tL
        refine ⟨_,rfl,ev22.tL,fun f1_u HA_u nf1_u keep1_u tab1_u lam1_u=>⟨tab1_u,fun f2_u HB_u nf2_u keep2_u tab2_u lam2_u=>?_⟩⟩
        obtain ⟨psM_u,hPM_u,_⟩:=id tab1_u
        obtain ⟨cc_u,ctv_u,hf_u,hc_u⟩:=lam1_u
        have hf'_u:=keep2_u _ _ (ne_of hf_u hPM_u (by intro z;cases z)) hf_u
        have hc'_u:CodeK HB_u qL cc_u:=hc_u.keep fun b o e=>keep2_u _ _ (ne_of e hPM_u (by intro z;cases z)) e
        have sd_u:=(SmD.tab hPL_u keep1_u).trans (SmD.tab hPM_u keep2_u)
        have sdd_u:=sd_u.trans (SmD.del qL HB_u)
        have tR_u:TabAt HB_u t.P_reckoned qR:=tab_kx (tab_kx ev22.tR T.ne_reckoned_law hPL_u keep1_u) T.ne_reckoned_law hPM_u keep2_u
        refine ⟨qL,spRck7 t.P_reckoned f1_u (DpF kn dom g) dom g,fun base' W=>?_,?_⟩
        · refine ok_reckoned T ?_ (fun _ _ s x=>DpF.smd s x) (hCR.keeps W.sub) (hB.keep W.sub)
          refine W.lam (k:=0) (ps:=["_law_spot"]) (fv:=["_law_known"]) (js:=[3]) hf'_u hc'_u ⟨rfl,rfl,rfl,by decide +kernel,(List.forall_mem_cons.mpr ⟨rfl,(List.forall_mem_nil _)⟩),by decide +kernel,by decide +kernel,(List.forall_mem_cons.mpr ⟨⟨rfl,rfl,rfl⟩,(List.forall_mem_nil _)⟩),(List.forall_mem_cons.mpr ⟨rfl,(List.forall_mem_nil _)⟩),(.cons rfl .nil)⟩ (fun us hl=>by obtain ⟨_,rfl⟩:=len_1 hl;rfl) (fun vs H Q E h=>?_) (fun A outer s H vs Q E hr h=>?_)
          · obtain ⟨_,_,_,_,rfl,_⟩:=h
            rfl
          · obtain ⟨q,z,r,c,rfl,hq,⟨kv,hkv,dk⟩,dm,k'⟩:=h
            have hu1:=hu_of hr
            obtain ⟨x,hx,vx⟩:=dk z r c dm
            refine ⟨_,(pe_dget hu1 (pv 1) (pv 0) (fun _ _=>rfl)),?_⟩
            exact ⟨_,rfl,_,rfl,kn,x,rfl,hx▸DGet.t (k:=cK z r c) hkv hq,k' x H vx (Same.refl _)⟩
        refine ⟨.ref qf,.ref qh,.ref f2_u,(.nd (.wd z) [.lf lf0]),2,hm,rfl,FmAt.kp fm22 sdd_u.kp,(.nd (show KdOk (.wd z) 1 from W4_wds z hz4) (List.forall_mem_cons.mpr ⟨.lf (lf_ok lg0),List.forall_mem_nil _⟩)),(by decide),(fun f hf=>okC7 hz4 k0 ⟨β,β,by rw [e0];exact nok⟩ hf),DpF.smd sdd_u dp22,hh22.kp sdd_u.kp,tab_del tR_u qRL,fun x_u HC_u hx_u keep3_u tab3_u hn_u=>?_⟩
        rw [show sem7 g hm (.nd (.wd z) [.lf lf0])=[[fn1 z m.flatten hm]] from (by show [[fn1 z (lfT g lf0).flatten hm]]=_;rw [e0])] at hx_u
        obtain ⟨psR_u,hPR_u,_⟩:=id tR_u
        have hx'_u:=hx_u.kp (Kp.back hn_u)
        have kx_u:KeepX t.P_reckoned HB_u (L2.put qL HB_u HC_u):=keep_put keep3_u
        have se_u:=sd_u.trans (SmD.tab hPR_u kx_u)
        have evD_u:Env8 K (a,ns) t.P_reckoned t.P_law (L2.put qL HB_u HC_u) p (_):=⟨ev22.pen.smd se_u,tab_back tab3_u hn_u,tab_kx tab2_u (Ne.symm T.ne_reckoned_law) hPR_u kx_u⟩
        generalize L2.put qL HB_u HC_u=HD_u at *
        have hz_u:=hz22.kp se_u.kp
        refine ⟨_,rfl,_,rfl,(by show 1≤sizeLine;decide),fun q1 hq1=>⟨(by show 1≤sizeLine;decide),fun q2 hq2=>?_⟩⟩
        have s27:=(Same.new (o:=.tup [ud]) hq1).trans (Same.new (o:=.tup [.ref q1]) hq2)
        have t27:TrAt (upd (upd HD_u q1 (.tup [ud])) q2 (.tup [.ref q1])) (.ref q2) (.tup [.tup [trV (fn1 z m.flatten hm)]]) 4:=.ofP (n:=3) upd_same (by simp) (.cons (.ofP (n:=2) (Same.new hq2 _ _ upd_same) (by simp) (.cons (hz_u.kp (Kp.same s27)).tr .nil)) .nil)
        refine ⟨x_u,.ref q2,_,rfl,hx'_u.tr.kp (Kp.same s27),t27,fun H28 s28=>⟨true,rfl,iteF ?_⟩⟩
        have s28':=s27.trans s28
        exact ⟨_,_,_,rfl,evD_u.same s28',(sd22.trans se_u).trans (SmD.of s28')⟩
      rintro σ H30 ⟨x11,x12,x13,rfl,ev30,sd30⟩
      have sd1630:=(SmD.of s18).trans sd30
      have tt30:=tt16.smd sd1630
      have hh30:=hh16.kp sd1630.kp
      have hl30:=sd30 _ _ hl18 rfl
      have vs30:VsAt H30 us4 (due4 m.flatten hm):=VsAt.kp vs18 sd30.kp
      refine ⟨_,rfl,D_c,bs_c,rows_c,rfl,tt30.d.ob,tt30.d.ls,(by rw [tt30.d.len];omega),fun xt H31 hxt s31=>?_⟩
      have tb31:TbAt H31 xt m:=⟨rows_c,hxt,VtAt.kp tt30.vt (Kp.same s31)⟩
      have hh31:=hh30.kp (Kp.same s31)
      have rm:=tt30.rect
      have ml:=tt30.ml
      refine ⟨_,rfl,_,rfl,xt,.ref qh,m,w_,hm,β,β,rfl,tb31,rm,(by omega),(by omega),nok,hh31,fun v1 H32 hv1 s32=>?_⟩
      refine ⟨_,rfl,xt,m,w_,rfl,tb31.kp (Kp.same s32),rm,(by omega),(by omega),fun v2 H33 hv2 s33=>?_⟩
      refine ⟨_,rfl,xt,false,m,w_,rfl,tb31.kp (Kp.same (s32.trans s33)),rm,(by omega),(by omega),(fun r hr=>(tt30.ok r hr).2),fun v3 H34 hv3 s34=>?_⟩
      refine ⟨_,rfl,xt,true,m,w_,rfl,tb31.kp (Kp.same ((s32.trans s33).trans s34)),rm,(by omega),(by omega),(fun r hr=>(tt30.ok r hr).2),fun v4 H35 hv4 s35=>?_⟩
      refine ⟨(by show 4≤sizeLine;decide),fun lf4 hlf4=>?_⟩
      have s36:=Same.new (o:=.lst [v1,v2,v3,v4]) hlf4
      have el4:upd H35 lf4 (.lst [v1,v2,v3,v4]) lf4=some (.lst [v1,v2,v3,v4]):=upd_same
      generalize upd H35 lf4 (.lst [v1,v2,v3,v4])=H36 at *
      have s3136:=(((s32.trans s33).trans s34).trans s35).trans s36
      have s3036:=s31.trans s3136
      have vf36:VsAt H36 [v1,v2,v3,v4] (due4 m.flatten hm):=.cons (hv1.kp (Kp.same (((s33.trans s34).trans s35).trans s36))) (.cons (hv2.kp (Kp.same ((s34.trans s35).trans s36))) (.cons (hv3.kp (Kp.same (s35.trans s36))) (.cons (hv4.kp (Kp.same s36)) .nil)))
      refine ⟨_,rfl,lf4,_,rfl,.inl ⟨SqL.of el4,fun qa hqa=>?_⟩⟩
      have s37:=Same.new (o:=.tup [v1,v2,v3,v4]) hqa
      have ea37:upd H36 qa (.tup [v1,v2,v3,v4]) qa=some (.tup [v1,v2,v3,v4]):=upd_same
      generalize upd H36 qa (.tup [v1,v2,v3,v4])=H37 at *
      have s3037:=s3036.trans s37
      refine ⟨_,rfl,ld,us4,rfl,.inl ⟨SqL.of (s3037 _ _ hl30),fun qb hqb=>?_⟩⟩
      have s38:=Same.new (o:=.tup us4) hqb
      have eb38:upd H37 qb (.tup us4) qb=some (.tup us4):=upd_same
      generalize upd H37 qb (.tup us4)=H38 at *
      have s3038:=s3037.trans s38
      refine ⟨.ref qa,.ref qb,.tup ((due4 m.flatten hm).map trV),rfl,.ofP (n:=2) (s38 _ _ ea37) (by simp) (vs_tr (VsAt.kp vf36 (Kp.same (s37.trans s38)))),.ofP (n:=2) eb38 (by omega) (vs_tr (VsAt.kp vs30 (Kp.same s3038))),fun H39 s39=>⟨true,rfl,iteF ?_⟩⟩
      exact ⟨_,_,_,_,_,_,_,_,_,_,_,_,_,_,rfl,(ev30.same (s3038.trans s39)).mono (by omega)⟩
    · rintro σ H2 ⟨x2,x3,x4,x5,x6,x7,x8,x9,x10,x11,x12,x13,x14,x15,rfl,ev2⟩
      exact k _
end
theorem all_mk {l:PySem.W.OpenLaw}{w:World}{K:PySem.W.Frag}{h:Heap}{q:Program}{loose:List Str}{mean:ExcName→Option Value}{mg mb:Str→Option Value}{fa:Addr}(X:K.In h)(T0:PyProof.Rows.Top q loose mean mg mb h)(hfa:mg "law"=some (.ref fa))
    {w_PART_PLACES:Addr} {o_PART_PLACES:Obj} {u_GREATEST_WHOLE:Value} {f0 f1 f2 f3 f4 f5 f6 f7 f8 f9 f10 f11 f12 f13 f14 f15 f16 f17 f18 f19 f20 f21 f22 f23 f24 f25 f26 f27 f28 f29 f30 f31 f32 f33 f34 f35 f36 f37 f38 f39 f40 f41 f42 f43:Addr} {od0 an0 od1 an1 od2 an2 od3 an3 od4 an4 od5 an5 od6 an6 od7 an7 od8 an8 od9 an9 od10 an10 od11 an11 od12 an12 od13 an13 od14 an14 od15 an15 od16 an16 od17 an17 od18 an18 od19 an19 od20 an20 od21 an21 od22 an22 od23 an23 od24 an24 od25 an25 od26 an26 od27 an27 od28 an28 od29 an29 od30 an30 od31 an31 od32 an32 od33 an33 od34 an34 od35 an35 od36 an36 od37 an37 od38 an38 od39 an39 od40 an40 od41 an41 od42 an42 od43 an43:Option Addr} {sl0 sl1 sl2 sl3 sl4 sl5 sl6 sl7 sl8 sl9 sl10 sl11 sl12 sl13 sl14 sl15 sl16 sl17 sl18 sl19 sl20 sl21 sl22 sl23 sl24 sl25 sl26 sl27 sl28 sl29 sl30 sl31 sl32 sl33 sl34 sl35 sl36 sl37 sl38 sl39 sl40 sl41 sl42 sl43:Array (Option Value)} {oc0 kV0 dc0 pm0 cd0 ct0 oc1 kV1 dc1 pm1 cd1 ct1 oc2 kV2 dc2 pm2 cd2 ct2 oc3 kV3 dc3 pm3 cd3 ct3 oc4 kV4 dc4 pm4 cd4 ct4 oc5 kV5 dc5 pm5 cd5 ct5 oc6 kV6 dc6 pm6 cd6 ct6 oc7 kV7 dc7 pm7 cd7 ct7 oc8 kV8 dc8 pm8 cd8 ct8 oc9 kV9 dc9 pm9 cd9 ct9 oc10 kV10 dc10 pm10 cd10 ct10 oc11 kV11 dc11 pm11 cd11 ct11 oc12 kV12 dc12 pm12 cd12 ct12 oc13 kV13 dc13 pm13 cd13 ct13 oc14 kV14 dc14 pm14 cd14 ct14 oc15 kV15 dc15 pm15 cd15 ct15 oc16 kV16 dc16 pm16 cd16 ct16 oc17 kV17 dc17 pm17 cd17 ct17 oc18 kV18 dc18 pm18 cd18 ct18 oc19 kV19 dc19 pm19 cd19 ct19 oc20 kV20 dc20 pm20 cd20 ct20 oc21 kV21 dc21 pm21 cd21 ct21 oc22 kV22 dc22 pm22 cd22 ct22 oc23 kV23 dc23 pm23 cd23 ct23 oc24 kV24 dc24 pm24 cd24 ct24 oc25 kV25 dc25 pm25 cd25 ct25 oc26 kV26 dc26 pm26 cd26 ct26 oc27 kV27 dc27 pm27 cd27 ct27 oc28 kV28 dc28 pm28 cd28 ct28 oc29 kV29 dc29 pm29 cd29 ct29 oc30 kV30 dc30 pm30 cd30 ct30 oc31 kV31 dc31 pm31 cd31 ct31 oc32 kV32 dc32 pm32 cd32 ct32 oc33 kV33 dc33 pm33 cd33 ct33 oc34 kV34 dc34 pm34 cd34 ct34 oc35 kV35 dc35 pm35 cd35 ct35 oc36 kV36 dc36 pm36 cd36 ct36 oc37 kV37 dc37 pm37 cd37 ct37 oc38 kV38 dc38 pm38 cd38 ct38 oc39 kV39 dc39 pm39 cd39 ct39 oc40 kV40 dc40 pm40 cd40 ct40 oc41 kV41 dc41 pm41 cd41 ct41 oc42 kV42 dc42 pm42 cd42 ct42 oc43 kV43 dc43 pm43 cd43 ct43:Value} {cc_reckoned pp_reckoned cc_law pp_law:Addr}
    (a0:PySem.W.nsIn K mainGlobals "is_whole"=some (some (.ref f0))) (l0:K.lookup f0=some ⟨oc0,od0,.func (PySem.W.fnOf "is_whole" "is_whole" (defArgs s_is_whole) (defBody s_is_whole) (defScope s_is_whole) .none kV0 dc0 pm0 an0 cd0 ct0),sl0⟩) (c0:PySem.W.codeIn K cd0 "is_whole"=true) (k0:PySem.W.keepIn K (.ref f0)=true)
    (a1:PySem.W.nsIn K mainGlobals "greatest_divisor"=some (some (.ref f1))) (l1:K.lookup f1=some ⟨oc1,od1,.func (PySem.W.fnOf "greatest_divisor" "greatest_divisor" (defArgs s_greatest_divisor) (defBody s_greatest_divisor) (defScope s_greatest_divisor) .none kV1 dc1 pm1 an1 cd1 ct1),sl1⟩) (c1:PySem.W.codeIn K cd1 "greatest_divisor"=true) (k1:PySem.W.keepIn K (.ref f1)=true)
    (a2:PySem.W.nsIn K mainGlobals "is_number"=some (some (.ref f2))) (l2:K.lookup f2=some ⟨oc2,od2,.func (PySem.W.fnOf "is_number" "is_number" (defArgs s_is_number) (defBody s_is_number) (defScope s_is_number) .none kV2 dc2 pm2 an2 cd2 ct2),sl2⟩) (c2:PySem.W.codeIn K cd2 "is_number"=true) (k2:PySem.W.keepIn K (.ref f2)=true)
    (a3:PySem.W.nsIn K mainGlobals "number_of"=some (some (.ref f3))) (l3:K.lookup f3=some ⟨oc3,od3,.func (PySem.W.fnOf "number_of" "number_of" (defArgs s_number_of) (defBody s_number_of) (defScope s_number_of) .none kV3 dc3 pm3 an3 cd3 ct3),sl3⟩) (c3:PySem.W.codeIn K cd3 "number_of"=true) (k3:PySem.W.keepIn K (.ref f3)=true)
    (a4:PySem.W.nsIn K mainGlobals "is_less"=some (some (.ref f4))) (l4:K.lookup f4=some ⟨oc4,od4,.func (PySem.W.fnOf "is_less" "is_less" (defArgs s_is_less) (defBody s_is_less) (defScope s_is_less) .none kV4 dc4 pm4 an4 cd4 ct4),sl4⟩) (c4:PySem.W.codeIn K cd4 "is_less"=true) (k4:PySem.W.keepIn K (.ref f4)=true)
    (a5:PySem.W.nsIn K mainGlobals "has_few_figures"=some (some (.ref f5))) (l5:K.lookup f5=some ⟨oc5,od5,.func (PySem.W.fnOf "has_few_figures" "has_few_figures" (defArgs s_has_few_figures) (defBody s_has_few_figures) (defScope s_has_few_figures) .none kV5 dc5 pm5 an5 cd5 ct5),sl5⟩) (c5:PySem.W.codeIn K cd5 "has_few_figures"=true) (k5:PySem.W.keepIn K (.ref f5)=true)
    (a6:PySem.W.nsIn K mainGlobals "is_short_number"=some (some (.ref f6))) (l6:K.lookup f6=some ⟨oc6,od6,.func (PySem.W.fnOf "is_short_number" "is_short_number" (defArgs s_is_short_number) (defBody s_is_short_number) (defScope s_is_short_number) .none kV6 dc6 pm6 an6 cd6 ct6),sl6⟩) (c6:PySem.W.codeIn K cd6 "is_short_number"=true) (k6:PySem.W.keepIn K (.ref f6)=true)
    (a7:PySem.W.nsIn K mainGlobals "number_value"=some (some (.ref f7))) (l7:K.lookup f7=some ⟨oc7,od7,.func (PySem.W.fnOf "number_value" "number_value" (defArgs s_number_value) (defBody s_number_value) (defScope s_number_value) .none kV7 dc7 pm7 an7 cd7 ct7),sl7⟩) (c7:PySem.W.codeIn K cd7 "number_value"=true) (k7:PySem.W.keepIn K (.ref f7)=true)
    (a8:PySem.W.nsIn K mainGlobals "values_in"=some (some (.ref f8))) (l8:K.lookup f8=some ⟨oc8,od8,.func (PySem.W.fnOf "values_in" "values_in" (defArgs s_values_in) (defBody s_values_in) (defScope s_values_in) .none kV8 dc8 pm8 an8 cd8 ct8),sl8⟩) (c8:PySem.W.codeIn K cd8 "values_in"=true) (k8:PySem.W.keepIn K (.ref f8)=true)
    (a9:PySem.W.nsIn K mainGlobals "first_fault"=some (some (.ref f9))) (l9:K.lookup f9=some ⟨oc9,od9,.func (PySem.W.fnOf "first_fault" "first_fault" (defArgs s_first_fault) (defBody s_first_fault) (defScope s_first_fault) .none kV9 dc9 pm9 an9 cd9 ct9),sl9⟩) (c9:PySem.W.codeIn K cd9 "first_fault"=true) (k9:PySem.W.keepIn K (.ref f9)=true)
    (a10:PySem.W.nsIn K mainGlobals "numbers_among"=some (some (.ref f10))) (l10:K.lookup f10=some ⟨oc10,od10,.func (PySem.W.fnOf "numbers_among" "numbers_among" (defArgs s_numbers_among) (defBody s_numbers_among) (defScope s_numbers_among) .none kV10 dc10 pm10 an10 cd10 ct10),sl10⟩) (c10:PySem.W.codeIn K cd10 "numbers_among"=true) (k10:PySem.W.keepIn K (.ref f10)=true)
    (a11:PySem.W.nsIn K mainGlobals "sum_of_all"=some (some (.ref f11))) (l11:K.lookup f11=some ⟨oc11,od11,.func (PySem.W.fnOf "sum_of_all" "sum_of_all" (defArgs s_sum_of_all) (defBody s_sum_of_all) (defScope s_sum_of_all) .none kV11 dc11 pm11 an11 cd11 ct11),sl11⟩) (c11:PySem.W.codeIn K cd11 "sum_of_all"=true) (k11:PySem.W.keepIn K (.ref f11)=true)
    (a12:PySem.W.nsIn K mainGlobals "sum_among"=some (some (.ref f12))) (l12:K.lookup f12=some ⟨oc12,od12,.func (PySem.W.fnOf "sum_among" "sum_among" (defArgs s_sum_among) (defBody s_sum_among) (defScope s_sum_among) .none kV12 dc12 pm12 an12 cd12 ct12),sl12⟩) (c12:PySem.W.codeIn K cd12 "sum_among"=true) (k12:PySem.W.keepIn K (.ref f12)=true)
    (a13:PySem.W.nsIn K mainGlobals "summed_up"=some (some (.ref f13))) (l13:K.lookup f13=some ⟨oc13,od13,.func (PySem.W.fnOf "summed_up" "summed_up" (defArgs s_summed_up) (defBody s_summed_up) (defScope s_summed_up) .none kV13 dc13 pm13 an13 cd13 ct13),sl13⟩) (c13:PySem.W.codeIn K cd13 "summed_up"=true) (k13:PySem.W.keepIn K (.ref f13)=true)
    (a14:PySem.W.nsIn K mainGlobals "counted_up"=some (some (.ref f14))) (l14:K.lookup f14=some ⟨oc14,od14,.func (PySem.W.fnOf "counted_up" "counted_up" (defArgs s_counted_up) (defBody s_counted_up) (defScope s_counted_up) .none kV14 dc14 pm14 an14 cd14 ct14),sl14⟩) (c14:PySem.W.codeIn K cd14 "counted_up"=true) (k14:PySem.W.keepIn K (.ref f14)=true)
    (a15:PySem.W.nsIn K mainGlobals "ends_of"=some (some (.ref f15))) (l15:K.lookup f15=some ⟨oc15,od15,.func (PySem.W.fnOf "ends_of" "ends_of" (defArgs s_ends_of) (defBody s_ends_of) (defScope s_ends_of) .none kV15 dc15 pm15 an15 cd15 ct15),sl15⟩) (c15:PySem.W.codeIn K cd15 "ends_of"=true) (k15:PySem.W.keepIn K (.ref f15)=true)
    (a16:PySem.W.nsIn K mainGlobals "table_in_rows"=some (some (.ref f16))) (l16:K.lookup f16=some ⟨oc16,od16,.func (PySem.W.fnOf "table_in_rows" "table_in_rows" (defArgs s_table_in_rows) (defBody s_table_in_rows) (defScope s_table_in_rows) .none kV16 dc16 pm16 an16 cd16 ct16),sl16⟩) (c16:PySem.W.codeIn K cd16 "table_in_rows"=true) (k16:PySem.W.keepIn K (.ref f16)=true)
    (a17:PySem.W.nsIn K mainGlobals "cells_of"=some (some (.ref f17))) (l17:K.lookup f17=some ⟨oc17,od17,.func (PySem.W.fnOf "cells_of" "cells_of" (defArgs s_cells_of) (defBody s_cells_of) (defScope s_cells_of) .none kV17 dc17 pm17 an17 cd17 ct17),sl17⟩) (c17:PySem.W.codeIn K cd17 "cells_of"=true) (k17:PySem.W.keepIn K (.ref f17)=true)
    (a18:PySem.W.nsIn K mainGlobals "table_of_one"=some (some (.ref f18))) (l18:K.lookup f18=some ⟨oc18,od18,.func (PySem.W.fnOf "table_of_one" "table_of_one" (defArgs s_table_of_one) (defBody s_table_of_one) (defScope s_table_of_one) .none kV18 dc18 pm18 an18 cd18 ct18),sl18⟩) (c18:PySem.W.codeIn K cd18 "table_of_one"=true) (k18:PySem.W.keepIn K (.ref f18)=true)
    (a19:PySem.W.nsIn K mainGlobals "parts_of"=some (some (.ref f19))) (l19:K.lookup f19=some ⟨oc19,od19,.func (PySem.W.fnOf "parts_of" "parts_of" (defArgs s_parts_of) (defBody s_parts_of) (defScope s_parts_of) .none kV19 dc19 pm19 an19 cd19 ct19),sl19⟩) (c19:PySem.W.codeIn K cd19 "parts_of"=true) (k19:PySem.W.keepIn K (.ref f19)=true)
    (a20:PySem.W.nsIn K mainGlobals "block_led_to"=some (some (.ref f20))) (l20:K.lookup f20=some ⟨oc20,od20,.func (PySem.W.fnOf "block_led_to" "block_led_to" (defArgs s_block_led_to) (defBody s_block_led_to) (defScope s_block_led_to) .none kV20 dc20 pm20 an20 cd20 ct20),sl20⟩) (c20:PySem.W.codeIn K cd20 "block_led_to"=true) (k20:PySem.W.keepIn K (.ref f20)=true)
    (a21:PySem.W.nsIn K mainGlobals "all_parts"=some (some (.ref f21))) (l21:K.lookup f21=some ⟨oc21,od21,.func (PySem.W.fnOf "all_parts" "all_parts" (defArgs s_all_parts) (defBody s_all_parts) (defScope s_all_parts) .none kV21 dc21 pm21 an21 cd21 ct21),sl21⟩) (c21:PySem.W.codeIn K cd21 "all_parts"=true) (k21:PySem.W.keepIn K (.ref f21)=true)
    (a22:PySem.W.nsIn K mainGlobals "told_by_parts"=some (some (.ref f22))) (l22:K.lookup f22=some ⟨oc22,od22,.func (PySem.W.fnOf "told_by_parts" "told_by_parts" (defArgs s_told_by_parts) (defBody s_told_by_parts) (defScope s_told_by_parts) .none kV22 dc22 pm22 an22 cd22 ct22),sl22⟩) (c22:PySem.W.codeIn K cd22 "told_by_parts"=true) (k22:PySem.W.keepIn K (.ref f22)=true)
    (a23:PySem.W.nsIn K mainGlobals "block_shape"=some (some (.ref f23))) (l23:K.lookup f23=some ⟨oc23,od23,.func (PySem.W.fnOf "block_shape" "block_shape" (defArgs s_block_shape) (defBody s_block_shape) (defScope s_block_shape) .none kV23 dc23 pm23 an23 cd23 ct23),sl23⟩) (c23:PySem.W.codeIn K cd23 "block_shape"=true) (k23:PySem.W.keepIn K (.ref f23)=true)
    (a24:PySem.W.nsIn K mainGlobals "shown_table"=some (some (.ref f24))) (l24:K.lookup f24=some ⟨oc24,od24,.func (PySem.W.fnOf "shown_table" "shown_table" (defArgs s_shown_table) (defBody s_shown_table) (defScope s_shown_table) .none kV24 dc24 pm24 an24 cd24 ct24),sl24⟩) (c24:PySem.W.codeIn K cd24 "shown_table"=true) (k24:PySem.W.keepIn K (.ref f24)=true)
    (a25:PySem.W.nsIn K mainGlobals "leaf_table"=some (some (.ref f25))) (l25:K.lookup f25=some ⟨oc25,od25,.func (PySem.W.fnOf "leaf_table" "leaf_table" (defArgs s_leaf_table) (defBody s_leaf_table) (defScope s_leaf_table) .none kV25 dc25 pm25 an25 cd25 ct25),sl25⟩) (c25:PySem.W.codeIn K cd25 "leaf_table"=true) (k25:PySem.W.keepIn K (.ref f25)=true)
    (a26:PySem.W.nsIn K mainGlobals "single_value"=some (some (.ref f26))) (l26:K.lookup f26=some ⟨oc26,od26,.func (PySem.W.fnOf "single_value" "single_value" (defArgs s_single_value) (defBody s_single_value) (defScope s_single_value) .none kV26 dc26 pm26 an26 cd26 ct26),sl26⟩) (c26:PySem.W.codeIn K cd26 "single_value"=true) (k26:PySem.W.keepIn K (.ref f26)=true)
    (a27:PySem.W.nsIn K mainGlobals "table_by_parts"=some (some (.ref f27))) (l27:K.lookup f27=some ⟨oc27,od27,.func (PySem.W.fnOf "table_by_parts" "table_by_parts" (defArgs s_table_by_parts) (defBody s_table_by_parts) (defScope s_table_by_parts) .none kV27 dc27 pm27 an27 cd27 ct27),sl27⟩) (c27:PySem.W.codeIn K cd27 "table_by_parts"=true) (k27:PySem.W.keepIn K (.ref f27)=true)
    (a28:PySem.W.nsIn K mainGlobals "reckoned"=some (some (.ref f28))) (l28:K.lookup f28=some ⟨oc28,od28,.func (PySem.W.fnOf "reckoned" "reckoned" (defArgs s_reckoned) (defBody s_reckoned) (defScope s_reckoned) .none kV28 dc28 pm28 an28 cd28 ct28),sl28⟩) (c28:PySem.W.codeIn K cd28 "reckoned"=true) (k28:PySem.W.keepIn K (.ref f28)=true)
    (a29:PySem.W.nsIn K mainGlobals "_law_lowest"=some (some (.ref f29))) (l29:K.lookup f29=some ⟨oc29,od29,.func (PySem.W.fnOf "_law_lowest" "_law_lowest" (defArgs s__law_lowest) (defBody s__law_lowest) (defScope s__law_lowest) .none kV29 dc29 pm29 an29 cd29 ct29),sl29⟩) (c29:PySem.W.codeIn K cd29 "_law_lowest"=true) (k29:PySem.W.keepIn K (.ref f29)=true)
    (a30:PySem.W.nsIn K mainGlobals "_law_cell_at"=some (some (.ref f30))) (l30:K.lookup f30=some ⟨oc30,od30,.func (PySem.W.fnOf "_law_cell_at" "_law_cell_at" (defArgs s__law_cell_at) (defBody s__law_cell_at) (defScope s__law_cell_at) .none kV30 dc30 pm30 an30 cd30 ct30),sl30⟩) (c30:PySem.W.codeIn K cd30 "_law_cell_at"=true) (k30:PySem.W.keepIn K (.ref f30)=true)
    (a31:PySem.W.nsIn K mainGlobals "_law_pen"=some (some (.ref f31))) (l31:K.lookup f31=some ⟨oc31,od31,.func (PySem.W.fnOf "_law_pen" "_law_pen" (defArgs s__law_pen) (defBody s__law_pen) (defScope s__law_pen) .none kV31 dc31 pm31 an31 cd31 ct31),sl31⟩) (c31:PySem.W.codeIn K cd31 "_law_pen"=true) (k31:PySem.W.keepIn K (.ref f31)=true)
    (a32:PySem.W.nsIn K mainGlobals "_law_take"=some (some (.ref f32))) (l32:K.lookup f32=some ⟨oc32,od32,.func (PySem.W.fnOf "_law_take" "_law_take" (defArgs s__law_take) (defBody s__law_take) (defScope s__law_take) .none kV32 dc32 pm32 an32 cd32 ct32),sl32⟩) (c32:PySem.W.codeIn K cd32 "_law_take"=true) (k32:PySem.W.keepIn K (.ref f32)=true)
    (a33:PySem.W.nsIn K mainGlobals "_law_drawn_cell"=some (some (.ref f33))) (l33:K.lookup f33=some ⟨oc33,od33,.func (PySem.W.fnOf "_law_drawn_cell" "_law_drawn_cell" (defArgs s__law_drawn_cell) (defBody s__law_drawn_cell) (defScope s__law_drawn_cell) .none kV33 dc33 pm33 an33 cd33 ct33),sl33⟩) (c33:PySem.W.codeIn K cd33 "_law_drawn_cell"=true) (k33:PySem.W.keepIn K (.ref f33)=true)
    (a34:PySem.W.nsIn K mainGlobals "_law_great_value"=some (some (.ref f34))) (l34:K.lookup f34=some ⟨oc34,od34,.func (PySem.W.fnOf "_law_great_value" "_law_great_value" (defArgs s__law_great_value) (defBody s__law_great_value) (defScope s__law_great_value) .none kV34 dc34 pm34 an34 cd34 ct34),sl34⟩) (c34:PySem.W.codeIn K cd34 "_law_great_value"=true) (k34:PySem.W.keepIn K (.ref f34)=true)
    (a35:PySem.W.nsIn K mainGlobals "_law_drawn_value"=some (some (.ref f35))) (l35:K.lookup f35=some ⟨oc35,od35,.func (PySem.W.fnOf "_law_drawn_value" "_law_drawn_value" (defArgs s__law_drawn_value) (defBody s__law_drawn_value) (defScope s__law_drawn_value) .none kV35 dc35 pm35 an35 cd35 ct35),sl35⟩) (c35:PySem.W.codeIn K cd35 "_law_drawn_value"=true) (k35:PySem.W.keepIn K (.ref f35)=true)
    (a36:PySem.W.nsIn K mainGlobals "_law_drawn_table"=some (some (.ref f36))) (l36:K.lookup f36=some ⟨oc36,od36,.func (PySem.W.fnOf "_law_drawn_table" "_law_drawn_table" (defArgs s__law_drawn_table) (defBody s__law_drawn_table) (defScope s__law_drawn_table) .none kV36 dc36 pm36 an36 cd36 ct36),sl36⟩) (c36:PySem.W.codeIn K cd36 "_law_drawn_table"=true) (k36:PySem.W.keepIn K (.ref f36)=true)
    (a37:PySem.W.nsIn K mainGlobals "_law_laid"=some (some (.ref f37))) (l37:K.lookup f37=some ⟨oc37,od37,.func (PySem.W.fnOf "_law_laid" "_law_laid" (defArgs s__law_laid) (defBody s__law_laid) (defScope s__law_laid) .none kV37 dc37 pm37 an37 cd37 ct37),sl37⟩) (c37:PySem.W.codeIn K cd37 "_law_laid"=true) (k37:PySem.W.keepIn K (.ref f37)=true)
    (a38:PySem.W.nsIn K mainGlobals "_law_put_down"=some (some (.ref f38))) (l38:K.lookup f38=some ⟨oc38,od38,.func (PySem.W.fnOf "_law_put_down" "_law_put_down" (defArgs s__law_put_down) (defBody s__law_put_down) (defScope s__law_put_down) .none kV38 dc38 pm38 an38 cd38 ct38),sl38⟩) (c38:PySem.W.codeIn K cd38 "_law_put_down"=true) (k38:PySem.W.keepIn K (.ref f38)=true)
    (a39:PySem.W.nsIn K mainGlobals "_law_tabled"=some (some (.ref f39))) (l39:K.lookup f39=some ⟨oc39,od39,.func (PySem.W.fnOf "_law_tabled" "_law_tabled" (defArgs s__law_tabled) (defBody s__law_tabled) (defScope s__law_tabled) .none kV39 dc39 pm39 an39 cd39 ct39),sl39⟩) (c39:PySem.W.codeIn K cd39 "_law_tabled"=true) (k39:PySem.W.keepIn K (.ref f39)=true)
    (a40:PySem.W.nsIn K mainGlobals "_law_typed_alike"=some (some (.ref f40))) (l40:K.lookup f40=some ⟨oc40,od40,.func (PySem.W.fnOf "_law_typed_alike" "_law_typed_alike" (defArgs s__law_typed_alike) (defBody s__law_typed_alike) (defScope s__law_typed_alike) .none kV40 dc40 pm40 an40 cd40 ct40),sl40⟩) (c40:PySem.W.codeIn K cd40 "_law_typed_alike"=true) (k40:PySem.W.keepIn K (.ref f40)=true)
    (a41:PySem.W.nsIn K mainGlobals "_law_lessened"=some (some (.ref f41))) (l41:K.lookup f41=some ⟨oc41,od41,.func (PySem.W.fnOf "_law_lessened" "_law_lessened" (defArgs s__law_lessened) (defBody s__law_lessened) (defScope s__law_lessened) .none kV41 dc41 pm41 an41 cd41 ct41),sl41⟩) (c41:PySem.W.codeIn K cd41 "_law_lessened"=true) (k41:PySem.W.keepIn K (.ref f41)=true)
    (a42:PySem.W.nsIn K mainGlobals "_law_dues"=some (some (.ref f42))) (l42:K.lookup f42=some ⟨oc42,od42,.func (PySem.W.fnOf "_law_dues" "_law_dues" (defArgs s__law_dues) (defBody s__law_dues) (defScope s__law_dues) .none kV42 dc42 pm42 an42 cd42 ct42),sl42⟩) (c42:PySem.W.codeIn K cd42 "_law_dues"=true) (k42:PySem.W.keepIn K (.ref f42)=true)
    (a43:PySem.W.nsIn K mainGlobals "law"=some (some (.ref f43))) (l43:K.lookup f43=some ⟨oc43,od43,.func (PySem.W.fnOf "law" "law" (defArgs s_law) (defBody s_law) (defScope s_law) .none kV43 dc43 pm43 an43 cd43 ct43),sl43⟩) (c43:PySem.W.codeIn K cd43 "law"=true) (k43:PySem.W.keepIn K (.ref f43)=true)
    (z_len:PySem.W.nsIn K mainGlobals "len"=some none)
    (z_range:PySem.W.nsIn K mainGlobals "range"=some none)
    (z_isinstance:PySem.W.nsIn K mainGlobals "isinstance"=some none)
    (z_int:PySem.W.nsIn K mainGlobals "int"=some none)
    (z_bool:PySem.W.nsIn K mainGlobals "bool"=some none)
    (z_str:PySem.W.nsIn K mainGlobals "str"=some none)
    (z_tuple:PySem.W.nsIn K mainGlobals "tuple"=some none)
    (z_list:PySem.W.nsIn K mainGlobals "list"=some none)
    (z_reversed:PySem.W.nsIn K mainGlobals "reversed"=some none)
    (z_min:PySem.W.nsIn K mainGlobals "min"=some none)
    (z_all:PySem.W.nsIn K mainGlobals "all"=some none)
    (z_abs:PySem.W.nsIn K mainGlobals "abs"=some none)
    (z_enumerate:PySem.W.nsIn K mainGlobals "enumerate"=some none)
    (z_zip:PySem.W.nsIn K mainGlobals "zip"=some none)
    (z_max:PySem.W.nsIn K mainGlobals "max"=some none)
    (g_PART_PLACES:PySem.W.nsIn K mainGlobals "PART_PLACES"=some (some (.ref w_PART_PLACES)))
    (h_PART_PLACES:K.lookup w_PART_PLACES=some o_PART_PLACES)
    (r_PART_PLACES:∃ kvs,DicO w o_PART_PLACES kvs∧Paired (fun (kv:Key×V) (kt:Key×List V)=>kv.1=kt.1∧∃ a,kv.2=.ref a∧∀ H,SqT K H a kt.2) kvs PPK)
    (n_PART_PLACES:(w_PART_PLACES==sysModules)=false)
    (g_GREATEST_WHOLE:PySem.W.nsIn K mainGlobals "GREATEST_WHOLE"=some (some u_GREATEST_WHOLE))
    (r_GREATEST_WHOLE:RelV (.int 999999999999999999999999999999) u_GREATEST_WHOLE)
    (kist:PySem.W.kitOne K (.type "str") (.type "tuple")=some false)
    (kiit:PySem.W.kitOne K (.type "int") (.type "tuple")=some false)
    (kib:PySem.W.kitOne K (.type "int") (.type "bool")=some false)
    (ki_bt:PySem.W.kitOne K (.type "bool") (.type "tuple")=some false)
    (ki_sb:PySem.W.kitOne K (.type "str") (.type "bool")=some false)
    (ki_si:PySem.W.kitOne K (.type "str") (.type "int")=some false)
    (t_reckoned:PySem.W.tabIn K "reckoned"=some (cc_reckoned,pp_reckoned)) (rr_reckoned:(PyProof.Rows.recsOf q).any (fun e=>e.name == "reckoned")=true)
    (t_law:PySem.W.tabIn K "law"=some (cc_law,pp_law)) (rr_law:(PyProof.Rows.recsOf q).any (fun e=>e.name == "law")=true)
    (nn_reckoned_law:pp_reckoned≠pp_law):
    ∃ (fd:FuncData) (tabs:List (Addr×Addr)) (sp:Sp),(∀ (s:Shared) (v:Value),BindsTo s fd ⟨[v],[]⟩ [("_law_script",v)])∧PySem.W.TabsAt tabs h∧(∀ (H:Hp) (a:Addr) (ns:List Int),ns.length≤63→(∀ q∈tabs,H q.2=some (.tbl #[]))→SqL K H a (ns.map V.int)→sp [.ref a] H (fun v _=>v=.bl true) E0)∧∀ base:Heap,K.In base→base.Ns mainGlobals mg→(∀ q∈tabs,PySem.W.CodeHd base q.1 q.2)→BM mg base→FnOk l.prog w K mg base CX0 14 fa fd ["_law_script"] sp:=by
  have G:=T0.g
  have e:=hfa.symm.trans (PySem.W.mg_of X G a43)
  cases e
  have F0:=fun_mk (st:=s_is_whole) l0 c0 k0
  have b0:=F0.binds (ps:=["thing"]) fun _ _ _ _ _ _ us hl=>by obtain ⟨_,rfl⟩:=len_1 hl;rfl
  have F1:=fun_mk (st:=s_greatest_divisor) l1 c1 k1
  have b1:=F1.binds (ps:=["one","other"]) fun _ _ _ _ _ _ us hl=>by obtain ⟨_,_,rfl⟩:=len_2 hl;rfl
  have F2:=fun_mk (st:=s_is_number) l2 c2 k2
  have b2:=F2.binds (ps:=["top","bottom"]) fun _ _ _ _ _ _ us hl=>by obtain ⟨_,_,rfl⟩:=len_2 hl;rfl
  have F3:=fun_mk (st:=s_number_of) l3 c3 k3
  have b3:=F3.binds (ps:=["top","bottom"]) fun _ _ _ _ _ _ us hl=>by obtain ⟨_,_,rfl⟩:=len_2 hl;rfl
  have F4:=fun_mk (st:=s_is_less) l4 c4 k4
  have b4:=F4.binds (ps:=["a","b"]) fun _ _ _ _ _ _ us hl=>by obtain ⟨_,_,rfl⟩:=len_2 hl;rfl
  have F5:=fun_mk (st:=s_has_few_figures) l5 c5 k5
  have b5:=F5.binds (ps:=["thing"]) fun _ _ _ _ _ _ us hl=>by obtain ⟨_,rfl⟩:=len_1 hl;rfl
  have F6:=fun_mk (st:=s_is_short_number) l6 c6 k6
  have b6:=F6.binds (ps:=["top","bottom"]) fun _ _ _ _ _ _ us hl=>by obtain ⟨_,_,rfl⟩:=len_2 hl;rfl
  have F7:=fun_mk (st:=s_number_value) l7 c7 k7
  have b7:=F7.binds (ps:=["number","cell"]) fun _ _ _ _ _ _ us hl=>by obtain ⟨_,_,rfl⟩:=len_2 hl;rfl
  have F8:=fun_mk (st:=s_values_in) l8 c8 k8
  have b8:=F8.binds (ps:=["table"]) fun _ _ _ _ _ _ us hl=>by obtain ⟨_,rfl⟩:=len_1 hl;rfl
  have F9:=fun_mk (st:=s_first_fault) l9 c9 k9
  have b9:=F9.binds (ps:=["values"]) fun _ _ _ _ _ _ us hl=>by obtain ⟨_,rfl⟩:=len_1 hl;rfl
  have F10:=fun_mk (st:=s_numbers_among) l10 c10 k10
  have b10:=F10.binds (ps:=["values"]) fun _ _ _ _ _ _ us hl=>by obtain ⟨_,rfl⟩:=len_1 hl;rfl
  have F11:=fun_mk (st:=s_sum_of_all) l11 c11 k11
  have b11:=F11.binds (ps:=["numbers"]) fun _ _ _ _ _ _ us hl=>by obtain ⟨_,rfl⟩:=len_1 hl;rfl
  have F12:=fun_mk (st:=s_sum_among) l12 c12 k12
  have b12:=F12.binds (ps:=["values","cell"]) fun _ _ _ _ _ _ us hl=>by obtain ⟨_,_,rfl⟩:=len_2 hl;rfl
  have F13:=fun_mk (st:=s_summed_up) l13 c13 k13
  have b13:=F13.binds (ps:=["table","cell"]) fun _ _ _ _ _ _ us hl=>by obtain ⟨_,_,rfl⟩:=len_2 hl;rfl
  have F14:=fun_mk (st:=s_counted_up) l14 c14 k14
  have b14:=F14.binds (ps:=["table"]) fun _ _ _ _ _ _ us hl=>by obtain ⟨_,rfl⟩:=len_1 hl;rfl
  have F15:=fun_mk (st:=s_ends_of) l15 c15 k15
  have b15:=F15.binds (ps:=["table","most"]) fun _ _ _ _ _ _ us hl=>by obtain ⟨_,_,rfl⟩:=len_2 hl;rfl
  have F16:=fun_mk (st:=s_table_in_rows) l16 c16 k16
  have b16:=F16.binds (ps:=["values","wide"]) fun _ _ _ _ _ _ us hl=>by obtain ⟨_,_,rfl⟩:=len_2 hl;rfl
  have F17:=fun_mk (st:=s_cells_of) l17 c17 k17
  have b17:=F17.binds (ps:=["block"]) fun _ _ _ _ _ _ us hl=>by obtain ⟨_,rfl⟩:=len_1 hl;rfl
  have F18:=fun_mk (st:=s_table_of_one) l18 c18 k18
  have b18:=F18.binds (ps:=["value"]) fun _ _ _ _ _ _ us hl=>by obtain ⟨_,rfl⟩:=len_1 hl;rfl
  have F19:=fun_mk (st:=s_parts_of) l19 c19 k19
  have b19:=F19.binds (ps:=["formula"]) fun _ _ _ _ _ _ us hl=>by obtain ⟨_,rfl⟩:=len_1 hl;rfl
  have F20:=fun_mk (st:=s_block_led_to) l20 c20 k20
  have b20:=F20.binds (ps:=["reference"]) fun _ _ _ _ _ _ us hl=>by obtain ⟨_,rfl⟩:=len_1 hl;rfl
  have F21:=fun_mk (st:=s_all_parts) l21 c21 k21
  have b21:=F21.binds (ps:=["formula"]) fun _ _ _ _ _ _ us hl=>by obtain ⟨_,rfl⟩:=len_1 hl;rfl
  have F22:=fun_mk (st:=s_told_by_parts) l22 c22 k22
  have b22:=F22.binds (ps:=["row","tell_one"]) fun _ _ _ _ _ _ us hl=>by obtain ⟨_,_,rfl⟩:=len_2 hl;rfl
  have F23:=fun_mk (st:=s_block_shape) l23 c23 k23
  have b23:=F23.binds (ps:=["block"]) fun _ _ _ _ _ _ us hl=>by obtain ⟨_,rfl⟩:=len_1 hl;rfl
  have F24:=fun_mk (st:=s_shown_table) l24 c24 k24
  have b24:=F24.binds (ps:=["block","shows"]) fun _ _ _ _ _ _ us hl=>by obtain ⟨_,_,rfl⟩:=len_2 hl;rfl
  have F25:=fun_mk (st:=s_leaf_table) l25 c25 k25
  have b25:=F25.binds (ps:=["leaf","cell","shows"]) fun _ _ _ _ _ _ us hl=>by obtain ⟨_,_,_,rfl⟩:=len_3 hl;rfl
  have F26:=fun_mk (st:=s_single_value) l26 c26 k26
  have b26:=F26.binds (ps:=["formula","tables","cell","outer"]) fun _ _ _ _ _ _ us hl=>by obtain ⟨_,_,_,_,rfl⟩:=len_4 hl;rfl
  have F27:=fun_mk (st:=s_table_by_parts) l27 c27 k27
  have b27:=F27.binds (ps:=["formula","tables","cell","shows","outer"]) fun _ _ _ _ _ _ us hl=>by obtain ⟨_,_,_,_,_,rfl⟩:=len_5 hl;rfl
  have F28:=fun_mk (st:=s_reckoned) l28 c28 k28
  have b28:=F28.binds (ps:=["opened","cell","shows","outer"]) fun _ _ _ _ _ _ us hl=>by obtain ⟨_,_,_,_,rfl⟩:=len_4 hl;rfl
  have F29:=fun_mk (st:=s__law_lowest) l29 c29 k29
  have b29:=F29.binds (ps:=["_law_top","_law_bottom"]) fun _ _ _ _ _ _ us hl=>by obtain ⟨_,_,rfl⟩:=len_2 hl;rfl
  have F30:=fun_mk (st:=s__law_cell_at) l30 c30 k30
  have b30:=F30.binds (ps:=["_law_script","_law_k"]) fun _ _ _ _ _ _ us hl=>by obtain ⟨_,_,rfl⟩:=len_2 hl;rfl
  have F31:=fun_mk (st:=s__law_pen) l31 c31 k31
  have b31:=F31.binds (ps:=["_law_script"]) fun _ _ _ _ _ _ us hl=>by obtain ⟨_,rfl⟩:=len_1 hl;rfl
  have F32:=fun_mk (st:=s__law_take) l32 c32 k32
  have b32:=F32.binds (ps:=["_law_pen_here","_law_most"]) fun _ _ _ _ _ _ us hl=>by obtain ⟨_,_,rfl⟩:=len_2 hl;rfl
  have F33:=fun_mk (st:=s__law_drawn_cell) l33 c33 k33
  have b33:=F33.binds (ps:=["_law_pen_here"]) fun _ _ _ _ _ _ us hl=>by obtain ⟨_,rfl⟩:=len_1 hl;rfl
  have F34:=fun_mk (st:=s__law_great_value) l34 c34 k34
  have b34:=F34.binds (ps:=["_law_pen_here"]) fun _ _ _ _ _ _ us hl=>by obtain ⟨_,rfl⟩:=len_1 hl;rfl
  have F35:=fun_mk (st:=s__law_drawn_value) l35 c35 k35
  have b35:=F35.binds (ps:=["_law_pen_here"]) fun _ _ _ _ _ _ us hl=>by obtain ⟨_,rfl⟩:=len_1 hl;rfl
  have F36:=fun_mk (st:=s__law_drawn_table) l36 c36 k36
  have b36:=F36.binds (ps:=["_law_pen_here","_law_high","_law_wide"]) fun _ _ _ _ _ _ us hl=>by obtain ⟨_,_,_,rfl⟩:=len_3 hl;rfl
  have F37:=fun_mk (st:=s__law_laid) l37 c37 k37
  have b37:=F37.binds (ps:=["_law_known","_law_sheet","_law_table","_law_high","_law_wide"]) fun _ _ _ _ _ _ us hl=>by obtain ⟨_,_,_,_,_,rfl⟩:=len_5 hl;rfl
  have F38:=fun_mk (st:=s__law_put_down) l38 c38 k38
  have b38:=F38.binds (ps:=["_law_pen_here","_law_known","_law_sheet","_law_table"]) fun _ _ _ _ _ _ us hl=>by obtain ⟨_,_,_,_,rfl⟩:=len_4 hl;rfl
  have F39:=fun_mk (st:=s__law_tabled) l39 c39 k39
  have b39:=F39.binds (ps:=["_law_rows"]) fun _ _ _ _ _ _ us hl=>by obtain ⟨_,rfl⟩:=len_1 hl;rfl
  have F40:=fun_mk (st:=s__law_typed_alike) l40 c40 k40
  have b40:=F40.binds (ps:=["_law_told","_law_due"]) fun _ _ _ _ _ _ us hl=>by obtain ⟨_,_,rfl⟩:=len_2 hl;rfl
  have F41:=fun_mk (st:=s__law_lessened) l41 c41 k41
  have b41:=F41.binds (ps:=["_law_one"]) fun _ _ _ _ _ _ us hl=>by obtain ⟨_,rfl⟩:=len_1 hl;rfl
  have F42:=fun_mk (st:=s__law_dues) l42 c42 k42
  have b42:=F42.binds (ps:=["_law_table","_law_home"]) fun _ _ _ _ _ _ us hl=>by obtain ⟨_,_,rfl⟩:=len_2 hl;rfl
  have F43:=fun_mk (st:=s_law) l43 c43 k43
  have b43:=F43.binds (ps:=["_law_script"]) fun _ _ _ _ _ _ us hl=>by obtain ⟨_,rfl⟩:=len_1 hl;rfl
  have T:Txt w K mg ⟨f0,_,f1,_,f2,_,f3,_,f4,_,f5,_,f6,_,f7,_,f8,_,f9,_,f10,_,f11,_,f12,_,f13,_,f14,_,f15,_,f16,_,f17,_,f18,_,f19,_,f20,_,f21,_,f22,_,f23,_,f24,_,f25,_,f26,_,f27,_,f28,_,f29,_,f30,_,f31,_,f32,_,f33,_,f34,_,f35,_,f36,_,f37,_,f38,_,f39,_,f40,_,f41,_,f42,_,_,_,cc_reckoned,pp_reckoned,cc_law,pp_law⟩:=⟨⟨F0,PySem.W.mg_of X G a0,b0⟩,⟨F1,PySem.W.mg_of X G a1,b1⟩,⟨F2,PySem.W.mg_of X G a2,b2⟩,⟨F3,PySem.W.mg_of X G a3,b3⟩,⟨F4,PySem.W.mg_of X G a4,b4⟩,⟨F5,PySem.W.mg_of X G a5,b5⟩,⟨F6,PySem.W.mg_of X G a6,b6⟩,⟨F7,PySem.W.mg_of X G a7,b7⟩,⟨F8,PySem.W.mg_of X G a8,b8⟩,⟨F9,PySem.W.mg_of X G a9,b9⟩,⟨F10,PySem.W.mg_of X G a10,b10⟩,⟨F11,PySem.W.mg_of X G a11,b11⟩,⟨F12,PySem.W.mg_of X G a12,b12⟩,⟨F13,PySem.W.mg_of X G a13,b13⟩,⟨F14,PySem.W.mg_of X G a14,b14⟩,⟨F15,PySem.W.mg_of X G a15,b15⟩,⟨F16,PySem.W.mg_of X G a16,b16⟩,⟨F17,PySem.W.mg_of X G a17,b17⟩,⟨F18,PySem.W.mg_of X G a18,b18⟩,⟨F19,PySem.W.mg_of X G a19,b19⟩,⟨F20,PySem.W.mg_of X G a20,b20⟩,⟨F21,PySem.W.mg_of X G a21,b21⟩,⟨F22,PySem.W.mg_of X G a22,b22⟩,⟨F23,PySem.W.mg_of X G a23,b23⟩,⟨F24,PySem.W.mg_of X G a24,b24⟩,⟨F25,PySem.W.mg_of X G a25,b25⟩,⟨F26,PySem.W.mg_of X G a26,b26⟩,⟨F27,PySem.W.mg_of X G a27,b27⟩,⟨F28,PySem.W.mg_of X G a28,b28⟩,⟨F29,PySem.W.mg_of X G a29,b29⟩,⟨F30,PySem.W.mg_of X G a30,b30⟩,⟨F31,PySem.W.mg_of X G a31,b31⟩,⟨F32,PySem.W.mg_of X G a32,b32⟩,⟨F33,PySem.W.mg_of X G a33,b33⟩,⟨F34,PySem.W.mg_of X G a34,b34⟩,⟨F35,PySem.W.mg_of X G a35,b35⟩,⟨F36,PySem.W.mg_of X G a36,b36⟩,⟨F37,PySem.W.mg_of X G a37,b37⟩,⟨F38,PySem.W.mg_of X G a38,b38⟩,⟨F39,PySem.W.mg_of X G a39,b39⟩,⟨F40,PySem.W.mg_of X G a40,b40⟩,⟨F41,PySem.W.mg_of X G a41,b41⟩,⟨F42,PySem.W.mg_of X G a42,b42⟩,⟨F43,PySem.W.mg_of X G a43,b43⟩,PySem.W.mg_none_of X G z_len,PySem.W.mg_none_of X G z_range,PySem.W.mg_none_of X G z_isinstance,PySem.W.mg_none_of X G z_int,PySem.W.mg_none_of X G z_bool,PySem.W.mg_none_of X G z_str,PySem.W.mg_none_of X G z_tuple,PySem.W.mg_none_of X G z_list,PySem.W.mg_none_of X G z_reversed,PySem.W.mg_none_of X G z_min,PySem.W.mg_none_of X G z_all,PySem.W.mg_none_of X G z_abs,PySem.W.mg_none_of X G z_enumerate,PySem.W.mg_none_of X G z_zip,PySem.W.mg_none_of X G z_max,(let ⟨k,d,p⟩:=r_PART_PLACES;⟨k,⟨_,PySem.W.mg_of X G g_PART_PLACES,_,h_PART_PLACES,d,n_PART_PLACES⟩,p⟩),⟨_,PySem.W.mg_of X G g_GREATEST_WHOLE,r_GREATEST_WHOLE⟩,kist,kiit,kib,ki_bt,ki_sb,ki_si,code_in F28 a28 t_reckoned,code_in F43 a43 t_law,nn_reckoned_law⟩
  have x_reckoned:PySem.W.CodeHd h cc_reckoned pp_reckoned∧h.get? pp_reckoned=some (PySem.W.tabObj #[]):=by
    obtain ⟨d,hd⟩:=rec_of rr_reckoned
    exact PySem.W.tab_of T0 X hd t_reckoned
  have x_law:PySem.W.CodeHd h cc_law pp_law∧h.get? pp_law=some (PySem.W.tabObj #[]):=by
    obtain ⟨d,hd⟩:=rec_of rr_law
    exact PySem.W.tab_of T0 X hd t_law
  refine ⟨_,[(cc_reckoned,pp_reckoned),(cc_law,pp_law)],spLawT K pp_reckoned pp_law,fun s v=>.of_eq rfl,(List.forall_mem_cons.mpr ⟨x_reckoned,(List.forall_mem_cons.mpr ⟨x_law,List.forall_mem_nil _⟩)⟩),fun H a ns hl hT hS=>⟨a,ns,rfl,hS,hl,hT (cc_reckoned,pp_reckoned) (by simp),hT (cc_law,pp_law) (by simp),fun _=>rfl⟩,fun base _ _ hC hB=>ok_law T hC hB⟩
theorem walk {l:PySem.W.OpenLaw}{q:Program}{loose:List Str}{XP:(Str→Option Value)→Heap→Prop}{YP:World→Heap→Prop}{d:DefRec}{K:Params→PySem.W.Frag}(hn:l.most=some 63)(hdf:d.params.defaults=[])
    (hY:∀ (w:World) (h:Heap),YP w h→(K w.params).In h) (hKT:∀ w:World,PySem.W.noTabs (K w.params)=true)
    (F:∀ (w:World) (mean:ExcName→Option Value) (mg mb:Str→Option Value) (fa:Addr) (h:Heap),(K w.params).In h→PyProof.Rows.Top q (PySem.W.looseW q loose) mean mg mb h→mg d.name=some (.ref fa)→
      ∃ (fd:FuncData) (tabs:List (Addr×Addr)) (sp:Sp),(∀ (s:Shared) (v:Value),BindsTo s fd ⟨[v],[]⟩ [("_law_script",v)])∧PySem.W.TabsAt tabs h∧(∀ (H:Hp) (a:Addr) (ns:List Int),ns.length≤63→(∀ q∈tabs,H q.2=some (.tbl #[]))→SqL (K w.params) H a (ns.map V.int)→sp [.ref a] H (fun v _=>v=.bl true) E0)∧∀ base:Heap,(K w.params).In base→base.Ns mainGlobals mg→(∀ q∈tabs,PySem.W.CodeHd base q.1 q.2)→BM mg base→FnOk l.prog w (K w.params) mg base CX0 14 fa fd ["_law_script"] sp):
    PySem.W.WalkO q loose XP YP l.row.toRowW d [] (fun f vs=>PySem.call f vs):=
  L2.walk_ofT (n:=63) (k:=14) (x:="_law_script") hn (by decide) hdf ⟨rfl,by decide,by decide⟩ hY hKT F
end Fs
open PySem PySem.W PyProof.Rows
set_option maxRecDepth 100000 in
set_option maxHeartbeats 0 in
theorem PySem.Challenge.cw_freshsheet_k32_sums_counts_ends_holds : PySem.Challenge.rw_freshsheet_k32_sums_counts_ends.Holds := by
  w_on;o_law
  refine holds_open (r:=OpenLaw.row PySem.Challenge.rw_freshsheet_k32_sums_counts_ends) (q:=Hw.qv) (loose:=Hw.lo) (Xt:=Hw.Xv) (XP:=XL Hw.qv []) (Yf:=Hook.obs (kHook Hw.pack.heap_1 Hw.hAs Hw.hAs_eq)) (Ya:=Hook.val (kHook Hw.pack.heap_1 Hw.hAs Hw.hAs_eq)) (YP:=Hook.says (kHook Hw.pack.heap_1 Hw.hAs Hw.hAs_eq)) (N:=Hw.N0) Hw.left (Hook.of (kHook Hw.pack.heap_1 Hw.hAs Hw.hAs_eq)) (Hook.keeps (kHook Hw.pack.heap_1 Hw.hAs Hw.hAs_eq)) (fun s e=>xl_of s (Bool.and_eq_true_iff.mp e).1) XL.keeps (by rfl) (by rfl) (by rfl) (fun s e=>recFacts_of (Bool.and_eq_true_iff.mp e).2) (by rfl) (by first | assumption | decide +kernel) (by decide +kernel) ⟨rfl,rfl,rfl,rfl,rfl,by decide +kernel⟩ ?hw ?hc
  case hw=>w_witness2
  k_fill
  refine Fs.walk (l:=PySem.Challenge.rw_freshsheet_k32_sums_counts_ends) rfl rfl (fun w h Y=>PySem.W.kIn_of Y) (fun w=>by kernel_rfl) ?F
  case F=>
    intro w mean mg mb fa h KX T0 hmg
    refine' Fs.all_mk KX T0 hmg ?a0 ?l0 ?c0 ?k0 ?a1 ?l1 ?c1 ?k1 ?a2 ?l2 ?c2 ?k2 ?a3 ?l3 ?c3 ?k3 ?a4 ?l4 ?c4 ?k4 ?a5 ?l5 ?c5 ?k5 ?a6 ?l6 ?c6 ?k6 ?a7 ?l7 ?c7 ?k7 ?a8 ?l8 ?c8 ?k8 ?a9 ?l9 ?c9 ?k9 ?a10 ?l10 ?c10 ?k10 ?a11 ?l11 ?c11 ?k11 ?a12 ?l12 ?c12 ?k12 ?a13 ?l13 ?c13 ?k13 ?a14 ?l14 ?c14 ?k14 ?a15 ?l15 ?c15 ?k15 ?a16 ?l16 ?c16 ?k16 ?a17 ?l17 ?c17 ?k17 ?a18 ?l18 ?c18 ?k18 ?a19 ?l19 ?c19 ?k19 ?a20 ?l20 ?c20 ?k20 ?a21 ?l21 ?c21 ?k21 ?a22 ?l22 ?c22 ?k22 ?a23 ?l23 ?c23 ?k23 ?a24 ?l24 ?c24 ?k24 ?a25 ?l25 ?c25 ?k25 ?a26 ?l26 ?c26 ?k26 ?a27 ?l27 ?c27 ?k27 ?a28 ?l28 ?c28 ?k28 ?a29 ?l29 ?c29 ?k29 ?a30 ?l30 ?c30 ?k30 ?a31 ?l31 ?c31 ?k31 ?a32 ?l32 ?c32 ?k32 ?a33 ?l33 ?c33 ?k33 ?a34 ?l34 ?c34 ?k34 ?a35 ?l35 ?c35 ?k35 ?a36 ?l36 ?c36 ?k36 ?a37 ?l37 ?c37 ?k37 ?a38 ?l38 ?c38 ?k38 ?a39 ?l39 ?c39 ?k39 ?a40 ?l40 ?c40 ?k40 ?a41 ?l41 ?c41 ?k41 ?a42 ?l42 ?c42 ?k42 ?a43 ?l43 ?c43 ?k43 ?z_len ?z_range ?z_isinstance ?z_int ?z_bool ?z_str ?z_tuple ?z_list ?z_reversed ?z_min ?z_all ?z_abs ?z_enumerate ?z_zip ?z_max ?g_PART_PLACES ?h_PART_PLACES ?r_PART_PLACES ?n_PART_PLACES ?g_GREATEST_WHOLE ?r_GREATEST_WHOLE ?kist ?kiit ?kib ?ki_bt ?ki_sb ?ki_si ?t_reckoned ?rr_reckoned ?t_law ?rr_law ?nn_reckoned_law
    (case a0=>k_is)
    (case l0=>k_is)
    (case c0=>k_is)
    (case k0=>k_is)
    (case a1=>k_is)
    (case l1=>k_is)
    (case c1=>k_is)
    (case k1=>k_is)
    (case a2=>k_is)
    (case l2=>k_is)
    (case c2=>k_is)
    (case k2=>k_is)
    (case a3=>k_is)
    (case l3=>k_is)
    (case c3=>k_is)
    (case k3=>k_is)
    (case a4=>k_is)
    (case l4=>k_is)
    (case c4=>k_is)
    (case k4=>k_is)
    (case a5=>k_is)
    (case l5=>k_is)
    (case c5=>k_is)
    (case k5=>k_is)
    (case a6=>k_is)
    (case l6=>k_is)
    (case c6=>k_is)
    (case k6=>k_is)
    (case a7=>k_is)
    (case l7=>k_is)
    (case c7=>k_is)
    (case k7=>k_is)
    (case a8=>k_is)
    (case l8=>k_is)
    (case c8=>k_is)
    (case k8=>k_is)
    (case a9=>k_is)
    (case l9=>k_is)
    (case c9=>k_is)
    (case k9=>k_is)
    (case a10=>k_is)
    (case l10=>k_is)
    (case c10=>k_is)
    (case k10=>k_is)
    (case a11=>k_is)
    (case l11=>k_is)
    (case c11=>k_is)
    (case k11=>k_is)
    (case a12=>k_is)
    (case l12=>k_is)
    (case c12=>k_is)
    (case k12=>k_is)
    (case a13=>k_is)
    (case l13=>k_is)
    (case c13=>k_is)
    (case k13=>k_is)
    (case a14=>k_is)
    (case l14=>k_is)
    (case c14=>k_is)
    (case k14=>k_is)
    (case a15=>k_is)
    (case l15=>k_is)
    (case c15=>k_is)
    (case k15=>k_is)
    (case a16=>k_is)
    (case l16=>k_is)
    (case c16=>k_is)
    (case k16=>k_is)
    (case a17=>k_is)
    (case l17=>k_is)
    (case c17=>k_is)
    (case k17=>k_is)
    (case a18=>k_is)
    (case l18=>k_is)
    (case c18=>k_is)
    (case k18=>k_is)
    (case a19=>k_is)
    (case l19=>k_is)
    (case c19=>k_is)
    (case k19=>k_is)
    (case a20=>k_is)
    (case l20=>k_is)
    (case c20=>k_is)
    (case k20=>k_is)
    (case a21=>k_is)
    (case l21=>k_is)
    (case c21=>k_is)
    (case k21=>k_is)
    (case a22=>k_is)
    (case l22=>k_is)
    (case c22=>k_is)
    (case k22=>k_is)
    (case a23=>k_is)
    (case l23=>k_is)
    (case c23=>k_is)
    (case k23=>k_is)
    (case a24=>k_is)
    (case l24=>k_is)
    (case c24=>k_is)
    (case k24=>k_is)
    (case a25=>k_is)
    (case l25=>k_is)
    (case c25=>k_is)
    (case k25=>k_is)
    (case a26=>k_is)
    (case l26=>k_is)
    (case c26=>k_is)
    (case k26=>k_is)
    (case a27=>k_is)
    (case l27=>k_is)
    (case c27=>k_is)
    (case k27=>k_is)
    (case a28=>k_is)
    (case l28=>k_is)
    (case c28=>k_is)
    (case k28=>k_is)
    (case a29=>k_is)
    (case l29=>k_is)
    (case c29=>k_is)
    (case k29=>k_is)
    (case a30=>k_is)
    (case l30=>k_is)
    (case c30=>k_is)
    (case k30=>k_is)
    (case a31=>k_is)
    (case l31=>k_is)
    (case c31=>k_is)
    (case k31=>k_is)
    (case a32=>k_is)
    (case l32=>k_is)
    (case c32=>k_is)
    (case k32=>k_is)
    (case a33=>k_is)
    (case l33=>k_is)
    (case c33=>k_is)
    (case k33=>k_is)
    (case a34=>k_is)
    (case l34=>k_is)
    (case c34=>k_is)
    (case k34=>k_is)
    (case a35=>k_is)
    (case l35=>k_is)
    (case c35=>k_is)
    (case k35=>k_is)
    (case a36=>k_is)
    (case l36=>k_is)
    (case c36=>k_is)
    (case k36=>k_is)
    (case a37=>k_is)
    (case l37=>k_is)
    (case c37=>k_is)
    (case k37=>k_is)
    (case a38=>k_is)
    (case l38=>k_is)
    (case c38=>k_is)
    (case k38=>k_is)
    (case a39=>k_is)
    (case l39=>k_is)
    (case c39=>k_is)
    (case k39=>k_is)
    (case a40=>k_is)
    (case l40=>k_is)
    (case c40=>k_is)
    (case k40=>k_is)
    (case a41=>k_is)
    (case l41=>k_is)
    (case c41=>k_is)
    (case k41=>k_is)
    (case a42=>k_is)
    (case l42=>k_is)
    (case c42=>k_is)
    (case k42=>k_is)
    (case a43=>k_is)
    (case l43=>k_is)
    (case c43=>k_is)
    (case k43=>k_is)
    (case z_len=>k_is)
    (case z_range=>k_is)
    (case z_isinstance=>k_is)
    (case z_int=>k_is)
    (case z_bool=>k_is)
    (case z_str=>k_is)
    (case z_tuple=>k_is)
    (case z_list=>k_is)
    (case z_reversed=>k_is)
    (case z_min=>k_is)
    (case z_all=>k_is)
    (case z_abs=>k_is)
    (case z_enumerate=>k_is)
    (case z_zip=>k_is)
    (case z_max=>k_is)
    (case g_PART_PLACES=>k_is)
    (case h_PART_PLACES=>k_is)
    (case r_PART_PLACES=>exact ⟨[(Sum.inr (Str.ofString "op"),L2.V.ref _),(Sum.inr (Str.ofString "neg"),L2.V.ref _),(Sum.inr (Str.ofString "if"),L2.V.ref _),(Sum.inr (Str.ofString "sum"),L2.V.ref _),(Sum.inr (Str.ofString "count"),L2.V.ref _),(Sum.inr (Str.ofString "least"),L2.V.ref _),(Sum.inr (Str.ofString "most"),L2.V.ref _),(Sum.inr (Str.ofString "sumif"),L2.V.ref _),(Sum.inr (Str.ofString "find"),L2.V.ref _),(Sum.inr (Str.ofString "turn"),L2.V.ref _),(Sum.inr (Str.ofString "stack"),L2.V.ref _),(Sum.inr (Str.ofString "grid"),L2.V.ref _),(Sum.inr (Str.ofString "outer"),L2.V.ref _)],⟨⟨rfl,rfl,rfl⟩,_,_,rfl,.cons ⟨rfl,rfl,rfl⟩ (.cons ⟨rfl,rfl,rfl⟩ (.cons ⟨rfl,rfl,rfl⟩ (.cons ⟨rfl,rfl,rfl⟩ (.cons ⟨rfl,rfl,rfl⟩ (.cons ⟨rfl,rfl,rfl⟩ (.cons ⟨rfl,rfl,rfl⟩ (.cons ⟨rfl,rfl,rfl⟩ (.cons ⟨rfl,rfl,rfl⟩ (.cons ⟨rfl,rfl,rfl⟩ (.cons ⟨rfl,rfl,rfl⟩ (.cons ⟨rfl,rfl,rfl⟩ (.cons ⟨rfl,rfl,rfl⟩ (.nil))))))))))))),by decide⟩,.cons ⟨rfl,_,rfl,fun _=>.inr ⟨_,_,_,(by k_is),rfl,rfl,by decide,.cons ⟨_,rfl⟩ (.cons ⟨_,rfl⟩ (.nil))⟩⟩ (.cons ⟨rfl,_,rfl,fun _=>.inr ⟨_,_,_,(by k_is),rfl,rfl,by decide,.cons ⟨_,rfl⟩ (.nil)⟩⟩ (.cons ⟨rfl,_,rfl,fun _=>.inr ⟨_,_,_,(by k_is),rfl,rfl,by decide,.cons ⟨_,rfl⟩ (.cons ⟨_,rfl⟩ (.cons ⟨_,rfl⟩ (.nil)))⟩⟩ (.cons ⟨rfl,_,rfl,fun _=>.inr ⟨_,_,_,(by k_is),rfl,rfl,by decide,.cons ⟨_,rfl⟩ (.nil)⟩⟩ (.cons ⟨rfl,_,rfl,fun _=>.inr ⟨_,_,_,(by k_is),rfl,rfl,by decide,.cons ⟨_,rfl⟩ (.nil)⟩⟩ (.cons ⟨rfl,_,rfl,fun _=>.inr ⟨_,_,_,(by k_is),rfl,rfl,by decide,.cons ⟨_,rfl⟩ (.nil)⟩⟩ (.cons ⟨rfl,_,rfl,fun _=>.inr ⟨_,_,_,(by k_is),rfl,rfl,by decide,.cons ⟨_,rfl⟩ (.nil)⟩⟩ (.cons ⟨rfl,_,rfl,fun _=>.inr ⟨_,_,_,(by k_is),rfl,rfl,by decide,.cons ⟨_,rfl⟩ (.cons ⟨_,rfl⟩ (.cons ⟨_,rfl⟩ (.nil)))⟩⟩ (.cons ⟨rfl,_,rfl,fun _=>.inr ⟨_,_,_,(by k_is),rfl,rfl,by decide,.cons ⟨_,rfl⟩ (.cons ⟨_,rfl⟩ (.cons ⟨_,rfl⟩ (.nil)))⟩⟩ (.cons ⟨rfl,_,rfl,fun _=>.inr ⟨_,_,_,(by k_is),rfl,rfl,by decide,.cons ⟨_,rfl⟩ (.nil)⟩⟩ (.cons ⟨rfl,_,rfl,fun _=>.inr ⟨_,_,_,(by k_is),rfl,rfl,by decide,.cons ⟨_,rfl⟩ (.cons ⟨_,rfl⟩ (.nil))⟩⟩ (.cons ⟨rfl,_,rfl,fun _=>.inr ⟨_,_,_,(by k_is),rfl,rfl,by decide,.cons ⟨_,rfl⟩ (.cons ⟨_,rfl⟩ (.nil))⟩⟩ (.cons ⟨rfl,_,rfl,fun _=>.inr ⟨_,_,_,(by k_is),rfl,rfl,by decide,.cons ⟨_,rfl⟩ (.nil)⟩⟩ (.nil)))))))))))))⟩)
    (case n_PART_PLACES=>decide)
    (case g_GREATEST_WHOLE=>k_is)
    (case r_GREATEST_WHOLE=>first | exact ⟨_,rfl⟩ | exact ⟨_,by decide +kernel⟩)
    (case kist=>kit_is)
    (case kiit=>kit_is)
    (case kib=>kit_is)
    (case ki_bt=>kit_is)
    (case ki_sb=>kit_is)
    (case ki_si=>kit_is)
    (case t_reckoned=>exact (show PySem.W.tabIn _ _=some (416,412) by kernel_rfl))
    (case rr_reckoned=>decide +kernel)
    (case t_law=>exact (show PySem.W.tabIn _ _=some (513,511) by kernel_rfl))
    (case rr_law=>decide +kernel)
    (case nn_reckoned_law=>decide +kernel)
