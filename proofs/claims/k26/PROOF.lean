import PyProof.Rows.All
import Wide.All
import OpenK.AllK
import Wide.FinOn
import Lean
import PyProof.EqAt
import PyProof.EqKinds
import PyProof.TupleCall
import PySem.Challenge.RW_freshsheet_k26_no_books
set_option Elab.async false
set_option linter.all false
set_option maxRecDepth 100000
set_option maxHeartbeats 4000000
namespace Hw
open PySem PySem.W PyProof.Rows PySem.Calls
def topRunT (tb:String→Option Builtin)(p:Program)(w:World)(n₀:Nat)(ann:Option Value):Nat→SharedT→Thread→Option SharedT
 | 0,_,_=>none
 | n+1,s,t=>match through t with
  | true=>some s
  | false=>match stepOk n₀ ann t with
   | false=>none
   | true=>match stepT (denote tb) p w s t with
    | some (s',t')=>topRunT tb p w n₀ ann n s' t'
    | none=>none
theorem topRun_ofT {tb:String→Option Builtin}{p:Program}{w:World}{n₀:Nat}{ann:Option Value}:∀{n:Nat} {s s':SharedT} {t:Thread},topRunT tb p w n₀ ann n s t=some s'→topRun tb p w n₀ ann n s.abs t=some s'.abs
 | 0,_,_,_,h=>by cases h
 | n+1,s,s',t,h=>by
  unfold topRunT at h
  unfold topRun
  cases he:through t with
  | true=>rw[he]at h;cases h;rfl
  | false=>
   rw[he]at h
   cases hk:stepOk n₀ ann t with
   | false=>rw[hk]at h;cases h
   | true=>
    rw[hk]at h
    cases hs:stepT (denote tb) p w s t with
    | none=>rw[hs]at h;cases h
    | some r=>obtain⟨s₂,t₂⟩:=r;rw[hs]at h;rw[stepT_spec hs];exact topRun_ofT h
def toBT:List Obj→Nat→BT→BT
 | [],_,t=>t
 | o::r,n,t=>toBT r (n+1) (t.ins n o)
noncomputable def bootT (P:Params):BT:=toBT (boot_heap P).objs.toList 0 .nil
noncomputable def bootS (w:World)(os:OsState):SharedT:=⟨bootT w.params,(boot_heap w.params).objs.size,(boot_heap w.params).life,Array.mk [],boot_drawn,boot_toks,os⟩
theorem bootT_abs (P:Params):absHeap (bootT P) (boot_heap P).objs.size (boot_heap P).life=boot_heap P:=by kernel_rfl
theorem boot_size (w:World):((boot_heap w.params).isNs mainGlobals&&(Array.mk []:Array GenState).size==0,(boot_heap w.params).objs.size,(boot_heap w.params).nsMap mainGlobals "__annotations__")=(true,11,some (.ref 6)):=by kernel_rfl
noncomputable def tops (p:Program)(N:Nat)(w:World)(os:OsState):Option SharedT:=topRunT treeTable p w 11 (some (.ref 6)) N (bootS w os) (topStub p)
def look1 (p:Program)(h:Heap)(s:Shared):Bool:=staticsOk (importedModules p.main.body) h s.heap&&namesBound p s.heap&&gensDone s&&laidKept h s.heap
def look3 (q:Program)(loose mods:List Str)(Xt:Shared→Bool)(g0:Bool)(s:Shared):Bool:=(openSeen q loose mods Xt g0 s).2.2.1
theorem left_whole {p q:Program}{loose:List Str}{Xt:Shared→Bool}{α:Type}{Yf:Shared→α}{Ya:World→α}{N:Nat}{g0:Bool}
 (e:opening p=plainProg p.main.scope.names) (hN:Nat.ble 600 N=true) (f:∀ s,fenceModules? p s=some s)
 (run1:∀(w:World) (os:OsState),(tops p N w os).map (fun s=>(look1 p (boot_heap w.params) s.abs,s.abs.heap.bltView,tabsOk q s.abs))=some (true,bltViewBooted,true))
 (run2:∀(w:World) (os:OsState),(tops p N w os).map (fun s=>seen ((recsOf q).map (·.name)) (ownsOf q) [] { s.abs with gens:=#[] })=some (expectedOf q))
 (run3:∀(w:World) (os:OsState),(tops p N w os).map (fun s=>look3 q loose (importedModules p.main.body) Xt g0 s.abs)=some true)
 (run4:∀(w:World) (os:OsState),(tops p N w os).map (fun s=>(pinSeenD q (drecsOf q) s.abs,plainSeenE q (looseW q loose) s.abs,plainSeenD q loose s.abs,wideSeen q s.abs,clsSeenW q loose s.abs))=some (pinGoodD (drecsOf q),plainGoodE q (looseW q loose),plainGoodD q loose,wideGood q,clsGoodW q loose))
 (run5:∀(w:World) (os:OsState),(tops p N w os).map (fun s=>Yf s.abs)=some (Ya w)):LeftO p q loose Xt Yf Ya N g0:=fun w=>by
 obtain⟨⟨h,gs,d,k,os⟩,e1,e'⟩:=Option.map_eq_some_iff.mp (boot_open e hN f w)
 obtain⟨rfl,rfl,rfl,rfl⟩:h=boot_heap w.params∧gs=Array.mk []∧d=boot_drawn∧k=boot_toks:=by simpa using e'
 obtain⟨z1,z2,z3⟩:_∧_∧_:=by simpa only[Prod.mk.injEq]using boot_size w
 obtain⟨s',hs,l1⟩:=Option.map_eq_some_iff.mp (run1 w os)
 have l2:=run2 w os
 have l3:=run3 w os
 have l4:=run4 w os
 have l5:=run5 w os
 rw[hs]at l2 l3 l4 l5
 replace l2:=Option.some.inj l2
 replace l3:=Option.some.inj l3
 replace l4:=Option.some.inj l4
 replace l5:=Option.some.inj l5
 dsimp only at l1 l2 l3 l4 l5
 obtain⟨l1,l6,l7⟩:_∧_∧_:=by simpa only[Prod.mk.injEq]using l1
 have l8:openSeen q loose (importedModules p.main.body) Xt g0 s'.abs=openGood q loose:=Prod.ext l2 (Prod.ext l6 (Prod.ext l3 (Prod.ext l7 l4)))
 have r:=topRun_ofT hs
 have hb:(bootS w os).abs=⟨boot_heap w.params,Array.mk [],boot_drawn,boot_toks,os⟩:=by
  show Shared.mk _ _ _ _ _=_
  rw[show absHeap (bootS w os).tree (bootS w os).n (bootS w os).life=boot_heap w.params from bootT_abs w.params]
  rfl
 rw[hb]at r
 have t:topFrom treeTable p w N ⟨boot_heap w.params,Array.mk [],boot_drawn,boot_toks,os⟩=some s'.abs:=by
  unfold topFrom
  dsimp only
  rw[z1,z2,z3,r]
  show(match look1 p (boot_heap w.params) s'.abs with | true=>some s'.abs | false=>none)=_
  rw[l1]
 unfold openEnds
 rw[e1]
 show(topFrom treeTable p w N _).map _=_
 rw[t]
 exact congrArg some (Prod.ext l8 l5)
abbrev pw:=PySem.Challenge.pw_freshsheet_k26_no_books
abbrev lw:=PySem.Challenge.rw_freshsheet_k26_no_books
section
local macro_rules | `(tactic| o_head $H)=>do let f:=Lean.mkIdent `foo;`(tactic| exact $f $H)
theorem pack (foo:PySem.W.Hook→(OpenLaw.row lw).Holds):(OpenLaw.row lw).Holds:=by k_head
end
def _root_.PySem.W.Fast.tw6632488160990740624:Program:=pw
theorem _root_.PySem.W.Fast.te6632488160990740624:PySem.Challenge.pw_freshsheet_k26_no_books=PySem.W.Fast.tw6632488160990740624:=rfl
def hAs:List Addr:=[2,3,15,22,23,24,25,28,35,36,37,40,47,48,49,52,59,60,61,64,71,72,73,76,83,84,85,88,95,96,97,100,107,108,109,112,119,120,121,124,131,133,134,136,137,138,139,140,143,145,146,148,149,150,152,153,155,156,157,159,160,162,163,164,167,168,169,171,172,174,175,176,178,179,181,182,183,184,186,187,189,190,191,193,194,196,197,198,201,202,203,205,206,208,209,210,212,213,215,216,217,218,219,220,222,223,224,225,226,227,228,229,230,231,232,233,234,235,236,239,240,241,243,244,246,247,248,250,251,253,254,255,257,258,260,261,262,264,265,267,268,269,271,272,274,275,276,278,279,281,282,283,285,286,288,289,290,292,293,295,296,297,299,300,302,303,304,306,307,309,310,311,313,314,316,317,318,320,321,323,324,325,328,329,330,332,333,335,336,337,339,340,342,343,344,346,347,349,350,351,353,354,356,357,358,360,361,363,364,365,368,369,370,372,373,375,376,377,379,380,382,383,384,386,387,389,390,391,393,394,396,397,398,401,402,403,406,407,408,411,412,413,416,417,418,421,422,423,425,426,428,429,430,432,433,435,436,437,439,440,442,443,444,446,447,449,450,451,453,454,456,457,458,460,461,463,464,465,467,468,470,471,472,474,475,477,478,479,481,482,484,485,486,488,489,491,492,493,495,496,498,499,500,502,503,505,506,507,509,510,512,513,514,516,517,519,520,521,523,524,526,527,528,530,531,533,534,535,537,538,540,541,542,545,546,547,550,551,552,555,556,557,559,560,562,563,564,566,567,569,570,571,574,575]
theorem hAs_eq:∀ P,hAs=(pack.heap_1 P).map (·.1):=fun _=>by kernel_rfl
def qv:Program:=view pw [1,2,3,4,5,6,7,8,9,10,12,13,14,16,17,18,19,20,21,22,24,25,26,27,28,29,30,31,32,34,35,36,37,38,39,40,41,42,43,44,45,46,47,48,49,50,51,52,53,54,55,56,57,58,60,61,62,63,64,65,66,67,68,69,70,71,72,73,74,75,76,77,78,79,80,82,83,84,85,86,87,88,89,90,91,92,93,94,95,96,97,98,99,100,101,102]
def Xv:Shared→Bool:=fun s=>xlAt qv [] s&&recOk (RowW.records (OpenRow.toRowW (OpenLaw.row lw))) s
abbrev N0:Nat:=6000
abbrev lo:List PySem.Str:=[PySem.Str.ofString "LENGTHS",PySem.Str.ofString "PART_PLACES"]
noncomputable def lhs1 (w:World)(os:OsState):=(tops pw N0 w os).map (fun s=>(look1 pw (boot_heap w.params) s.abs,s.abs.heap.bltView,tabsOk qv s.abs))
theorem lhs1_self:lhs1=lhs1:=rfl
name_quick hw1 for Hw.lhs1 by Hw.lhs1_self
set_option maxHeartbeats 0 in
theorem run1f:∀(w:World) (os:OsState),PySem.W.Fast.hw1 (w.withFollow "special-get-raises" false) os=some (true,bltViewBooted,true):=by
 intro w os
 kernel_rfl
set_option maxHeartbeats 0 in
theorem run1t:∀(w:World) (os:OsState),PySem.W.Fast.hw1 (w.withFollow "special-get-raises" true) os=some (true,bltViewBooted,true):=by
 intro w os
 kernel_rfl
theorem run1:∀ w os,PySem.W.Fast.hw1 w os=some (true,bltViewBooted,true):=fun w=>PySem.W.byRow2 "special-get-raises" (P:=fun w=>∀ os,PySem.W.Fast.hw1 w os=some (true,bltViewBooted,true)) run1f run1t w
noncomputable def lhs2 (w:World)(os:OsState):=(tops pw N0 w os).map (fun s=>seen ((recsOf qv).map (·.name)) (ownsOf qv) [] { s.abs with gens:=#[] })
theorem lhs2_self:lhs2=lhs2:=rfl
name_quick hw2 for Hw.lhs2 by Hw.lhs2_self
noncomputable def rhs2:=expectedOf qv
theorem rhs2_self:rhs2=rhs2:=rfl
name_quick hg2 for Hw.rhs2 by Hw.rhs2_self
set_option maxHeartbeats 0 in
theorem run2f:∀(w:World) (os:OsState),PySem.W.Fast.hw2 (w.withFollow "special-get-raises" false) os=some (PySem.W.Fast.hg2):=by
 intro w os
 kernel_rfl
set_option maxHeartbeats 0 in
theorem run2t:∀(w:World) (os:OsState),PySem.W.Fast.hw2 (w.withFollow "special-get-raises" true) os=some (PySem.W.Fast.hg2):=by
 intro w os
 kernel_rfl
theorem run2:∀ w os,PySem.W.Fast.hw2 w os=some (PySem.W.Fast.hg2):=fun w=>PySem.W.byRow2 "special-get-raises" (P:=fun w=>∀ os,PySem.W.Fast.hw2 w os=some (PySem.W.Fast.hg2)) run2f run2t w
noncomputable def lhs3 (w:World)(os:OsState):=(tops pw N0 w os).map (fun s=>look3 qv lo (importedModules pw.main.body) Xv true s.abs)
theorem lhs3_self:lhs3=lhs3:=rfl
name_quick hw3 for Hw.lhs3 by Hw.lhs3_self
set_option maxHeartbeats 0 in
theorem run3f:∀(w:World) (os:OsState),PySem.W.Fast.hw3 (w.withFollow "special-get-raises" false) os=some (true):=by
 intro w os
 kernel_rfl
set_option maxHeartbeats 0 in
theorem run3t:∀(w:World) (os:OsState),PySem.W.Fast.hw3 (w.withFollow "special-get-raises" true) os=some (true):=by
 intro w os
 kernel_rfl
theorem run3:∀ w os,PySem.W.Fast.hw3 w os=some (true):=fun w=>PySem.W.byRow2 "special-get-raises" (P:=fun w=>∀ os,PySem.W.Fast.hw3 w os=some (true)) run3f run3t w
noncomputable def lhs4 (w:World)(os:OsState):=(tops pw N0 w os).map (fun s=>(pinSeenD qv (drecsOf qv) s.abs,plainSeenE qv (looseW qv lo) s.abs,plainSeenD qv lo s.abs,wideSeen qv s.abs,clsSeenW qv lo s.abs))
theorem lhs4_self:lhs4=lhs4:=rfl
name_quick hw4 for Hw.lhs4 by Hw.lhs4_self
noncomputable def rhs4:=(pinGoodD (drecsOf qv),plainGoodE qv (looseW qv lo),plainGoodD qv lo,wideGood qv,clsGoodW qv lo)
theorem rhs4_self:rhs4=rhs4:=rfl
name_quick hg4 for Hw.rhs4 by Hw.rhs4_self
set_option maxHeartbeats 0 in
theorem run4f:∀(w:World) (os:OsState),PySem.W.Fast.hw4 (w.withFollow "special-get-raises" false) os=some (PySem.W.Fast.hg4):=by
 intro w os
 kernel_rfl
set_option maxHeartbeats 0 in
theorem run4t:∀(w:World) (os:OsState),PySem.W.Fast.hw4 (w.withFollow "special-get-raises" true) os=some (PySem.W.Fast.hg4):=by
 intro w os
 kernel_rfl
theorem run4:∀ w os,PySem.W.Fast.hw4 w os=some (PySem.W.Fast.hg4):=fun w=>PySem.W.byRow2 "special-get-raises" (P:=fun w=>∀ os,PySem.W.Fast.hw4 w os=some (PySem.W.Fast.hg4)) run4f run4t w
noncomputable def lhs5 (w:World)(os:OsState):=(tops pw N0 w os).map (fun s=>hAs.map s.abs.heap.get?)
theorem lhs5_self:lhs5=lhs5:=rfl
name_quick hw5 for Hw.lhs5 by Hw.lhs5_self
set_option maxHeartbeats 0 in
theorem run5f:∀(w:World) (os:OsState),PySem.W.Fast.hw5 (w.withFollow "special-get-raises" false) os=some ((pack.heap_1 (w.withFollow "special-get-raises" false).params).map fun p=>some p.2):=by
 intro w os
 kernel_rfl
set_option maxHeartbeats 0 in
theorem run5t:∀(w:World) (os:OsState),PySem.W.Fast.hw5 (w.withFollow "special-get-raises" true) os=some ((pack.heap_1 (w.withFollow "special-get-raises" true).params).map fun p=>some p.2):=by
 intro w os
 kernel_rfl
theorem run5:∀ w os,PySem.W.Fast.hw5 w os=some ((pack.heap_1 w.params).map fun p=>some p.2):=fun w=>PySem.W.byRow2 "special-get-raises" (P:=fun w=>∀ os,PySem.W.Fast.hw5 w os=some ((pack.heap_1 w.params).map fun p=>some p.2)) run5f run5t w
theorem q_open:opening pw=plainProg pw.main.scope.names:=by kernel_rfl
theorem q_fence:∀ s,fenceModules? pw s=some s:=fun s=>by kernel_rfl
theorem left:LeftO pw qv lo Xv (Hook.obs (kHook pack.heap_1 hAs hAs_eq)) (Hook.val (kHook pack.heap_1 hAs hAs_eq)) N0 true:=
 left_whole q_open rfl q_fence (fun w os=>(congrFun (congrFun PySem.W.Fast.hw1_eq w) os).trans (run1 w os))
  (fun w os=>((congrFun (congrFun PySem.W.Fast.hw2_eq w) os).trans (run2 w os)).trans (congrArg some PySem.W.Fast.hg2_eq.symm))
  (fun w os=>(congrFun (congrFun PySem.W.Fast.hw3_eq w) os).trans (run3 w os))
  (fun w os=>((congrFun (congrFun PySem.W.Fast.hw4_eq w) os).trans (run4 w os)).trans (congrArg some PySem.W.Fast.hg4_eq.symm))
  (fun w os=>(congrFun (congrFun PySem.W.Fast.hw5_eq w) os).trans (run5 w os))
end Hw
set_option Elab.async false
set_option linter.all false
set_option maxRecDepth 100000
local macro_rules | `(tactic| omega) => `(tactic| lia)
local macro_rules | `(tactic| nofun) => `(tactic| decide +kernel)
namespace L2
open PySem PySem.Spec PyProof.Rows
abbrev BY:=Sum Int Str
def Hn:BY→Value→Bool
 | .inl k,v=>Value.isInt k v
 | .inr x,v=>Value.isStrOf x v
def VA (w:World):BY→Int
 | .inl k=>hashInt k
 | .inr x=>hashStr w x
theorem Bj:∀{k:BY} {v:Value},Hn k v=true→(∃ i t,k=Sum.inl i∧v=Value.int i t)∨(∃ x t,k=Sum.inr x∧v=Value.str x t)
 | .inl i,v,h=>by
  obtain⟨t,e⟩:=Value.isInt_shape (k:=i) (v:=v) h
  exact .inl ⟨i,t,rfl,e⟩
 | .inr x,v,h=>by
  obtain⟨t,e⟩:=Value.isStrOf_shape (x:=x) (v:=v) h
  exact .inr ⟨x,t,rfl,e⟩
theorem OI (i:Int)(t:Tok):Hn (.inl i) (.int i t)=true:=by simp[Hn,Value.isInt]
theorem OJ (x:Str)(t:Tok):Hn (.inr x) (.str x t)=true:=by simp[Hn,Value.isStrOf]
theorem TR (a b:Int):decide ((Sum.inl a:BY)=Sum.inl b)=(a==b):=by
 by_cases e:a=b
 ·subst e;simp
 ·have h:¬ (Sum.inl a:BY)=Sum.inl b:=fun q=>e (Sum.inl.inj q)
  rw[decide_eq_false h]
  exact(beq_eq_false_iff_ne.mpr e).symm
theorem TV (a b:Str):decide ((Sum.inr a:BY)=Sum.inr b)=decide (a=b):=by
 by_cases e:a=b
 ·subst e;simp
 ·have h:¬ (Sum.inr a:BY)=Sum.inr b:=fun q=>e (Sum.inr.inj q)
  rw[decide_eq_false h,decide_eq_false e]
theorem TW (a:Int)(b:Str):decide ((Sum.inl a:BY)=Sum.inr b)=false:=decide_eq_false (fun q=>nomatch q)
theorem TX (a:Str)(b:Int):decide ((Sum.inr a:BY)=Sum.inl b)=false:=decide_eq_false (fun q=>nomatch q)
def Bf (prog:Program)(w:World):PySem.KeyKind prog w BY where
 is:=Hn
 hash:=VA w
 inj:=fun v a b ha hb=>by
  rcases Bj ha with⟨i,t,rfl,rfl⟩ | ⟨x,t,rfl,rfl⟩
  ·rcases Bj hb with⟨j,u,rfl,e⟩ | ⟨y,u,rfl,e⟩
   ·injection e with e1 _;rw[e1]
   ·exact nomatch e
  ·rcases Bj hb with⟨j,u,rfl,e⟩ | ⟨y,u,rfl,e⟩
   ·exact nomatch e
   ·injection e with e1 _;rw[e1]
 byValue:=fun k v h=>by
  rcases Bj h with⟨i,t,rfl,rfl⟩ | ⟨x,t,rfl,rfl⟩ <;> rfl
 pyHash:=fun hv h=>by
  rcases Bj hv with⟨i,t,rfl,rfl⟩ | ⟨x,t,rfl,rfl⟩
  ·exact wpAny_pyHash_int h
  ·exact wpAny_pyHash_str h
 eqBool:=fun hu hv h=>by
  rcases Bj hu with⟨i,t,rfl,rfl⟩ | ⟨x,t,rfl,rfl⟩
  ·rcases Bj hv with⟨j,u,rfl,rfl⟩ | ⟨y,u,rfl,rfl⟩
   ·rw[TR]at h;exact wpAny_eqBool_int h
   ·rw[TW]at h;exact SeqAt.EqAt.int_str i t y u _ _ _ _ h
  ·rcases Bj hv with⟨j,u,rfl,rfl⟩ | ⟨y,u,rfl,rfl⟩
   ·rw[TX]at h;exact SeqAt.EqAt.str_int x t j u _ _ _ _ h
   ·rw[TV]at h;exact wpAny_eqBool_str h
 «strs»:=fun k x t v h=>by
  rcases Bj h with⟨i,u,rfl,e⟩ | ⟨y,u,rfl,e⟩
  ·exact nomatch e
  ·injection e with e1 _
   subst e1
   cases v <;> rfl
theorem Kn (prog:Program)(w:World)(i:Int)(t:Tok):(Bf prog w).is (.inl i) (.int i t)=true:=OI i t
theorem Ko (prog:Program)(w:World)(x:Str)(t:Tok):(Bf prog w).is (.inr x) (.str x t)=true:=OJ x t
inductive V where
 | non | bl (b:Bool) | int (i:Int) | str (x:Str) | byt (b:Array UInt8) | flt (b:UInt64) | ref (a:Addr) | ty (n:String)
 deriving DecidableEq
def Aw:V→Value→Prop
 | .non,u=>u=Value.none
 | .bl b,u=>u=Value.bool b
 | .int i,u=>∃ t,u=Value.int i t
 | .str x,u=>∃ t,u=Value.str x t
 | .byt b,u=>∃ t,u=Value.bytes b t
 | .flt b,u=>∃ t,u=Value.float b t
 | .ref a,u=>u=Value.ref a
 | .ty n,u=>u=Value.type n
abbrev A3:List V→List Value→Prop:=Paired Aw
theorem A3.length {xs:List V}{us:List Value}(r:A3 xs us):xs.length=us.length:=Paired.length r
theorem A3.get:∀{xs:List V} {us:List Value} {i:Nat} {x:V},A3 xs us→xs[i]?=some x→∃ u,us[i]?=some u∧Aw x u:=by
 intro A B j x h
 induction h generalizing j with
 | nil=>
  intro e
  simp at e
 | cons r t ih=>
  intro e
  cases j with
  | zero=>
   simp at e
   subst e
   exact⟨_,rfl,r⟩
  | succ j=>
   obtain⟨y,h1,h2⟩:=ih (by simpa using e)
   exact⟨y,by simpa using h1,h2⟩
theorem A3.set {x:V}{u:Value}(r:Aw x u):∀{xs:List V} {us:List Value} (i:Nat),A3 xs us→A3 (xs.set i x) (us.set i u)
 | _,_,_,.nil=>.nil
 | _,_,0,.cons _ t=>.cons r t
 | _,_,i+1,.cons q t=>.cons q (A3.set r i t)
theorem A3.append:∀{xs ys:List V} {us ws:List Value},A3 xs us→A3 ys ws→A3 (xs++ys) (us++ws):=by
 intro A B C D h g
 induction h with
 | nil=>exact g
 | cons r t ih=>exact .cons r ih
theorem A3.take:∀{xs:List V} {us:List Value} (n:Nat),A3 xs us→A3 (xs.take n) (us.take n)
 | _,_,0,_=>.nil
 | _,_,_+1,.nil=>.nil
 | _,_,n+1,.cons r t=>.cons r (A3.take n t)
theorem A3.drop:∀{xs:List V} {us:List Value} (n:Nat),A3 xs us→A3 (xs.drop n) (us.drop n)
 | _,_,0,r=>r
 | _,_,_+1,.nil=>.nil
 | _,_,n+1,.cons _ t=>A3.drop n t
def GZ:Option V→Option Value→Prop
 | some v,some u=>Aw v u
 | none,none=>True
 | _,_=>False
def KV {κ:Type}:List (κ×V)→List (κ×Value)→Prop:=Paired fun(p:κ×V) (q:κ×Value)=>p.1=q.1∧Aw p.2 q.2
def kV:BY→V
 | .inl i=>.int i
 | .inr x=>.str x
inductive HO where
 | lst (xs:List V)
 | tup (xs:List V)
 | dK (kvs:List (BY×V)) | dT (kvs:List (List BY×V))
 | set (S:Int→Bool) (n:Nat)
 | ins (C dx:Addr) (fs:List (Str×V))
 | own (x:Addr)
 | xd (fs:List (Str×V))
 | met (f x:Addr)
 | rng (lo hi:Int)
 | frz (o:Obj) (u:HO)
 | tbl (ps:Array Value)
 | ext (φ:Heap→Prop)
abbrev Hp:=Addr→Option HO
def upd (H:Hp)(a:Addr)(o:HO):Hp:=fun b=>if b=a then some o else H b
theorem AE {H:Hp}{a:Addr}{o:HO}:upd H a o a=some o:=by unfold upd;rw[if_pos rfl]
theorem Ab {H:Hp}{a b:Addr}{o:HO}(h:b≠a):upd H a o b=H b:=by unfold upd;rw[if_neg h]
theorem HZ {H:Hp}{a:Addr}{o u:HO}:upd (upd H a o) a u=upd H a u:=by
 funext b;unfold upd;split <;> rfl
theorem CJ {H:Hp}{a b:Addr}{o u:HO}(h:H a=some o)(h':H b=some u)(d:o≠u):a≠b:=by
 intro e;subst e;rw[h]at h';exact d (Option.some.inj h')
theorem Am {H:Hp}{a b:Addr}{o:HO}(h:H a=some o)(h':H b=none):a≠b:=by
 intro e;subst e;rw[h]at h';cases h'
section
variable (P:Program)(w:World)
def BI (H:Hp)(h:Heap)(a:Addr):HO→Prop
 | .lst xs=>xs.length≤sizeLine∧∃(its:List Value) (n:Nat),A3 xs its∧h.get? a=some { cls:=.type "list",data:=.seq its.toArray n }
 | .tup xs=>xs.length≤sizeLine∧∃ its:List Value,A3 xs its∧IsTup h a its.toArray
 | .dK kvs=>kvs.length≤sizeLine∧(a==sysModules)=false∧∃ vs,KV kvs vs∧h.DictOf (Bf P w) a vs
 | .dT kvs=>kvs.length≤sizeLine∧(a==sysModules)=false∧∃ xs:List (List BY×Addr×Value),
  Paired (fun(p:List BY×V) (q:List BY×Addr×Value)=>p.1=q.1∧H q.2.1=some (.tup (p.1.map kV))∧Aw p.2 q.2.2) kvs xs∧
  ∃ o es ep,h.get? a=some o∧o.ExactDict∧o.data=.dict es ep∧es.toList=xs.map (entryOfKey (tupleKind (Bf P w)))∧(xs.map (·.1)).Nodup
 | .set S n=>h.SetOf (intKind P w) a S n
 | .ins C dx fs=>H dx=some (.own a)∧fs.length≤1000∧dx≠a∧h.get? a=some (PySem.W.instObj C dx)∧
  ∃ mA,h.Ns1 dx mA∧(∀ f,GZ (fs.lookup f) (mA f))∧PySem.Within mA (fs.map (·.1))
 | .own _=>∃ o,h.get? a=some o
 | .xd fs=>∃ mA,h.Ns1 a mA∧∀ f,GZ (fs.lookup f) (mA f)
 | .rng lo hi=>∃ t u v,h.get? a=some { cls:=.type "range",data:=.fields #[.int lo t,.int hi u,.int 1 v] }
 | .frz o u=>h.get? a=some o∧BI H h a u
 | .tbl ps=>h.get? a=some { cls:=.none,data:=.fields ps }
 | .met f x=>h.get? a=some (PySem.W.methodObj (.ref f) (.ref x))
 | .ext φ=>φ h∧(∃ o,h.get? a=some o)∧∀ h1 h2:Heap,φ h1→(∀ o,h1.get? a=some o→h2.get? a=some o)→φ h2
def FH (H:Hp)(h:Heap):Prop:=∀ a o,H a=some o→BI P w H h a o
end
section
variable {P:Program}{w:World}{H H':Hp}{h h':Heap}{a:Addr}{o:HO}
theorem BI.lt (x:BI P w H h a o):a<h.objs.size:=by
 cases o with
 | lst xs=>obtain⟨_,_,_,_,e⟩:=x;exact Heap.lt_size e
 | tup xs=>obtain⟨_,_,_,p⟩:=x;exact p.lt
 | dK kvs=>obtain⟨_,_,_,_,o,_,_,e,_⟩:=x;exact Heap.lt_size e
 | dT kvs=>obtain⟨_,_,_,_,o,_,_,e,_⟩:=x;exact Heap.lt_size e
 | set S n=>obtain⟨o,_,_,_,e,_⟩:=x;exact Heap.lt_size e
 | ins C dx fs=>obtain⟨_,_,_,e,_⟩:=x;exact Heap.lt_size e
 | own y=>obtain⟨_,e⟩:=x;exact Heap.lt_size e
 | xd fs=>obtain⟨_,⟨_,_,_,e,_⟩,_⟩:=x;exact Heap.lt_size e
 | rng lo hi=>obtain⟨_,_,_,e⟩:=x;exact Heap.lt_size e
 | frz ob u=>obtain⟨e,_⟩:=x;exact Heap.lt_size e
 | tbl ps=>exact Heap.lt_size (show h.get? a=some _ from x)
 | met f y=>exact Heap.lt_size (show h.get? a=some _ from x)
 | ext φ=>obtain⟨_,⟨_,e⟩,_⟩:=x;exact Heap.lt_size e
theorem Paired.mapP {α β:Type}{F G:α→β→Prop}:∀{l₁:List α} {l₂:List β},Paired F l₁ l₂→(∀ a b,F a b→G a b)→Paired G l₁ l₂:=by
 intro A B h f
 induction h with
 | nil=>exact .nil
 | cons r t ih=>exact .cons (f _ _ r) ih
theorem Paired.imp' {α β:Type}{F G:α→β→Prop}(f:∀ a b,F a b→G a b){l₁:List α}{l₂:List β}(r:Paired F l₁ l₂):Paired G l₁ l₂:=Paired.mapP r f
theorem BI.stay (x:BI P w H h a o)(k:∀ b u,(b=a∨H b=some (.own a))→h.get? b=some u→h'.get? b=some u)
 (ho:∀ b,H b=some (.own a)→H' b=some (.own a)) (ht:∀ b xs,H b=some (.tup xs)→H' b=some (.tup xs)):BI P w H' h' a o:=by
 induction o with
 | lst xs=>obtain⟨z,its,n,r,e⟩:=x;exact⟨z,its,n,r,k _ _ (.inl rfl) e⟩
 | tup xs=>obtain⟨z,its,r,ob,e,c⟩:=x;exact⟨z,its,r,ob,k _ _ (.inl rfl) e,c⟩
 | dK kvs=>obtain⟨z,y,vs,r,ob,es,ep,e,c⟩:=x;exact⟨z,y,vs,r,ob,es,ep,k _ _ (.inl rfl) e,c⟩
 | dT kvs=>
  obtain⟨z,y,xs,r,ob,es,ep,e,c⟩:=x
  exact⟨z,y,xs,Paired.mapP r fun p q z=>⟨z.1,ht _ _ z.2.1,z.2.2⟩,ob,es,ep,k _ _ (.inl rfl) e,c⟩
 | set S n=>obtain⟨ob,es,ep,t,e,c⟩:=x;exact⟨ob,es,ep,t,k _ _ (.inl rfl) e,c⟩
 | ins C dx fs=>
  obtain⟨d,z,ne,e,mA,⟨od,es,ep,e2,c⟩,r⟩:=x
  exact⟨ho _ d,z,ne,k _ _ (.inl rfl) e,mA,⟨od,es,ep,k _ _ (.inr d) e2,c⟩,r⟩
 | own y=>obtain⟨ob,e⟩:=x;exact⟨ob,k _ _ (.inl rfl) e⟩
 | xd fs=>obtain⟨mA,⟨od,es,ep,e,c⟩,r⟩:=x;exact⟨mA,⟨od,es,ep,k _ _ (.inl rfl) e,c⟩,r⟩
 | rng lo hi=>obtain⟨t,u,v,e⟩:=x;exact⟨t,u,v,k _ _ (.inl rfl) e⟩
 | frz ob u ih=>obtain⟨e,q⟩:=x;exact⟨k _ _ (.inl rfl) e,ih q⟩
 | tbl ps=>
  have e:h.get? a=some { cls:=.none,data:=.fields ps }:=x
  show h'.get? a=some { cls:=.none,data:=.fields ps }
  exact k a _ (.inl rfl) e
 | met f y=>
  have e:h.get? a=some (PySem.W.methodObj (.ref f) (.ref y)):=x
  show h'.get? a=some (PySem.W.methodObj (.ref f) (.ref y))
  exact k a _ (.inl rfl) e
 | ext φ=>obtain⟨p,⟨o,e⟩,st⟩:=x;exact⟨st _ _ p fun o q=>k _ _ (.inl rfl) q,⟨o,k _ _ (.inl rfl) e⟩,st⟩
theorem FH.lt (x:FH P w H h)(e:H a=some o):a<h.objs.size:=(x a o e).lt
theorem FH.fresh (x:FH P w H h)(e:h.objs.size≤a):H a=none:=by
 cases q:H a with
 | none=>rfl
 | some u=>exact absurd (Nat.lt_of_lt_of_le (x.lt q) e) (Nat.lt_irrefl _)
theorem FH.kept (x:FH P w H h)(k:∀ b u,h.get? b=some u→h'.get? b=some u):FH P w H h':=fun a o e=>
 (x a o e).stay (fun b u _ q=>k b u q) (fun _ q=>q) fun _ _ q=>q
theorem FH.laid (x:FH P w H h)(k:∀ b u,h.get? b=some u→h'.get? b=some u)(hp:h.objs.size≤a)(new:BI P w (upd H a o) h' a o):FH P w (upd H a o) h':=fun b u e=>by
 have hn:=x.fresh hp
 by_cases hb:b=a
 ·subst hb;rw[AE]at e;cases e;exact new
 ·rw[Ab hb]at e
  exact(x b u e).stay (fun c v _ q=>k c v q) (fun c q=>by rw[Ab (Am q hn)];exact q) fun c xs q=>by rw[Ab (Am q hn)];exact q
end
def Rd (H:Hp)(a:Addr)(u:HO):Prop:=H a=some u∨∃ o,H a=some (.frz o u)
theorem Rd.ok {P:Program}{w:World}{H:Hp}{h:Heap}{a:Addr}{u:HO}(r:Rd H a u)(x:FH P w H h):BI P w H h a u:=by
 rcases r with r | ⟨o,r⟩
 ·exact x a u r
 ·obtain⟨_,q⟩:=x a _ r
  exact q
def VB:Option HO→Prop
 | some (.lst _)=>True
 | some (.dK _)=>True
 | some (.dT _)=>True
 | some (.set _ _)=>True
 | some (.ins _ _ _)=>True
 | some (.ext _)=>True
 | _=>False
section
variable {P:Program}{w:World}{H:Hp}{h h':Heap}{x e:Addr}{o':HO}
theorem FH.write (ok:FH P w H h)(mu:VB (H x))(he:e=x∨H e=some (.own x))(k:∀ b u,b≠e→h.get? b=some u→h'.get? b=some u)(heo:∃ u,h'.get? e=some u)
 (new:BI P w (upd H x o') h' x o'):FH P w (upd H x o') h':=fun b u q=>by
 have nown:∀ c y,H c=some (.own y)→c≠x:=fun c y r z=>by subst z;rw[r]at mu;exact mu
 have ntup:∀ c xs,H c=some (.tup xs)→c≠x:=fun c xs r z=>by subst z;rw[r]at mu;exact mu
 by_cases hb:b=x
 ·subst hb;rw[AE]at q;cases q;exact new
 ·rw[Ab hb]at q
  by_cases hbe:b=e
  ·have q':H b=some (.own x):=by
    rcases he with z | z
    ·exact absurd (hbe.trans z) hb
    ·rw[hbe];exact z
   rw[q]at q';cases q'
   obtain⟨v,hv⟩:=heo
   exact⟨v,by rw[hbe];exact hv⟩
  ·refine(ok b u q).stay (fun c v hc r=>k c v ?_ r) (fun c r=>by rw[Ab (nown c b r)];exact r) fun c xs r=>by rw[Ab (ntup c xs r)];exact r
   rcases hc with rfl | hc
   ·exact hbe
   ·rintro rfl
    rcases he with z | z
    ·exact nown c b hc z
    ·rw[hc]at z;cases z;exact hb rfl
end
structure Un (fs ex:List Addr)(H H':Hp)(h h':Heap):Prop where
 keep:∀ b o,h.get? b=some o→H b=none→b∉fs→b∉ex→h'.get? b=some o
 slot:∀ b o,h.get? b=some o→H b=none→b∈fs→b∉ex→∃ sl,h'.get? b=some { o with slots:=sl }
 free:∀ b o,h.get? b=some o→H b=none→b∉ex→H' b=none
 there:∀ b o,h.get? b=some o→b∉ex→∃ o',h'.get? b=some o'
 tups:∀ b xs,H b=some (.tup xs)→H' b=some (.tup xs)
 frzs:∀ b o u,H b=some (.frz o u)→H' b=some (.frz o u)
 tbls:∀ b ps,H b=some (.tbl ps)→∃ more,H' b=some (.tbl (ps++more))
section
variable {fs fs' ex ex':List Addr}{H H1 H2:Hp}{h h1 h2 h':Heap}{a x e:Addr}{o:HO}
theorem Un.any (u:Un fs ex H H1 h h1){b:Addr}{ob:Obj}(q:h.get? b=some ob)(n:H b=none)(hx:b∉ex):∃ sl,h1.get? b=some { ob with slots:=sl }:=by
 by_cases hb:b∈fs
 ·exact u.slot b ob q n hb hx
 ·exact⟨ob.slots,u.keep b ob q n hb hx⟩
theorem Un.kept (k:∀ b u,h.get? b=some u→h'.get? b=some u):Un fs ex H H h h':=
 ⟨fun b ob q _ _ _=>k b ob q,fun b ob q _ _ _=>⟨ob.slots,k b ob q⟩,fun _ _ _ n _=>n,fun b ob q _=>⟨ob,k b ob q⟩,fun _ _ q=>q,fun _ _ _ q=>q,fun _ ps q=>⟨#[],by rw[q];simp⟩⟩
theorem Un.refl:Un fs ex H H h h:=Un.kept fun _ _ q=>q
theorem Un.laid (k:∀ b u,h.get? b=some u→h'.get? b=some u)(hp:h.objs.size≤a)(hn:H a=none):Un fs ex H (upd H a o) h h' where
 keep:=fun b u q _ _ _=>k b u q
 slot:=fun b u q _ _ _=>⟨u.slots,k b u q⟩
 free:=fun b u q n _=>by rw[Ab (Nat.ne_of_lt (Nat.lt_of_lt_of_le (Heap.lt_size q) hp))];exact n
 there:=fun b u q _=>⟨u,k b u q⟩
 tups:=fun b xs q=>by rw[Ab (Am q hn)];exact q
 frzs:=fun b u xs q=>by rw[Ab (Am q hn)];exact q
 tbls:=fun b ps q=>⟨#[],by rw[Ab (Am q hn),q];simp⟩
theorem Un.write (mu:VB (H x))(he:e=x∨H e=some (.own x))(k:∀ b u,b≠e→h.get? b=some u→h'.get? b=some u)(heo:∃ u,h'.get? e=some u):Un fs ex H (upd H x o) h h':=by
 have hx:∀ b,H b=none→b≠x:=fun b n z=>by subst z;rw[n]at mu;exact mu
 have hb:∀ b,H b=none→b≠e:=fun b n z=>by
  subst z
  rcases he with r | r
  ·exact hx b n r
  ·rw[n]at r;cases r
 have hm:∀ b u,H b=some u→¬ VB (some u)→b≠x:=fun b u q nm z=>by subst z;rw[q]at mu;exact nm mu
 refine⟨fun b u q n _ _=>k b u (hb b n) q,fun b u q n _ _=>⟨u.slots,k b u (hb b n) q⟩,fun b u q n _=>by rw[Ab (hx b n)];exact n,fun b u q _=>?_,
  fun b xs q=>by rw[Ab (hm b _ q fun z=>z)];exact q,fun b u xs q=>by rw[Ab (hm b _ q fun z=>z)];exact q,fun b ps q=>⟨#[],by rw[Ab (hm b _ q fun z=>z),q];simp⟩⟩
 by_cases hbe:b=e
 ·subst hbe;exact heo
 ·exact⟨u,k b u hbe q⟩
end
def trk (h:Heap)(H:Hp):List Addr:=(List.range h.objs.size).filter fun a=>(H a).isSome
def HG (h:Heap)(H:Hp):Heap:=PySem.W.hideAll h (trk h H)
theorem JU (h:Heap)(H:Hp):(HG h H).objs.size=h.objs.size:=PySem.W.hideAll_size _ _
theorem Kq {h:Heap}{H:Hp}{b:Addr}{o:Obj}(e:h.get? b=some o)(n:H b=none):(HG h H).get? b=some o:=
 PySem.W.hideAll_get _ e fun hm=>by
  have q:(H b).isSome=true:=(List.mem_filter.mp hm).2
  rw[n]at q;simp at q
theorem NM {h:Heap}{H:Hp}{b:Addr}{o:Obj}(e:(HG h H).get? b=some o):h.get? b=some o∧H b=none:=by
 have e':h.get? b=some o:=PySem.W.of_hideAll (trk h H) e
 refine⟨e',?_⟩
 cases q:H b with
 | none=>rfl
 | some x=>
  have hm:b∈trk h H:=List.mem_filter.mpr ⟨List.mem_range.mpr (Heap.lt_size e'),by simp[q]⟩
  have z:(HG h H).get? b=none:=PySem.W.hideAll_none (trk h H) hm
  rw[z]at e;cases e
structure Mod (K:PySem.W.Frag)(mg:Str→Option Value)(base:Heap):Prop where
 kin:K.In base
 glob:base.Ns mainGlobals mg
 blt:∃ mb,base.Ns builtinsNs mb∧∀ x:Str,x≠"__name__"→mb x=bootBuiltins x
 nolimit:base.NoLimit
structure Cx where
 prog:Program
 w:World
 K:PySem.W.Frag
 mg:Str→Option Value
 base:Heap
 A:Around
 N:List Str
 s₀:Shared
 H₀:Hp
 env:Env
 outer:List Env
 stack:List Env
 ex:List Addr
 fn:Str→Bool
 calm:Bool
 pn:List (Addr×Obj)
 xe:Value→Shared→Prop
def Dy (l:List Env):List Addr:=l.filterMap (·.frame)
abbrev Cx.fs (X:Cx):List Addr:=Dy X.outer
def W8 (sc:Scope)(x:Str):Prop:=sc.names.lookup x=some .local∨sc.names.lookup x=some .cell∨sc.names.lookup x=some .free
def Wv (sc:Scope)(x:Str):Prop:=sc.names.lookup x=some .local∨sc.names.lookup x=some .cell
def W9 (env:Env)(h:Heap)(m:Str→Option Value)(x:Str)(u:Value):Prop:=
 (env.kindOf x=some .local∧m x=some u)∨((env.kindOf x=some .cell∨env.kindOf x=some .free)∧∃ c,env.cells.lookup x=some c∧h.IsCell c (some u))
structure Cx.Ok (X:Cx):Prop where
 mod:Mod X.K X.mg X.base
 kind:X.env.scope.kind=.function
 glob:X.env.globals=mainGlobals
 blt:X.env.builtins=builtinsNs
 above:X.s₀.heap.objs.size≤X.env.locals
 inj:∀ x y c,X.env.cells.lookup x=some c→X.env.cells.lookup y=some c→x=y
 has:∀ x,(X.env.kindOf x=some .cell∨X.env.kindOf x=some .free)→∃ c,X.env.cells.lookup x=some c
 cab:∀ x c,X.fn x=true→X.env.cells.lookup x=some c→X.s₀.heap.objs.size≤c
 hd:X.calm=true→X.A.handled=none
 frames:X.A.frames=some X.stack
 stk:X.stack=X.outer∨(X.stack=X.env::X.outer∧X.env.frame=some X.env.locals)
 exf:∀ b∈X.ex,b≠X.env.locals∧∀ x c,X.env.cells.lookup x=some c→c≠b
 bs:∀ b o,X.base.get? b=some o→X.s₀.heap.get? b=some o∧X.H₀ b=none
 bsz:X.base.objs.size≤X.s₀.heap.objs.size
 noex:∀ b o,X.base.get? b=some o→b∉X.ex
 exfs:∀ b∈X.ex,b∉X.fs
 funs:X.s₀.heap.FunFrames X.base X.outer
 frf:∀ b∈X.fs,X.H₀ b=none
structure Ap (X:Cx)(pins:List (Addr×Obj))(σ:List (Option V))(H:Hp)(s:Shared):Prop where
 ok:X.Ok
 os:s.os=X.s₀.os
 bare:AllBare s.gens
 base:Un X.fs X.ex X.H₀ H X.s₀.heap s.heap
 loc:∃ m,s.heap.Ns X.env.locals m∧∀(i:Nat) (x:Str) (v:V),X.N[i]?=some x→σ[i]?=some (some v)→W8 X.env.scope x→∃ u,Aw v u∧W9 X.env s.heap m x u
 cell:∀ x c,X.env.cells.lookup x=some c→∃ v,s.heap.IsCell c v
 free:H X.env.locals=none
 freeC:∀ x c,X.env.cells.lookup x=some c→H c=none
 pin:∀ p∈X.pn++pins,s.heap.get? p.1=some p.2∧H p.1=none∧p.1≠X.env.locals∧p.1∉X.fs∧∀ v,p.2.data≠.cell v
 hok:FH X.prog X.w H s.heap
 len:σ.length=X.N.length
section
variable {X:Cx}{pins:List (Addr×Obj)}{σ:List (Option V)}{H H':Hp}{s:Shared}{h':Heap}
theorem Cx.Ok.nofr (ok:X.Ok){b:Addr}{o:Obj}(e:X.base.get? b=some o):b∉X.fs:=fun hb=>by
 have:=(ok.funs.mem hb).1
 rw[e]at this;cases this
theorem Ap.bs (I:Ap X pins σ H s):∀ b o,X.base.get? b=some o→s.heap.get? b=some o∧H b=none:=fun b o e=>
 ⟨I.base.keep b o (I.ok.bs b o e).1 (I.ok.bs b o e).2 (I.ok.nofr e) (I.ok.noex b o e),I.base.free b o (I.ok.bs b o e).1 (I.ok.bs b o e).2 (I.ok.noex b o e)⟩
theorem Ap.bk (I:Ap X pins σ H s):∀ b o,X.base.get? b=some o→s.heap.get? b=some o:=fun b o e=>(I.bs b o e).1
theorem Ap.mod (I:Ap X pins σ H s):Mod X.K X.mg X.base:=I.ok.mod
theorem Ap.kIn (I:Ap X pins σ H s):X.K.In s.heap:=I.ok.mod.kin.keeps I.bk
theorem Ap.lt (I:Ap X pins σ H s):X.env.locals<s.heap.objs.size:=by
 obtain⟨_,hn,_⟩:=I.loc
 exact hn.lt
theorem Ap.sz (I:Ap X pins σ H s):X.s₀.heap.objs.size≤s.heap.objs.size:=Nat.le_trans I.ok.above (Nat.le_of_lt I.lt)
theorem Ap.nofs (I:Ap X pins σ H s){a:Addr}(h:s.heap.objs.size≤a):a∉X.fs:=fun hb=>by
 obtain⟨_,o,ho,_⟩:=I.ok.funs.mem hb
 exact absurd (Nat.lt_of_lt_of_le (Heap.lt_size ho) (Nat.le_trans I.sz h)) (Nat.lt_irrefl _)
theorem Ap.cne (I:Ap X pins σ H s):∀ x c,X.env.cells.lookup x=some c→c≠X.env.locals:=fun x c e z=>by
 obtain⟨v,o,ho,hd⟩:=I.cell x c e
 obtain⟨m,⟨o',es,ep,ho',hd',_⟩,_⟩:=I.loc
 rw[z,ho']at ho;cases ho;rw[hd']at hd;cases hd
theorem Ap.funs (I:Ap X pins σ H s):s.heap.FunFrames X.base X.outer:=by
 have all:∀(l:List Env),(∀ b∈Dy l,b∈X.fs)→X.s₀.heap.FunFrames X.base l→s.heap.FunFrames X.base l:=by
  intro l
  induction l with
  | nil=>intro _ _;trivial
  | cons env r ih=>
   intro hs hl
   obtain⟨hk,⟨L,o,hf,hn,ho,hd⟩,hr⟩:=hl
   have hL:L∈X.fs:=hs L (by unfold Dy;rw[List.filterMap_cons,hf];exact List.mem_cons_self)
   obtain⟨sl,e⟩:=I.base.slot L o ho (I.ok.frf L hL) hL fun z=>I.ok.exfs L z hL
   exact⟨hk,⟨L,_,hf,hn,e,hd⟩,ih (fun b hb=>hs b (by unfold Dy;rw[List.filterMap_cons,hf];exact List.mem_cons_of_mem _ hb)) hr⟩
 exact all X.outer (fun _ hb=>hb) I.ok.funs
theorem Ap.stack (I:Ap X pins σ H s):s.heap.FunFrames X.base X.stack:=by
 rcases I.ok.stk with e | ⟨e,hf⟩
 ·rw[e];exact I.funs
 ·rw[e]
  obtain⟨m,hn,_⟩:=I.loc
  refine .cons (by rw[I.ok.kind];decide) hf hn ?_ I.funs
  exact Heap.get?_none_of_le (Nat.le_trans I.ok.bsz I.ok.above)
theorem Ap.stkSub (I:Ap X pins σ H s):∀ b∈Dy X.stack,b∈X.env.locals::X.fs:=fun b hb=>by
 rcases I.ok.stk with e | ⟨e,hf⟩
 ·rw[e]at hb;exact List.mem_cons_of_mem _ hb
 ·rw[e]at hb
  unfold Dy at hb
  rw[List.filterMap_cons,hf]at hb
  exact hb
theorem Ap.stkFree (I:Ap X pins σ H s):∀ b∈Dy X.stack,H b=none:=fun b hb=>by
 rcases List.mem_cons.mp (I.stkSub b hb)with e | hb
 ·rw[e];exact I.free
 ·obtain⟨_,o,ho,_⟩:=I.ok.funs.mem hb
  exact I.base.free b o ho (I.ok.frf b hb) fun z=>I.ok.exfs b z hb
theorem Ap.step {g':Array GenState}{t':Nat}{d':Drawn}{ch:List Addr}(I:Ap X pins σ H s)
 (hch:∀ b∈ch,(b∈X.ex∨X.s₀.heap.objs.size≤b)∧b≠X.env.locals∧(∀ x c,X.env.cells.lookup x=some c→c≠b)∧∀ p∈X.pn++pins,p.1≠b)
 (keep:∀ b o,b≠X.env.locals→b∉X.fs→b∉ch→s.heap.get? b=some o→H b=none→h'.get? b=some o)
 (slot:∀ b o,b≠X.env.locals→b∈X.fs→b∉ch→s.heap.get? b=some o→H b=none→∃ sl,h'.get? b=some { o with slots:=sl }) (free:∀ b o,b∉ch→s.heap.get? b=some o→H b=none→H' b=none)
 (there:∀ b o,b∉ch→s.heap.get? b=some o→∃ o',h'.get? b=some o')
 (tups:∀ b xs,H b=some (.tup xs)→H' b=some (.tup xs)) (frzs:∀ b o u,H b=some (.frz o u)→H' b=some (.frz o u)) (tbls:∀ b ps,H b=some (.tbl ps)→∃ more,H' b=some (.tbl (ps++more)))
 (ns:∀ m,s.heap.Ns X.env.locals m→h'.Ns X.env.locals m) (hok:FH X.prog X.w H' h') (hg:AllBare g'):
 Ap X pins σ H' { s with heap:=h',gens:=g',drawn:=d',toks:=t' }:=by
 have neL:∀ b o,X.s₀.heap.get? b=some o→b≠X.env.locals:=fun b o e=>Nat.ne_of_lt (Nat.lt_of_lt_of_le (Heap.lt_size e) I.ok.above)
 have neC:∀ b o,X.s₀.heap.get? b=some o→b∉X.ex→b∉ch:=fun b o e hx hb=>by
  rcases(hch b hb).1 with z | z
  ·exact hx z
  ·exact absurd (Nat.lt_of_lt_of_le (Heap.lt_size e) z) (Nat.lt_irrefl _)
 have cellK:∀ x c,X.env.cells.lookup x=some c→∀ v,s.heap.IsCell c v→h'.IsCell c v:=fun x c e v ⟨o,ho,hd⟩=>by
  have nch:c∉ch:=fun z=>(hch c z).2.2.1 x c e rfl
  by_cases hc:c∈X.fs
  ·obtain⟨sl,q⟩:=slot c o (I.cne x c e) hc nch ho (I.freeC x c e)
   exact⟨_,q,hd⟩
  ·exact⟨o,keep c o (I.cne x c e) hc nch ho (I.freeC x c e),hd⟩
 refine⟨I.ok,I.os,hg,⟨fun b o e n hb hx=>?_,fun b o e n hb hx=>?_,fun b o e n hx=>?_,fun b o e hx=>?_,fun b xs e=>tups b xs (I.base.tups b xs e),fun b o xs e=>frzs b o xs (I.base.frzs b o xs e),fun b ps e=>?_⟩,?_,fun x c e=>?_,?_,fun x c e=>?_,fun p hp=>?_,hok,I.len⟩
 ·exact keep b o (neL b o e) hb (neC b o e hx) (I.base.keep b o e n hb hx) (I.base.free b o e n hx)
 ·obtain⟨sl,e1⟩:=I.base.slot b o e n hb hx
  obtain⟨sl',e2⟩:=slot b _ (neL b o e) hb (neC b o e hx) e1 (I.base.free b o e n hx)
  exact⟨sl',e2⟩
 ·obtain⟨o',e1⟩:=I.base.there b o e hx
  exact free b o' (neC b o e hx) e1 (I.base.free b o e n hx)
 ·obtain⟨o',e1⟩:=I.base.there b o e hx
  exact there b o' (neC b o e hx) e1
 ·obtain⟨m1,e1⟩:=I.base.tbls b ps e
  obtain⟨m2,e2⟩:=tbls b _ e1
  exact⟨m1++m2,by rw[e2,Array.append_assoc]⟩
 ·obtain⟨m,hn,hl⟩:=I.loc
  refine⟨m,ns m hn,fun i x v e1 e2 e3=>?_⟩
  obtain⟨u,r,l⟩:=hl i x v e1 e2 e3
  refine⟨u,r,?_⟩
  rcases l with l | ⟨k,c,e,z⟩
  ·exact .inl l
  ·exact .inr ⟨k,c,e,cellK x c e _ z⟩
 ·obtain⟨v,z⟩:=I.cell x c e
  exact⟨v,cellK x c e v z⟩
 ·obtain⟨m,⟨o,_,_,ho,_⟩,_⟩:=I.loc
  exact free _ o (fun z=>(hch _ z).2.1 rfl) ho I.free
 ·obtain⟨v,o,ho,hd⟩:=I.cell x c e
  exact free c o (fun z=>(hch c z).2.2.1 x c e rfl) ho (I.freeC x c e)
 ·obtain⟨e,n,ne,nf,d⟩:=I.pin p hp
  have nch:p.1∉ch:=fun z=>(hch p.1 z).2.2.2 p hp rfl
  exact⟨keep p.1 p.2 ne nf nch e n,free p.1 p.2 nch e n,ne,nf,d⟩
theorem Ap.un {t':Nat}(I:Ap X pins σ H s)(u:Un X.fs [] H H' s.heap h')(hok:FH X.prog X.w H' h'):Ap X pins σ H' { s with heap:=h',toks:=t' }:=by
 obtain⟨m,⟨o,es,ep,ho,r⟩,_⟩:=id I.loc
 obtain⟨sl,hL⟩:=u.any ho I.free (by simp)
 exact I.step (g':=s.gens) (d':=s.drawn) (ch:=[]) (fun _ z=>nomatch z) (fun b o _ hb _ e n=>u.keep b o e n hb (by simp)) (fun b o _ hb _ e n=>u.slot b o e n hb (by simp)) (fun b o _ e n=>u.free b o e n (by simp)) (fun b o _ e=>u.there b o e (by simp)) u.tups u.frzs u.tbls (fun m' hm=>by
  obtain⟨o',es',ep',ho',r'⟩:=hm
  rw[ho]at ho';cases ho'
  exact⟨_,es',ep',hL,r'⟩) hok I.bare
theorem Ap.call {g':Array GenState}{t':Nat}{d':Drawn}{ch:List Addr}(I:Ap X pins σ H s)(u:Un (Dy X.stack) ch H H' s.heap h')(hok:FH X.prog X.w H' h')(hg:AllBare g')
 (hch:∀ b∈ch,(b∈X.ex∨X.s₀.heap.objs.size≤b)∧b≠X.env.locals∧(∀ x c,X.env.cells.lookup x=some c→c≠b)∧∀ p∈X.pn++pins,p.1≠b):
 Ap X pins σ H' { s with heap:=h',gens:=g',drawn:=d',toks:=t' }:=by
 obtain⟨m,⟨o,es,ep,ho,r⟩,_⟩:=id I.loc
 obtain⟨sl,hL⟩:=u.any ho I.free fun z=>(hch _ z).2.1 rfl
 exact I.step (ch:=ch) hch (fun b o hL hb hc e n=>u.keep b o e n (fun z=>(List.mem_cons.mp (I.stkSub b z)).elim hL hb) hc) (fun b o _ _ hc e n=>u.any e n hc) (fun b o hc e n=>u.free b o e n hc) (fun b o hc e=>u.there b o e hc) u.tups u.frzs u.tbls (fun m' hm=>by
  obtain⟨o',es',ep',ho',r'⟩:=hm
  rw[ho]at ho';cases ho'
  exact⟨_,es',ep',hL,r'⟩) hok hg
theorem Ap.turned {t':Nat}{it:Addr}(I:Ap X pins σ H s)(k:∀ b o,b≠it→s.heap.get? b=some o→h'.get? b=some o)(hn:H it=none)(hL:it≠X.env.locals)
 (h1:it∈X.ex∨X.s₀.heap.objs.size≤it) (h2:∀ x c,X.env.cells.lookup x=some c→c≠it) (h3:∀ p∈X.pn++pins,p.1≠it):Ap X pins σ H { s with heap:=h',toks:=t' }:=by
 have nit:∀ b u,H b=some u→b≠it:=fun b u e z=>by rw[z,hn]at e;cases e
 refine I.step (g':=s.gens) (d':=s.drawn) (ch:=[it]) (fun b hb=>?_) (fun b o _ _ hc e _=>k b o (fun z=>hc (by simp[z])) e) (fun b o _ _ hc e _=>⟨o.slots,k b o (fun z=>hc (by simp[z])) e⟩) (fun _ _ _ _ n=>n)
  (fun b o hc e=>⟨o,k b o (fun z=>hc (by simp[z])) e⟩) (fun _ _ e=>e) (fun _ _ _ e=>e) (fun b ps e=>⟨#[],by rw[e];simp⟩) (fun m hm=>?_) (fun b u e=>?_) I.bare
 ·have e:b=it:=by simpa using hb
  subst e
  exact⟨h1,hL,h2,h3⟩
 ·obtain⟨o,es,ep,ho,r⟩:=hm
  exact⟨o,es,ep,k _ o (Ne.symm hL) ho,r⟩
 ·refine(I.hok b u e).stay (fun c v hc q=>k c v ?_ q) (fun _ q=>q) fun _ _ q=>q
  rcases hc with z | z
  ·rw[z];exact nit b u e
  ·exact nit c _ z
theorem Ap.tok (I:Ap X pins σ H s)(t:Nat):Ap X pins σ H { s with toks:=t }:=I.un (h':=s.heap) (t':=t) Un.refl I.hok
theorem Ap.kept {t':Nat}(I:Ap X pins σ H s)(k:∀ b u,s.heap.get? b=some u→h'.get? b=some u):Ap X pins σ H { s with heap:=h',toks:=t' }:=I.un (Un.kept k) (I.hok.kept k)
theorem Ap.laid {a:Addr}{o:HO}{t':Nat}(I:Ap X pins σ H s)(k:∀ b u,s.heap.get? b=some u→h'.get? b=some u)(hp:s.heap.objs.size≤a)(new:BI X.prog X.w (upd H a o) h' a o):
 Ap X pins σ (upd H a o) { s with heap:=h',toks:=t' }:=I.un (Un.laid k hp (I.hok.fresh hp)) (I.hok.laid k hp new)
theorem Ap.write {x e:Addr}{o:HO}{t':Nat}(I:Ap X pins σ H s)(mu:VB (H x))(he:e=x∨H e=some (.own x))(k:∀ b u,b≠e→s.heap.get? b=some u→h'.get? b=some u)(heo:∃ u,h'.get? e=some u)
 (new:BI X.prog X.w (upd H x o) h' x o):Ap X pins σ (upd H x o) { s with heap:=h',toks:=t' }:=I.un (Un.write mu he k heo) (I.hok.write mu he k heo new)
theorem Ap.pins_of {pins':List (Addr×Obj)}(I:Ap X pins σ H s)(h:∀ p∈pins',s.heap.get? p.1=some p.2∧H p.1=none∧p.1≠X.env.locals∧p.1∉X.fs∧∀ v,p.2.data≠.cell v):Ap X pins' σ H s:=
 ⟨I.ok,I.os,I.bare,I.base,I.loc,I.cell,I.free,I.freeC,fun p hp=>(List.mem_append.mp hp).elim (fun z=>I.pin p (List.mem_append_left _ z)) (h p),I.hok,I.len⟩
theorem Ho {N:List Str}(hN:N.Nodup){i j:Nat}{x:Str}(a:N[i]?=some x)(b:N[j]?=some x):i=j:=by
 obtain⟨h1,e1⟩:=List.getElem?_eq_some_iff.mp a
 obtain⟨h2,e2⟩:=List.getElem?_eq_some_iff.mp b
 exact(List.getElem_inj hN).mp (e1.trans e2.symm)
theorem JV {M:Model}{A:Around}{E:Value→Shared→Prop}{i:Nat}{x:Str}{v:V}{u:Value}{Q:Unit→Shared→Prop}(I:Ap X pins σ H s)(hN:X.N.Nodup)(hi:X.N[i]?=some x)(hx:Wv X.env.scope x)(r:Aw v u)
 (h:∀ s',Ap X pins (σ.set i (some v)) H s'→(∃ a,Heap.SameBut a s.heap s'.heap∧(a=X.env.locals∨X.env.cells.lookup x=some a))→Q () s') (hf:X.fn x=true∨X.env.scope.names.lookup x=some .local:=by first | exact .inl rfl | exact .inr rfl | assumption):wpAny M A (storeName X.env x u) Q E s:=by
 obtain⟨m,hn,hl⟩:=id I.loc
 have hcls:(X.env.scope.kind==.class||(X.env.scope.kind==.module&&X.env.locals != X.env.globals))=false:=by rw[I.ok.kind];rfl
 have hiσ:i<σ.length:=by rw[I.len];exact(List.getElem?_eq_some_iff.mp hi).1
 have cne:=I.cne
 have tracked:∀{a:Addr} {h':Heap},(∃ o,s.heap.get? a=some o∧H a=none)→Heap.SameBut a s.heap h'→FH X.prog X.w H h':=fun {a h'} ha hs b ob e=>by
  obtain⟨_,_,hfree⟩:=ha
  refine(I.hok b ob e).stay (fun c w' hc q=>(hs.2 c ?_).trans q) (fun _ q=>q) fun _ _ q=>q
  rintro rfl
  rcases hc with rfl | hc
  ·rw[hfree]at e;cases e
  ·rw[hfree]at hc;cases hc
 rcases hx with hk | hk
 ·refine wpAny_storeName_local hk hn (fun h' hn' hs=>?_) hcls
  obtain⟨oL,_,_,hoL,_⟩:=id hn
  refine h _ ⟨I.ok,I.os,I.bare,⟨fun b o e n hb hx=>?_,fun b o e n hb hx=>?_,I.base.free,fun b o e hx=>?_,I.base.tups,I.base.frzs,I.base.tbls⟩,⟨_,hn',fun j y v' e1 e2 e3=>?_⟩,fun y c e=>?_,I.free,I.freeC,fun p hp=>?_,tracked ⟨oL,hoL,I.free⟩ hs,by simpa using I.len⟩ ⟨_,hs,.inl rfl⟩
  ·exact(hs.2 b (Nat.ne_of_lt (Nat.lt_of_lt_of_le (Heap.lt_size e) I.ok.above))).trans (I.base.keep b o e n hb hx)
  ·obtain⟨sl,e1⟩:=I.base.slot b o e n hb hx
   exact⟨sl,(hs.2 b (Nat.ne_of_lt (Nat.lt_of_lt_of_le (Heap.lt_size e) I.ok.above))).trans e1⟩
  ·obtain⟨o',e1⟩:=I.base.there b o e hx
   exact⟨o',(hs.2 b (Nat.ne_of_lt (Nat.lt_of_lt_of_le (Heap.lt_size e) I.ok.above))).trans e1⟩
  ·by_cases hj:j=i
   ·subst hj
    rw[hi]at e1;cases e1
    rw[List.getElem?_set_self hiσ]at e2
    cases e2
    exact⟨u,r,.inl ⟨hk,by simp⟩⟩
   ·rw[List.getElem?_set_ne (Ne.symm hj)]at e2
    obtain⟨u',r',q⟩:=hl j y v' e1 e2 e3
    refine⟨u',r',?_⟩
    rcases q with⟨k,e⟩ | ⟨k,c,e,z⟩
    ·refine .inl ⟨k,?_⟩
     have:y≠x:=fun e=>hj (Ho hN e1 (e▸hi))
     simp[this,e]
    ·exact .inr ⟨k,c,e,z.sameBut hs (cne y c e)⟩
  ·obtain⟨w',z⟩:=I.cell y c e
   exact⟨w',z.sameBut hs (cne y c e)⟩
  ·obtain⟨e,n,ne,nf,d⟩:=I.pin p hp
   exact⟨(hs.2 p.1 ne).trans e,n,ne,nf,d⟩
 ·have hfn:X.fn x=true:=by
   rcases hf with z | z
   ·exact z
   ·rw[z]at hk;cases hk
  obtain⟨c,hc⟩:=I.ok.has x (.inl hk)
  obtain⟨w',z⟩:=I.cell x c hc
  refine wpAny_storeName_cell I.ok.kind hk hc z (fun h' hc' hs=>?_)
  obtain⟨oc,hoc,hocd⟩:=id z
  refine h { s with heap:=h' } ⟨I.ok,I.os,I.bare,⟨fun b o e n hb hx=>?_,fun b o e n hb hx=>?_,I.base.free,fun b o e hx=>?_,I.base.tups,I.base.frzs,I.base.tbls⟩,⟨m,hn.sameBut hs (Ne.symm (cne x c hc)),fun j y v' e1 e2 e3=>?_⟩,fun y c' e=>?_,I.free,I.freeC,fun p hp=>?_,tracked ⟨oc,hoc,I.freeC x c hc⟩ hs,by simpa using I.len⟩ ⟨c,hs,.inr hc⟩
  ·exact(hs.2 b (Nat.ne_of_lt (Nat.lt_of_lt_of_le (Heap.lt_size e) (I.ok.cab x c hfn hc)))).trans (I.base.keep b o e n hb hx)
  ·obtain⟨sl,e1⟩:=I.base.slot b o e n hb hx
   exact⟨sl,(hs.2 b (Nat.ne_of_lt (Nat.lt_of_lt_of_le (Heap.lt_size e) (I.ok.cab x c hfn hc)))).trans e1⟩
  ·obtain⟨o',e1⟩:=I.base.there b o e hx
   exact⟨o',(hs.2 b (Nat.ne_of_lt (Nat.lt_of_lt_of_le (Heap.lt_size e) (I.ok.cab x c hfn hc)))).trans e1⟩
  ·by_cases hj:j=i
   ·subst hj
    rw[hi]at e1;cases e1
    rw[List.getElem?_set_self hiσ]at e2
    cases e2
    exact⟨u,r,.inr ⟨.inl hk,c,hc,hc'⟩⟩
   ·rw[List.getElem?_set_ne (Ne.symm hj)]at e2
    obtain⟨u',r',q⟩:=hl j y v' e1 e2 e3
    refine⟨u',r',?_⟩
    rcases q with q | ⟨k,c',e,z'⟩
    ·exact .inl q
    ·refine .inr ⟨k,c',e,z'.sameBut hs ?_⟩
     rintro rfl
     exact hj (Ho hN e1 (I.ok.inj _ _ _ e hc▸hi))
  ·by_cases hcc:c'=c
   ·subst hcc;exact⟨_,hc'⟩
   ·obtain⟨w2,z2⟩:=I.cell y c' e
    exact⟨w2,z2.sameBut hs hcc⟩
  ·obtain⟨e,n,ne,nf,d⟩:=I.pin p hp
   refine⟨(hs.2 p.1 ?_).trans e,n,ne,nf,d⟩
   intro q
   rw[q,hoc]at e
   have q':oc=p.2:=Option.some.inj e
   exact d w' (by rw[← q'];exact hocd)
theorem Hq {M:Model}{A:Around}{E:Value→Shared→Prop}{i:Nat}{x:Str}{v:V}{u:Value}{Q:Unit→Shared→Prop}(I:Ap X pins σ H s)(hN:X.N.Nodup)(hi:X.N[i]?=some x)(hx:Wv X.env.scope x)(r:Aw v u)
 (h:∀ s',Ap X pins (σ.set i (some v)) H s'→Q () s') (hf:X.fn x=true∨X.env.scope.names.lookup x=some .local:=by first | exact .inl rfl | exact .inr rfl | assumption):wpAny M A (storeName X.env x u) Q E s:=
 JV I hN hi hx r (fun s' I' _=>h s' I') hf
theorem Ap.call' {s':Shared}{ch:List Addr}(I:Ap X pins σ H s)(ho:s'.os=s.os)(u:Un (Dy X.stack) ch H H' s.heap s'.heap)(hok:FH X.prog X.w H' s'.heap)(hg:AllBare s'.gens)
 (hch:∀ b∈ch,(b∈X.ex∨X.s₀.heap.objs.size≤b)∧b≠X.env.locals∧(∀ x c,X.env.cells.lookup x=some c→c≠b)∧∀ p∈X.pn++pins,p.1≠b):Ap X pins σ H' s':=by
 obtain⟨h',g',d',t',o'⟩:=s'
 have e:o'=s.os:=ho
 subst e
 exact I.call (g':=g') (t':=t') (d':=d') u hok hg hch
end
abbrev XK:=Value→Option Addr→Hp→Prop
abbrev St:=List (Option V)
abbrev VK:=V→Hp→Prop
abbrev TE:=St→Hp→VK→Prop
abbrev TT:=St→Hp→(Bool→Hp→Prop)→Prop
abbrev TA:=St→Hp→(List V→Hp→Prop)→Prop
structure JD where
 nx:St→Hp→Prop
 rt:VK
 bk:St→Hp→Prop:=fun _ _=>False
 ct:St→Hp→Prop:=fun _ _=>False
abbrev TS:=JD→St→Hp→Prop
def EP (X:Cx)(pins:List (Addr×Obj))(σ:St)(Q:VK)(u:Value)(s':Shared):Prop:=∃ v H',Ap X pins σ H' s'∧Aw v u∧Q v H'
def TP (X:Cx)(pins:List (Addr×Obj))(σ:St)(Q:Bool→Hp→Prop)(b:Bool)(s':Shared):Prop:=∃ H',Ap X pins σ H' s'∧Q b H'
def AP (X:Cx)(pins:List (Addr×Obj))(σ:St)(Q:List V→Hp→Prop)(us:List Value)(s':Shared):Prop:=∃ vs H',Ap X pins σ H' s'∧A3 vs us∧Q vs H'
def SP (X:Cx)(pins:List (Addr×Obj))(D:JD)(f:Flow)(s':Shared):Prop:=
 match f with
 | .next=>∃ σ' H',Ap X pins σ' H' s'∧D.nx σ' H'
 | .brk=>∃ σ' H',Ap X pins σ' H' s'∧D.bk σ' H'
 | .cont=>∃ σ' H',Ap X pins σ' H' s'∧D.ct σ' H'
 | .ret u=>∃ v σ' H',Ap X pins σ' H' s'∧Aw v u∧D.rt v H'
def PE (X:Cx)(e:Expr)(t:TE):Prop:=
 ∀(pins:List (Addr×Obj)) (s:Shared) (σ:St) (H:Hp) (Q:VK),Ap X pins σ H s→t σ H Q→wpAny (model X.prog X.w) X.A (eval e X.env) (EP X pins σ Q) X.xe s
def PT (X:Cx)(e:Expr)(t:TT):Prop:=
 ∀(pins:List (Addr×Obj)) (s:Shared) (σ:St) (H:Hp) (Q:Bool→Hp→Prop),Ap X pins σ H s→t σ H Q→wpAny (model X.prog X.w) X.A (isTrue e X.env (eval e X.env)) (TP X pins σ Q) X.xe s
def PW (X:Cx)(e:Expr)(t:TT):Prop:=
 ∀(whole:Sem Value) (pins:List (Addr×Obj)) (s:Shared) (σ:St) (H:Hp) (Q:Bool→Hp→Prop),Ap X pins σ H s→t σ H Q→wpAny (model X.prog X.w) X.A (isTrue e X.env whole) (TP X pins σ Q) X.xe s
theorem PW.pt {X:Cx}{e:Expr}{t:TT}(h:PW X e t):PT X e t:=h _
def PA (X:Cx)(es:List Expr)(t:TA):Prop:=
 ∀(pos:Pos) (pins:List (Addr×Obj)) (s:Shared) (σ:St) (H:Hp) (Q:List V→Hp→Prop),Ap X pins σ H s→t σ H Q→wpAny (model X.prog X.w) X.A (spliced (backTo pos (starEach es X.env))) (AP X pins σ Q) X.xe s
def PS (X:Cx)(st:Stmt)(t:TS):Prop:=
 ∀(pins:List (Addr×Obj)) (s:Shared) (σ:St) (H:Hp) (D:JD),Ap X pins σ H s→t D σ H→wpAny (model X.prog X.w) X.A (exec st X.env) (SP X pins D) X.xe s
def Jv (X:Cx)(st:List Stmt)(t:TS):Prop:=
 ∀(pins:List (Addr×Obj)) (s:Shared) (σ:St) (H:Hp) (D:JD),Ap X pins σ H s→t D σ H→wpAny (model X.prog X.w) X.A (execs st X.env) (SP X pins D) X.xe s
theorem Bq {α:Type}{t:Sem α}{Q Q':α→Shared→Prop}{M:Model}{A:Around}{E:Value→Shared→Prop}{s:Shared}(h:wpAny M A t Q E s)(hQ:∀ a s,Q a s→Q' a s):wpAny M A t Q' E s:=wpAny_mono h hQ fun _ _ x=>x
section
variable {X:Cx}
def O9 (i:Nat):TE:=fun σ H Q=>∃ v,σ[i]?=some (some v)∧Q v H
def tC (v:V):TE:=fun _ H Q=>Q v H
theorem PB {i:Nat}{x:Str}{pos:Pos}(hN:X.N[i]?=some x)(hv:W8 X.env.scope x)(hd:(x==("__debug__":Str))=false:=by decide)(hcd:(x==("__classdict__":Str))=false:=by decide):PE X (.Name x pos) (O9 i):=by
 intro pins s σ H Q I h
 obtain⟨v,e,h⟩:=h
 obtain⟨m,hn,hl⟩:=I.loc
 obtain⟨u,r,l⟩:=hl i x v hN e hv
 have fin:EP X pins σ Q u s:=⟨v,H,I,r,h⟩
 rcases l with⟨hk,hm⟩ | ⟨hk,c,hc,hcell⟩
 ·exact wpAny_Name (wpAny_loadName_local I.ok.kind hk hn hm fin) hd
 ·rcases hk with hk | hk
  ·exact wpAny_Name (wpAny_loadName_cell I.ok.kind hk hc hcell fin) hd
  ·exact wpAny_Name (wpAny_loadName_free I.ok.kind hk hc hcell fin hcd) hd
theorem AD {i j pos}:PE X (.Constant (.int i) j pos) (tC (.int i)):=fun _ _ _ H _ I h=>wpAny_Constant_int ⟨.int i,H,I.tok _,⟨_,rfl⟩,h⟩
theorem BF {b j pos}:PE X (.Constant (.bool b) j pos) (tC (.bl b)):=fun _ _ _ H _ I h=>Constant_bool ⟨.bl b,H,I,rfl,h⟩
theorem CL {j pos}:PE X (.Constant .none j pos) (tC .non):=fun _ _ _ H _ I h=>Constant_none ⟨.non,H,I,rfl,h⟩
theorem AI {x j pos}:PE X (.Constant (.str x) j pos) (tC (.str x)):=fun _ _ _ H _ I h=>Calls.Constant_str ⟨.str x,H,I.tok _,⟨_,rfl⟩,h⟩
def Gl (X:Cx)(x:Str):Prop:=X.env.kindOf x=some .globalImplicit
theorem DQ {E:Value→Shared→Prop}{pins:List (Addr×Obj)}{s:Shared}{σ:St}{H:Hp}{x:Str}{u:Value}{pos:Pos}{Q:Value→Shared→Prop}(I:Ap X pins σ H s)(hg:Gl X x)(hm:X.mg x=some u)(h:Q u s)
 (hd:(x==("__debug__":Str))=false:=by decide):wpAny (model X.prog X.w) X.A (eval (.Name x pos) X.env) Q E s:=
 Calls.Name_function_global I.ok.kind hg (Calls.loadGlobal_global (by rw[I.ok.glob];exact I.mod.glob.keeps I.bk) hm h) hd
theorem Dz {E:Value→Shared→Prop}{pins:List (Addr×Obj)}{s:Shared}{σ:St}{H:Hp}{x:Str}{u:Value}{pos:Pos}{Q:Value→Shared→Prop}(I:Ap X pins σ H s)(hg:Gl X x)(hm:X.mg x=none)(hv:bootBuiltins x=some u)(h:Q u s)
 (hn:x≠"__name__":=by decide) (hd:(x==("__debug__":Str))=false:=by decide):wpAny (model X.prog X.w) X.A (eval (.Name x pos) X.env) Q E s:=by
 obtain⟨mb,h1,h2⟩:=I.mod.blt
 exact Calls.Name_function_global I.ok.kind hg (Calls.loadGlobal_builtin (by rw[I.ok.glob];exact I.mod.glob.keeps I.bk) hm (by rw[I.ok.blt];exact h1.keeps I.bk) ((h2 x hn).trans hv) h) hd
theorem Jw {x:Str}{v:V}{u:Value}{pos:Pos}(hg:Gl X x)(hm:X.mg x=some u)(r:Aw v u)(hd:(x==("__debug__":Str))=false:=by decide):PE X (.Name x pos) (tC v):=
 fun _ _ _ H _ I h=>DQ I hg hm ⟨v,H,I,r,h⟩ hd
theorem RN {x:Str}{v:V}{u:Value}{pos:Pos}(hg:Gl X x)(hm:X.mg x=none)(hv:bootBuiltins x=some u)(r:Aw v u)(hn:x≠"__name__":=by decide)(hd:(x==("__debug__":Str))=false:=by decide):PE X (.Name x pos) (tC v):=
 fun _ _ _ H _ I h=>Dz I hg hm hv ⟨v,H,I,r,h⟩ hn hd
variable {a b:Expr}{ta tb:TE}{pos:Pos}
def tB (t:TE):TT:=fun σ H Q=>t σ H fun x H1=>∃ c,x=.bl c∧Q c H1
theorem A4 {e:Expr}{t:TE}(h:PE X e t)(he:∀ whole,isTrue e X.env whole=(do let v ← whole;standAt e.pos;holding [v] (truthy v)):=by intro _;rfl):PT X e (tB t):=by
 intro pins s σ H Q I hw
 refine isTrue_plain (Bq (h pins s σ H _ I hw) fun v s1 zq=>?_) (he _)
 obtain⟨x,H1,I1,r1,q1⟩:=zq
 obtain⟨d,rfl,q⟩:=q1
 cases r1
 exact wpAny_truthy_bool ⟨H1,I1,q⟩
variable {tA tB':TT}{rest:List Expr}
def XA (t u:TT):TT:=fun σ H Q=>t σ H fun c H1=>if c=true then u σ H1 Q else Q false H1
def Yb (t u:TT):TT:=fun σ H Q=>t σ H fun c H1=>if c=true then Q true H1 else u σ H1 Q
def XB (t:TT):TT:=fun σ H Q=>t σ H fun c H1=>Q (!c) H1
theorem Jx (ha:PT X a tA):PW X (.BoolOp .And [a] pos) tA:=by
 intro wh pins s σ H Q I h
 refine isTrue_and (Bq (ha pins s σ H Q I h) fun c s1 e=>?_)
 cases c with
 | true=>exact isTrue_and_nil e
 | false=>exact e
theorem Bu (ha:PT X a tA):PW X (.BoolOp .Or [a] pos) tA:=by
 intro wh pins s σ H Q I h
 refine isTrue_or (Bq (ha pins s σ H Q I h) fun c s1 e=>?_)
 cases c with
 | false=>exact isTrue_or_nil e
 | true=>exact e
theorem MO (ha:PT X a tA)(hb:PW X (.BoolOp .And (b::rest) pos) tB'):PW X (.BoolOp .And (a::b::rest) pos) (XA tA tB'):=by
 intro wh pins s σ H Q I h
 refine isTrue_and (Bq (ha pins s σ H _ I h) fun c s1 zq=>?_)
 obtain⟨H1,I1,q1⟩:=zq
 cases c with
 | true=>exact hb wh pins s1 σ H1 Q I1 q1
 | false=>exact⟨H1,I1,q1⟩
theorem By (ha:PT X a tA)(hb:PW X (.BoolOp .Or (b::rest) pos) tB'):PW X (.BoolOp .Or (a::b::rest) pos) (Yb tA tB'):=by
 intro wh pins s σ H Q I h
 refine isTrue_or (Bq (ha pins s σ H _ I h) fun c s1 zq=>?_)
 obtain⟨H1,I1,q1⟩:=zq
 cases c with
 | true=>exact⟨H1,I1,q1⟩
 | false=>exact hb wh pins s1 σ H1 Q I1 q1
theorem A5 (ha:PT X a tA):PT X (.UnaryOp .Not a pos) (XB tA):=by
 intro pins s σ H Q I h
 exact isTrue_not (ha pins s σ H (fun c H1=>Q (!c) H1) I h)
def VC (ta tb:TE):TE:=fun σ H Q=>ta σ H fun x H1=>∃ c,x=.bl c∧if c=true then tb σ H1 Q else Q (.bl false) H1
def XC (ta tb:TE):TE:=fun σ H Q=>ta σ H fun x H1=>∃ c,x=.bl c∧if c=true then Q (.bl true) H1 else tb σ H1 Q
def VD (ta:TE):TE:=fun σ H Q=>ta σ H fun x H1=>∃ c,x=.bl c∧Q (.bl (!c)) H1
theorem A6 {op}{t:TE}(h:PE X a t):PE X (.BoolOp op [a] pos) t:=fun pins s σ H Q I hw=>BoolOp_one (h pins s σ H Q I hw)
theorem Ax (ha:PE X a ta)(hb:PE X (.BoolOp .And (b::rest) pos) tb):PE X (.BoolOp .And (a::b::rest) pos) (VC ta tb):=by
 intro pins s σ H Q I h
 refine BoolOp_and (Bq (ha pins s σ H _ I h) fun v s1 zq=>?_)
 obtain⟨x,H1,I1,r1,q1⟩:=zq
 obtain⟨c,rfl,q1⟩:=q1
 cases r1
 refine wpAny_truthy_bool ?_
 cases c with
 | true=>exact hb pins s1 σ H1 Q I1 q1
 | false=>exact⟨.bl false,H1,I1,rfl,q1⟩
theorem Sl (ha:PE X a ta)(hb:PE X (.BoolOp .Or (b::rest) pos) tb):PE X (.BoolOp .Or (a::b::rest) pos) (XC ta tb):=by
 intro pins s σ H Q I h
 refine BoolOp_or (Bq (ha pins s σ H _ I h) fun v s1 zq=>?_)
 obtain⟨x,H1,I1,r1,q1⟩:=zq
 obtain⟨c,rfl,q1⟩:=q1
 cases r1
 refine wpAny_truthy_bool ?_
 cases c with
 | false=>exact hb pins s1 σ H1 Q I1 q1
 | true=>exact⟨.bl true,H1,I1,rfl,q1⟩
theorem PC (ha:PE X a ta):PE X (.UnaryOp .Not a pos) (VD ta):=by
 intro pins s σ H Q I h
 refine UnaryOp_ (Bq (ha pins s σ H _ I h) fun v s1 zq=>?_)
 obtain⟨x,H1,I1,r1,q1⟩:=zq
 obtain⟨c,rfl,q1⟩:=q1
 cases r1
 exact not_of (wpAny_truthy_bool ⟨.bl (!c),H1,I1,rfl,q1⟩)
end
def As (K:PySem.W.Frag)(H:Hp)(a:Addr)(xs:List V):Prop:=
 Rd H a (.lst xs)∨
  ∃(o:Obj) (its:Array Value) (n:Nat),K.lookup a=some o∧o.cls=.type "list"∧o.dict=none∧o.data=.seq its n∧its.size≤sizeLine∧A3 xs its.toList
def A0 (K:PySem.W.Frag)(H:Hp)(a:Addr)(xs:List V):Prop:=
 Rd H a (.tup xs)∨
  ∃(o:Obj) (its:Array Value) (n:Nat),K.lookup a=some o∧o.cls=.type "tuple"∧o.data=.seq its n∧its.size≤sizeLine∧A3 xs its.toList
def XD:Value→Option V
 | .none=>some .non
 | .bool b=>some (.bl b)
 | .int i _=>some (.int i)
 | .str x _=>some (.str x)
 | .bytes b _=>some (.byt b)
 | .float b _=>some (.flt b)
 | .ref a=>some (.ref a)
 | .type n=>some (.ty n)
 | _=>none
theorem Aw.abs {x:V}{u:Value}(r:Aw x u):XD u=some x:=by
 cases x with
 | non=>cases r;rfl
 | bl _=>cases r;rfl
 | int _=>obtain⟨t,rfl⟩:=r;rfl
 | str _=>obtain⟨t,rfl⟩:=r;rfl
 | byt _=>obtain⟨t,rfl⟩:=r;rfl
 | flt _=>obtain⟨t,rfl⟩:=r;rfl
 | ref _=>cases r;rfl
 | ty _=>cases r;rfl
theorem Aw.inj {x y:V}{u:Value}(r:Aw x u)(q:Aw y u):x=y:=Option.some.inj (r.abs.symm.trans q.abs)
theorem A3.inj:∀{xs ys:List V} {us:List Value},A3 xs us→A3 ys us→xs=ys:=by
 intro A B C h g
 induction h generalizing B with
 | nil=>
  cases g
  rfl
 | cons r t ih=>
  cases g with
  | cons r' t'=>rw[r.inj r',ih t']
section
variable {X:Cx}{pins:List (Addr×Obj)}{σ:St}{H:Hp}{s:Shared}{a:Addr}{xs ys:List V}
theorem As.of {K:PySem.W.Frag}(h:H a=some (.lst xs)):As K H a xs:=.inl (.inl h)
theorem A0.of {K:PySem.W.Frag}(h:H a=some (.tup xs)):A0 K H a xs:=.inl (.inl h)
theorem Ap.list (I:Ap X pins σ H s)(h:As X.K H a xs):∃ its:List Value,A3 xs its∧PlainL s.heap a its.toArray∧xs.length≤sizeLine:=by
 rcases h with h | ⟨o,its,n,hk,hc,hd,hs,hz,r⟩
 ·obtain⟨z,its,n,r,e⟩:=h.ok I.hok
  exact⟨its,r,⟨_,n,e,rfl,rfl,rfl⟩,z⟩
 ·refine⟨its.toList,r,⟨o,n,I.kIn a o hk,hc,hd,by simpa using hs⟩,?_⟩
  have e:=r.length
  simp only[Array.length_toList]at e
  omega
theorem Ap.tuple (I:Ap X pins σ H s)(h:A0 X.K H a xs):∃ its:List Value,A3 xs its∧IsTup s.heap a its.toArray∧xs.length≤sizeLine:=by
 rcases h with h | ⟨o,its,n,hk,hc,hs,hz,r⟩
 ·obtain⟨z,its,r,p⟩:=h.ok I.hok
  exact⟨its,r,p,z⟩
 ·refine⟨its.toList,r,⟨o,I.kIn a o hk,hc,n,by simpa using hs⟩,?_⟩
  have e:=r.length
  simp only[Array.length_toList]at e
  omega
theorem Ap.list_inj (I:Ap X pins σ H s)(h:As X.K H a xs)(h':As X.K H a ys):xs=ys:=by
 obtain⟨its,r,⟨o,n,e,_,_,d⟩,_⟩:=I.list h
 obtain⟨its',r',⟨o',n',e',_,_,d'⟩,_⟩:=I.list h'
 rw[e]at e';cases e'
 rw[d]at d'
 injection d' with d1 _
 have:its=its':=by simpa using congrArg Array.toList d1
 subst this
 exact r.inj r'
theorem Ap.tuple_inj (I:Ap X pins σ H s)(h:A0 X.K H a xs)(h':A0 X.K H a ys):xs=ys:=by
 obtain⟨its,r,⟨o,e,_,n,d⟩,_⟩:=I.tuple h
 obtain⟨its',r',⟨o',e',_,n',d'⟩,_⟩:=I.tuple h'
 rw[e]at e';cases e'
 rw[d]at d'
 injection d' with d1 _
 have:its=its':=by simpa using congrArg Array.toList d1
 subst this
 exact r.inj r'
end
abbrev Cx.wish (X:Cx)(E:Value→Shared→Prop):Cx:={ X with xe:=E }
abbrev Cx.nox (X:Cx):Cx:=X.wish fun _ _=>False
theorem Cx.Ok.wish {X:Cx}(ok:X.Ok)(E:Value→Shared→Prop):(X.wish E).Ok:=
 ⟨ok.mod,ok.kind,ok.glob,ok.blt,ok.above,ok.inj,ok.has,ok.cab,ok.hd,ok.frames,ok.stk,ok.exf,ok.bs,ok.bsz,ok.noex,ok.exfs,ok.funs,ok.frf⟩
theorem Cx.Ok.unwish {X:Cx}{E:Value→Shared→Prop}(ok:(X.wish E).Ok):X.Ok:=
 ⟨ok.mod,ok.kind,ok.glob,ok.blt,ok.above,ok.inj,ok.has,ok.cab,ok.hd,ok.frames,ok.stk,ok.exf,ok.bs,ok.bsz,ok.noex,ok.exfs,ok.funs,ok.frf⟩
section
variable {X:Cx}{pins:List (Addr×Obj)}{σ:St}{H:Hp}{s:Shared}{E:Value→Shared→Prop}
theorem Ap.wish (I:Ap X pins σ H s)(E:Value→Shared→Prop):Ap (X.wish E) pins σ H s:=⟨I.ok.wish E,I.os,I.bare,I.base,I.loc,I.cell,I.free,I.freeC,I.pin,I.hok,I.len⟩
theorem Ap.unwish (I:Ap (X.wish E) pins σ H s):Ap X pins σ H s:=⟨I.ok.unwish,I.os,I.bare,I.base,I.loc,I.cell,I.free,I.freeC,I.pin,I.hok,I.len⟩
theorem SP.unwish {D:JD}{f:Flow}{s':Shared}(h:SP (X.wish E) pins D f s'):SP X pins D f s':=by
 cases f with
 | next=>obtain⟨σ',H',I,q⟩:=h;exact⟨σ',H',I.unwish,q⟩
 | brk=>obtain⟨σ',H',I,q⟩:=h;exact⟨σ',H',I.unwish,q⟩
 | cont=>obtain⟨σ',H',I,q⟩:=h;exact⟨σ',H',I.unwish,q⟩
 | ret u=>obtain⟨v,σ',H',I,r,q⟩:=h;exact⟨v,σ',H',I.unwish,r,q⟩
theorem Jv.nox {st:List Stmt}{t:TS}(h:Jv X.nox st t):Jv X st t:=fun pins s σ H D I hw=>
 wpAny_mono (h pins s σ H D (I.wish _) hw) (fun _ _ q=>q.unwish) fun _ _ z=>False.elim z
end
section
variable {X:Cx}{st:Stmt}{rest:List Stmt}{t u:TS}{e:Expr}{te:TE}{pos:Pos}
def VE:TS:=fun D σ H=>D.nx σ H
def TY (t u:TS):TS:=fun D σ H=>t { D with nx:=u D } σ H
theorem AT:Jv X [] VE:=fun _ _ σ H _ I h=>wpAny_execs_nil ⟨σ,H,I,h⟩
theorem AG (h1:PS X st t)(h2:Jv X rest u):Jv X (st::rest) (TY t u):=by
 intro pins s σ H D I h
 refine wpAny_execs_cons (Bq (h1 pins s σ H { D with nx:=u D } I h) fun f s1 q=>?_)
 cases f with
 | next=>
  obtain⟨σ',H',I',q⟩:=q
  exact h2 pins s1 σ' H' D I' q
 | ret v=>exact q
 | brk=>exact q
 | cont=>exact q
theorem AH (h1:PS X st t):Jv X [st] t:=by
 intro pins s σ H D I h
 refine wpAny_execs_cons (Bq (h1 pins s σ H D I h) fun f s1 q=>?_)
 cases f with
 | next=>exact wpAny_execs_nil q
 | ret v=>exact q
 | brk=>exact q
 | cont=>exact q
theorem Ap.quiet {pins:List (Addr×Obj)}{σ:St}{H:Hp}{s:Shared}(I:Ap X pins σ H s):interactive X.env=false:=by simp[interactive,I.ok.kind]
def VF (te:TE):TS:=fun D σ H=>te σ H fun _ H1=>D.nx σ H1
theorem Ha (he:PE X e te)(hs:swapsWith e none pos.line X.env=pure false:=by rfl):PS X (.Expr e pos) (VF te):=by
 intro pins s σ H D I h
 exact wpAny_Expr_any (Bq (he pins s σ H _ I h) fun v s1 ⟨x,H1,I1,r1,q1⟩=>⟨σ,H1,I1,q1⟩) I.quiet hs
def XE (te:TE):TS:=fun D σ H=>te σ H D.rt
theorem AM (he:PE X e te):PS X (.Return (some e) pos) (XE te):=by
 intro pins s σ H D I h
 exact wpAny_Return_some (Bq (he pins s σ H _ I h) fun v s1 ⟨x,H1,I1,r1,q1⟩=>⟨x,σ,H1,I1,r1,q1⟩)
def XF (c:TT)(t u:TS):TS:=fun D σ H=>c σ H fun b H1=>if b=true then t D σ H1 else u D σ H1
theorem Ah {c:Expr}{a b:List Stmt}{tc:TT}(hc:PT X c tc)(ha:Jv X a t)(hb:Jv X b u):PS X (.If c a b pos) (XF tc t u):=by
 intro pins s σ H D I h
 refine wpAny_If (Bq (hc pins s σ H _ I h) fun d s1 zq=>?_)
 obtain⟨H1,I1,q1⟩:=zq
 cases d with
 | true=>exact ha pins s1 σ H1 D I1 q1
 | false=>exact hb pins s1 σ H1 D I1 q1
def TZ:TS:=fun _ _ _=>False
theorem DC:PS X st TZ:=fun _ _ _ _ _ _ h=>h.elim
end
abbrev TG:=V→St→Hp→(St→Hp→Prop)→Prop
abbrev Ta:=List V→St→Hp→(St→Hp→Prop)→Prop
def PG (X:Cx)(target:Expr)(t:TG):Prop:=
 ∀(pins:List (Addr×Obj)) (s:Shared) (σ:St) (H:Hp) (v:V) (u:Value) (Q:St→Hp→Prop),Ap X pins σ H s→Aw v u→t v σ H Q→
  wpAny (model X.prog X.w) X.A (assign target X.env u) (fun _ s'=>∃ σ' H',Ap X pins σ' H' s'∧Q σ' H') X.xe s
def VG (X:Cx)(ts:List Expr)(t:Ta):Prop:=
 ∀(pins:List (Addr×Obj)) (s:Shared) (σ:St) (H:Hp) (vs:List V) (us:List Value) (Q:St→Hp→Prop),Ap X pins σ H s→A3 vs us→t vs σ H Q→
  wpAny (model X.prog X.w) X.A (assignInOrder ((assignEach ts X.env).map (·.2)) us) (fun _ s'=>∃ σ' H',Ap X pins σ' H' s'∧Q σ' H') X.xe s
abbrev Tb:=V→V→V→Hp→(Hp→Prop)→Prop
def VH (X:Cx)(t:Tb):Prop:=
 ∀(pins:List (Addr×Obj)) (s:Shared) (σ:St) (H:Hp) (o i v:V) (ov iv u:Value) (Q:Hp→Prop),Ap X pins σ H s→Aw o ov→Aw i iv→Aw v u→t o i v H Q→
  wpAny (model X.prog X.w) X.A (setItem ov iv u) (fun _ s'=>∃ H',Ap X pins σ H' s'∧Q H') X.xe s
section
variable {X:Cx}{pos:Pos}
def Kr (i:Nat):TG:=fun v σ H Q=>Q (σ.set i (some v)) H
theorem DR {i:Nat}{x:Str}(hN:X.N.Nodup)(hi:X.N[i]?=some x)(hx:Wv X.env.scope x)(hf:X.fn x=true∨X.env.scope.names.lookup x=some .local:=by first | exact .inl rfl | exact .inr rfl | assumption):PG X (.Name x pos) (Kr i):=by
 intro pins s σ H v u Q I r h
 exact wpAny_assign_Name (Hq I hN hi hx r (fun s' I'=>⟨_,H,I',h⟩) hf)
def XG:Ta:=fun vs σ H Q=>vs=[]∧Q σ H
def VI (t:TG)(u:Ta):Ta:=fun vs σ H Q=>∃ v r,vs=v::r∧t v σ H fun σ' H'=>u r σ' H' Q
theorem RO:VG X [] XG:=by
 intro pins s σ H vs us Q I r h
 obtain⟨e,h⟩:=h
 subst e
 cases r
 exact assignInOrder_nil ⟨σ,H,I,h⟩
theorem Hr {e:Expr}{es:List Expr}{t:TG}{u:Ta}(h1:PG X e t)(h2:VG X es u)
 (hs:(assignEach (e::es) X.env).map (·.2)=assign e X.env::(assignEach es X.env).map (·.2):=by rfl):VG X (e::es) (VI t u):=by
 intro pins s σ H vs us Q I r h
 obtain⟨v,vr,e1,h⟩:=h
 subst e1
 cases r with
 | cons r rr=>
  rw[hs]
  refine assignInOrder_cons (Bq (h1 pins s σ H _ _ _ I r h) fun _ s1 zq=>?_)
  obtain⟨σ1,H1,I1,q1⟩:=zq
  exact h2 pins s1 σ1 H1 _ _ Q I1 rr q1
def XH (to ti:TE)(t:Tb):TG:=fun v σ H Q=>to σ H fun o H1=>ti σ H1 fun i H2=>t o i v H2 fun H3=>Q σ H3
theorem PD {o i:Expr}{to ti:TE}{t:Tb}(ho:PE X o to)(hi:PE X i ti)(hs:VH X t)
 (ha:∀ v,assign (.Subscript o i pos) X.env v=(do
  let ov ← holding [v] (eval o X.env)
  let iv ← holding [v,ov] (eval i X.env)
  standAt pos
  holding [v,ov,iv] (setItem ov iv v)
  release [v,ov,iv] []):=by intro _;rfl):PG X (.Subscript o i pos) (XH to ti t):=by
 intro pins s σ H v u Q I r h
 rw[ha]
 refine wpAny_bind (wpAny_holding (Bq (ho pins s σ H _ I h) fun ov s1 zq=>?_))
 obtain⟨x,H1,I1,r1,q1⟩:=zq
 refine wpAny_bind (wpAny_holding (Bq (hi pins s1 σ H1 _ I1 q1) fun iv s2 zq=>?_))
 obtain⟨y,H2,I2,r2,q2⟩:=zq
 refine wpAny_bind (wpAny_standAt (wpAny_bind (wpAny_holding (Bq (hs pins s2 σ H2 x y v ov iv u _ I2 r1 r2 r q2) fun _ s3 zq=>?_))))
 obtain⟨H3,I3,q3⟩:=zq
 exact wpAny_release ⟨σ,H3,I3,q3⟩
def RP (te:TE)(g:TG):TS:=fun D σ H=>te σ H fun x H1=>g x σ H1 D.nx
theorem MP {tg e:Expr}{te:TE}{g:TG}(he:PE X e te)(hg:PG X tg g)(hs:swapsWithSole [tg] e pos.line X.env=pure false:=by rfl)(hw:swappedStores [tg] e X.env=pure none:=by rfl)
 (h1:(assignEach [tg] X.env).map (·.2)=[assign tg X.env]:=by rfl):PS X (.Assign [tg] e pos) (RP te g):=by
 intro pins s σ H D I h
 refine wpAny_Assign_stores (Bq (he pins s σ H _ I h) fun v s1 zq=>?_) hs hw
 obtain⟨x,H1,I1,r1,q1⟩:=zq
 rw[h1]
 exact Bq (hg pins s1 σ H1 x v _ I1 r1 q1) fun _ s2 q=>q
theorem Af {i:Nat}{x:Str}{e:Expr}{te:TE}{pos':Pos}(hN:X.N.Nodup)(hi:X.N[i]?=some x)(hx:Wv X.env.scope x)(he:PE X e te)(hs:swapsWith e (some (.Name x pos')) pos.line X.env=pure false:=by rfl)(hf:X.fn x=true∨X.env.scope.names.lookup x=some .local:=by first | exact .inl rfl | exact .inr rfl | assumption):
 PS X (.Assign [.Name x pos'] e pos) (RP te (Kr i)):=by
 intro pins s σ H D I h
 refine wpAny_Assign_Name (Bq (he pins s σ H _ I h) fun v s1 zq=>?_) hs
 obtain⟨y,H1,I1,r1,q1⟩:=zq
 exact Hq I1 hN hi hx r1 (fun s2 I2=>⟨_,H1,I2,q1⟩) hf
end
section
variable {X:Cx}{pos:Pos}
def PH (c:TT)(tb:TS):TS:=fun D σ H=>∃ W:Nat→St→Hp→Prop,(∃ m,W m σ H)∧∀ m σ H,W m σ H→
 c σ H fun b H1=>if b=true then ∃ N:St→Hp→Prop,(∀ σ' H',N σ' H'→∃ m',m'<m∧W m' σ' H')∧tb { D with nx:=N,ct:=N,bk:=D.nx } σ H1 else D.nx σ H1
theorem Ks {c:Expr}{body:List Stmt}{tc:TT}{tb:TS}(hp:PassesOwn (model X.prog X.w) X.A X.env X.xe)(hc:PT X c tc)(hb:Jv X body tb):PS X (.While c body [] pos) (PH tc tb):=by
 intro pins s σ H D I h
 obtain⟨W,⟨m0,w0⟩,turn⟩:=h
 refine wpAny_While (codeAny_whileLoop (fun n s'=>∃ σ' H',Ap X pins σ' H' s'∧W n σ' H') ?_ m0 ⟨σ,H,I,w0⟩)
 rintro n s1 ⟨σ1,H1,I1,w1⟩
 refine wpAny_passesOwn hp (Bq (hc pins s1 σ1 H1 _ I1 (turn n σ1 H1 w1)) fun b s2 zq=>?_)
 obtain⟨H2,I2,q2⟩:=zq
 cases b with
 | true=>
  obtain⟨N,hN,q2⟩:=q2
  rw[if_pos rfl]
  refine wpAny_passesOwn hp (Bq (hb pins s2 σ1 H2 _ I2 q2) fun f s3 q3=>?_)
  cases f with
  | next=>
   obtain⟨σ3,H3,I3,n3⟩:=q3
   obtain⟨m',hm,w3⟩:=hN σ3 H3 n3
   exact⟨m',hm,σ3,H3,I3,w3⟩
  | cont=>
   obtain⟨σ3,H3,I3,n3⟩:=q3
   obtain⟨m',hm,w3⟩:=hN σ3 H3 n3
   exact⟨m',hm,σ3,H3,I3,w3⟩
  | brk=>exact q3
  | ret v=>exact q3
 | false=>
  rw[if_neg Bool.false_ne_true]
  exact wpAny_execs_nil ⟨σ1,H2,I2,q2⟩
end
structure It where
 go:Nat→Hp→Prop
 yld:Nat→Hp→V→Hp→Prop
 stop:Nat→Hp→Prop
def FI (X:Cx)(pins:List (Addr×Obj))(H:Hp)(b:Addr):Prop:=
 H b=none∧b≠X.env.locals∧b∉X.fs∧(b∈X.ex∨X.s₀.heap.objs.size≤b)∧(∀ x c,X.env.cells.lookup x=some c→c≠b)∧∀ p∈X.pn++pins,p.1≠b
theorem Ap.fpOk {X:Cx}{pins:List (Addr×Obj)}{σ:St}{H H':Hp}{s:Shared}{b:Addr}(I:Ap X pins σ H s)(hb:s.heap.objs.size≤b)(hn:H' b=none):FI X pins H' b:=by
 refine⟨hn,Nat.ne_of_gt (Nat.lt_of_lt_of_le I.lt hb),I.nofs hb,.inr (Nat.le_trans I.sz hb),fun x c e z=>?_,fun p hp z=>?_⟩
 ·obtain⟨v,q⟩:=I.cell x c e
  exact absurd (Nat.lt_of_lt_of_le q.lt (by rw[z];exact hb)) (Nat.lt_irrefl _)
 ·exact absurd (Nat.lt_of_lt_of_le (Heap.lt_size (I.pin p hp).1) (by rw[z];exact hb)) (Nat.lt_irrefl _)
structure PK (P:Program)(w:World)(K:PySem.W.Frag)(tg:Expr)(J:It)(fp:List Addr)(it:Addr)(tn:Nat→Heap→Prop):Prop where
 mem:it∈fp
 obj:∀ i h,tn i h→∀ b∈fp,∃ o,h.get? b=some o∧∀ v,o.data≠.cell v
 keep:∀ i h h',tn i h→(∀ b∈fp,∀ o,h.get? b=some o→h'.get? b=some o)→tn i h'
 item:∀(X:Cx),X.prog=P→X.w=w→X.K=K→X.calm=true→∀(i:Nat) (pins:List (Addr×Obj)) (s:Shared) (σ:St) (H:Hp) (E:Value→Shared→Prop),Ap X pins σ H s→(∀ b∈fp,FI X pins H b)→tn i s.heap→J.go i H→
  wpAny (model P w) X.A (pyNext (.ref it)) (fun r s1=>∃ u,r=some u∧
   wpAny (model P w) X.A (letOwnedTupleGo tg (.ref it) u) (fun _ s2=>∃ x H',Ap X pins σ H' s2∧Aw x u∧J.yld i H x H'∧tn (i+1) s2.heap∧∀ b∈fp,H' b=none) E s1) E s
 done:∀(X:Cx),X.prog=P→X.w=w→X.K=K→X.calm=true→∀(i:Nat) (pins:List (Addr×Obj)) (s:Shared) (σ:St) (H:Hp) (E:Value→Shared→Prop),Ap X pins σ H s→(∀ b∈fp,FI X pins H b)→tn i s.heap→J.stop i H→
  wpAny (model P w) X.A (pyNext (.ref it)) (fun r s1=>r=none∧Ap X pins σ H s1) E s
 self:∀(A:Around) (i:Nat) (s:Shared) (Q:Value→Shared→Prop) (E:Value→Shared→Prop),tn i s.heap→Q (.ref it) s→wpAny (model P w) A (pyIter (.ref it)) Q E s
abbrev TI:=St→Hp→(It→Hp→Prop)→Prop
def YD (X:Cx)(pins:List (Addr×Obj))(σ:St)(tg:Expr)(R:It→Hp→Prop)(itv:Value)(s2:Shared):Prop:=
 ∃(it:Addr) (fp:List Addr) (tn:Nat→Heap→Prop) (J:It) (H':Hp),itv=.ref it∧Ap X pins σ H' s2∧PK X.prog X.w X.K tg J fp it tn∧tn 0 s2.heap∧(∀ b∈fp,FI X pins H' b)∧R J H'
def PI (X:Cx)(tg iter:Expr)(wi:TI):Prop:=
 ∀(pins:List (Addr×Obj)) (s:Shared) (σ:St) (H:Hp) (R:It→Hp→Prop),Ap X pins σ H s→wi σ H R→
  wpAny (model X.prog X.w) X.A (eval iter X.env) (fun v s1=>wpAny (model X.prog X.w) X.A (pyIter v) (YD X pins σ tg R) X.xe s1) X.xe s
theorem NN {M:Model}{A:Around}{E:Value→Shared→Prop}{s:Shared}{tg:Expr}{it:Addr}{u:Value}{o:Obj}{n:String}{vs:Array Value}{Q:Unit→Shared→Prop}(ho:s.heap.get? it=some o)(hc:o.cls=.type n)(hd:o.data=.fields vs)
 (hn:["enumerate","zip","dict_itemiterator","dict_reverseitemiterator","odict_iterator","itertools.zip_longest","itertools.pairwise"].contains n=false) (hQ:Q () s):wpAny M A (letOwnedTupleGo tg (.ref it) u) Q E s:=by
 unfold letOwnedTupleGo
 cases tg <;> first
  | exact wpAny_pure hQ
  | (cases u <;> first
   | exact wpAny_pure hQ
   | (refine wpAny_bind (wpAny_load ho ?_)
      rw[hc,hd]
      show wpAny M A (if(["enumerate","zip","dict_itemiterator","dict_reverseitemiterator","odict_iterator","itertools.zip_longest","itertools.pairwise"].contains n&&vs[0]?==some (rawInt _))=true then _ else _) Q E s
      rw[if_neg (by intro h;rw[hn,Bool.false_and]at h;cases h)]
      exact wpAny_pure hQ))
def VJ (K:PySem.W.Frag)(a:Addr):It:=
 ⟨fun i H=>∃ xs x,As K H a xs∧xs[i]?=some x,fun i H x H'=>H'=H∧∀ xs,As K H a xs→xs[i]?=some x,fun i H=>∃ xs,As K H a xs∧xs.length≤i⟩
def YE (K:PySem.W.Frag)(a:Addr):It:=
 ⟨fun i H=>∃ xs x,A0 K H a xs∧xs[i]?=some x,fun i H x H'=>H'=H∧∀ xs,A0 K H a xs→xs[i]?=some x,fun i H=>∃ xs,A0 K H a xs∧xs.length≤i⟩
def U4 (lo:Int)(n:Nat):It:=⟨fun i _=>i<n,fun i H x H'=>H'=H∧x=.int (lo+i),fun i _=>n≤i⟩
theorem OK {P:Program}{w:World}{K:PySem.W.Frag}{tg:Expr}(a it:Addr):PK P w K tg (VJ K a) [it] it (fun i h=>h.IsListIter it a i) where
 mem:=by simp
 obj:=fun i h st b hb=>by
  have e:b=it:=by simpa using hb
  subst e
  obtain⟨o,e,c,d⟩:=st
  exact⟨o,e,fun v z=>by rw[d]at z;cases z⟩
 keep:=fun i h h' st k=>st.at fun o e=>k it (by simp) o e
 item:=by
  intro X hP hw hK hc i pins s σ H E I hf st hg
  subst hP hw hK
  obtain⟨xs,x,hq,hx⟩:=hg
  obtain⟨its,rv,p,hz⟩:=I.list hq
  obtain⟨u,hu,ru⟩:=rv.get hx
  obtain⟨f0,f1,f2,f3,f4,f5⟩:=hf it (by simp)
  refine wpAny_pyNext_list_item st p.isList (x:=u) (by simpa using hu) fun h' st' sb=>?_
  have I1:Ap X pins σ H { s with heap:=h' }:=I.turned (t':=s.toks) (fun b o hb e=>(sb.2 b hb).trans e) f0 f1 f3 f4 f5
  obtain⟨o,e,c,d⟩:=id st'
  exact⟨u,rfl,NN (s:={ s with heap:=h' }) e c d (by decide) ⟨x,H,I1,ru,⟨rfl,fun ys hy=>by rw[I.list_inj hy hq];exact hx⟩,st',fun b hb=>(hf b hb).1⟩⟩
 done:=by
  intro X hP hw hK hc i pins s σ H E I hf st hg
  subst hP hw hK
  obtain⟨xs,hq,hx⟩:=hg
  obtain⟨its,rv,p,hz⟩:=I.list hq
  obtain⟨f0,f1,f2,f3,f4,f5⟩:=hf it (by simp)
  have hl:=rv.length
  exact wpAny_pyNext_list_end (I.ok.hd hc) st p.isList (by simp;omega) fun h' eb=>⟨rfl,I.turned (t':=s.toks) (fun b o hb e=>eb b o hb e) f0 f1 f3 f4 f5⟩
 self:=fun _ _ _ _ _ st h=>wpAny_pyIter_listiter st h
theorem MQ {P:Program}{w:World}{K:PySem.W.Frag}{tg:Expr}(a it:Addr):PK P w K tg (YE K a) [it] it (fun i h=>h.IsTupleIter it a i) where
 mem:=by simp
 obj:=fun i h st b hb=>by
  have e:b=it:=by simpa using hb
  subst e
  obtain⟨o,e,c,d⟩:=st
  exact⟨o,e,fun v z=>by rw[d]at z;cases z⟩
 keep:=fun i h h' st k=>st.at fun o e=>k it (by simp) o e
 item:=by
  intro X hP hw hK hc i pins s σ H E I hf st hg
  subst hP hw hK
  obtain⟨xs,x,hq,hx⟩:=hg
  obtain⟨its,rv,p,hz⟩:=I.tuple hq
  obtain⟨u,hu,ru⟩:=rv.get hx
  obtain⟨f0,f1,f2,f3,f4,f5⟩:=hf it (by simp)
  refine wpAny_pyNext_tuple_item st (show s.heap.IsTuple a its.toArray from p) (x:=u) (by simpa using hu) fun h' st' sb=>?_
  have I1:Ap X pins σ H { s with heap:=h' }:=I.turned (t':=s.toks) (fun b o hb e=>(sb.2 b hb).trans e) f0 f1 f3 f4 f5
  obtain⟨o,e,c,d⟩:=id st'
  exact⟨u,rfl,NN (s:={ s with heap:=h' }) e c d (by decide) ⟨x,H,I1,ru,⟨rfl,fun ys hy=>by rw[I.tuple_inj hy hq];exact hx⟩,st',fun b hb=>(hf b hb).1⟩⟩
 done:=by
  intro X hP hw hK hc i pins s σ H E I hf st hg
  subst hP hw hK
  obtain⟨xs,hq,hx⟩:=hg
  obtain⟨its,rv,p,hz⟩:=I.tuple hq
  obtain⟨f0,f1,f2,f3,f4,f5⟩:=hf it (by simp)
  have hl:=rv.length
  exact wpAny_pyNext_tuple_end (I.ok.hd hc) st (show s.heap.IsTuple a its.toArray from p) (by simp;omega) fun h' eb=>⟨rfl,I.turned (t':=s.toks) (fun b o hb e=>eb b o hb e) f0 f1 f3 f4 f5⟩
 self:=fun _ _ _ _ _ st h=>wpAny_pyIter_tupleiter st h
theorem MR {P:Program}{w:World}{K:PySem.W.Frag}{tg:Expr}(it:Addr)(lo:Int)(n:Nat):PK P w K tg (U4 lo n) [it] it (fun i h=>IsRangeIter h it (lo+(i:Nat)*1) ((n:Int)-(i:Nat)) 1) where
 mem:=by simp
 obj:=fun i h st b hb=>by
  have e:b=it:=by simpa using hb
  subst e
  exact⟨_,st,fun v z=>by
   have z':Data.fields _=Data.cell v:=z
   cases z'⟩
 keep:=fun i h h' st k=>k it (by simp) _ st
 item:=by
  intro X hP hw hK hc i pins s σ H E I hf st hg
  subst hP hw hK
  obtain⟨f0,f1,f2,f3,f4,f5⟩:=hf it (by simp)
  have W:=Walks.range (prog:=X.prog) (w:=X.w) (I.ok.hd hc) it lo 1 n
  refine W.item i s _ _ hg st fun v h' tk hv st' kk=>?_
  obtain⟨t,rfl⟩:=hv
  have I1:Ap X pins σ H { s with heap:=h',toks:=tk }:=I.turned (fun b o hb e=>kk b o (by simpa using hb) e) f0 f1 f3 f4 f5
  refine⟨_,rfl,NN (s:={ s with heap:=h',toks:=tk }) (n:="range_iterator") st' rfl rfl (by decide) ⟨.int (lo+i),H,I1,⟨t,?_⟩,⟨rfl,rfl⟩,st',fun b hb=>(hf b hb).1⟩⟩
  rw[Int.mul_one]
 done:=by
  intro X hP hw hK hc i pins s σ H E I hf st hg
  subst hP hw hK
  obtain⟨f0,f1,f2,f3,f4,f5⟩:=hf it (by simp)
  exact wpAny_pyNext_range_end (I.ok.hd hc) st (by have:n≤i:=hg;omega) fun h' eb=>⟨rfl,I.turned (t':=s.toks) (fun b o hb e=>eb b o hb e) f0 f1 f3 f4 f5⟩
 self:=fun _ _ _ _ _ st h=>wpAny_pyIter_rangeiter st h
section
variable {X:Cx}{tg:Expr}
def VL (K:PySem.W.Frag)(tl:TE):TI:=fun σ H R=>tl σ H fun x H1=>∃ a,x=.ref a∧(∃ xs,As K H1 a xs)∧R (VJ K a) H1
def XI (K:PySem.W.Frag)(tl:TE):TI:=fun σ H R=>tl σ H fun x H1=>∃ a,x=.ref a∧(∃ xs,A0 K H1 a xs)∧R (YE K a) H1
theorem CM {l:Expr}{tl:TE}(hl:PE X l tl):PI X tg l (VL X.K tl):=by
 intro pins s σ H R I h
 refine Bq (hl pins s σ H _ I h) fun v s1 zq=>?_
 obtain⟨x,H1,I1,r1,q1⟩:=zq
 obtain⟨a,e,⟨xs,hq⟩,q⟩:=q1
 subst e
 cases r1
 obtain⟨its,rv,p,hz⟩:=I1.list hq
 refine wpAny_pyIter_list p.isList ?_
 refine⟨s1.heap.objs.size,[s1.heap.objs.size],_,_,H1,rfl,I1.kept (t':=s1.toks) fun b o e=>Heap.get?_push_of_some _ e,OK a _,⟨_,Heap.get?_push_size _ rfl,rfl,rfl⟩,fun b hb=>?_,q⟩
 have e:b=s1.heap.objs.size:=by simpa using hb
 subst e
 exact I1.fpOk (Nat.le_refl _) (I1.hok.fresh (Nat.le_refl _))
theorem Tc {l:Expr}{tl:TE}(hl:PE X l tl):PI X tg l (XI X.K tl):=by
 intro pins s σ H R I h
 refine Bq (hl pins s σ H _ I h) fun v s1 zq=>?_
 obtain⟨x,H1,I1,r1,q1⟩:=zq
 obtain⟨a,e,⟨xs,hq⟩,q⟩:=q1
 subst e
 cases r1
 obtain⟨its,rv,p,hz⟩:=I1.tuple hq
 refine wpAny_pyIter_tuple (show s1.heap.IsTuple a its.toArray from p) ?_
 refine⟨s1.heap.objs.size,[s1.heap.objs.size],_,_,H1,rfl,I1.kept (t':=s1.toks) fun b o e=>Heap.get?_push_of_some _ e,MQ a _,⟨_,Heap.get?_push_size _ rfl,rfl,rfl⟩,fun b hb=>?_,q⟩
 have e:b=s1.heap.objs.size:=by simpa using hb
 subst e
 exact I1.fpOk (Nat.le_refl _) (I1.hok.fresh (Nat.le_refl _))
theorem PL {pins:List (Addr×Obj)}{σ:St}{H:Hp}{s:Shared}{R:It→Hp→Prop}{E:Value→Shared→Prop}{lo hi:Int}{t u v:Tok}{tk:Nat}(I:Ap X pins σ H s)(h1:-(2 ^ 62)≤lo)(h2:lo<2 ^ 62)(h3:-(2 ^ 62)≤hi)(h4:hi<2 ^ 62)
 (q:R (U4 lo (hi-lo).toNat) H):wpAny (model X.prog X.w) X.A (pyIter (.ref s.heap.objs.size)) (YD X pins σ tg R) E { s with heap:=s.heap.push { cls:=.type "range",data:=.fields #[.int lo t,.int hi u,.int 1 v] },toks:=tk }:=by
 refine wpAny_pyIter_range (IsRange.new ..) (small_one h1 h2 h3 h4) ?_
 have I1:Ap X pins σ H { s with heap:=s.heap.push { cls:=.type "range",data:=.fields #[.int lo t,.int hi u,.int 1 v] },toks:=tk }:=I.kept fun b o e=>Heap.get?_push_of_some _ e
 refine⟨(s.heap.push { cls:=.type "range",data:=.fields #[.int lo t,.int hi u,.int 1 v] }).objs.size,[(s.heap.push { cls:=.type "range",data:=.fields #[.int lo t,.int hi u,.int 1 v] }).objs.size],_,_,H,rfl,
  I1.kept (t':=tk) fun b o e=>Heap.get?_push_of_some _ e,MR _ lo (hi-lo).toNat,?_,fun b hb=>?_,q⟩
 ·have e1:lo+((0:Nat):Int)*1=lo:=by simp
  have e2:(((hi-lo).toNat:Nat):Int)-((0:Nat):Int)=Builtin.Range.rangeSize lo hi 1:=by rw[rangeSize_one];split <;> omega
  show IsRangeIter _ _ (lo+((0:Nat):Int)*1) ((((hi-lo).toNat:Nat):Int)-((0:Nat):Int)) 1
  rw[e1,e2]
  exact Heap.get?_push_size _ rfl
 ·have e:b=(s.heap.push { cls:=.type "range",data:=.fields #[.int lo t,.int hi u,.int 1 v] }).objs.size:=by simpa using hb
  subst e
  exact I1.fpOk (Nat.le_refl _) (I1.hok.fresh (Nat.le_refl _))
def VM (ta:TA):TI:=fun σ H R=>ta σ H fun vs H1=>∃ j:Int,vs=[.int j]∧-(2 ^ 62)≤j∧j<2 ^ 62∧R (U4 0 j.toNat) H1
theorem Dm {a:Expr}{ta:TA}{p pos:Pos}(hg:Gl X "range")(hm:X.mg "range"=none)(ha:PA X [a] ta)(hs:starEach [a] X.env=[(false,eval a X.env)]:=by rfl):PI X tg (.Call (.Name "range" p) [a] [] pos) (VM ta):=by
 intro pins s σ H R I h
 refine Call_ (Dz I hg hm boot_range (PyProof.Rows.callWith_type1 (Bq (ha pos pins s σ H _ I h) fun us s1 zq=>?_) hs rfl))
 obtain⟨vs,H1,I1,r1,q1⟩:=zq
 obtain⟨j,e,q1,q2,q⟩:=q1
 subst e
 cases r1 with
 | cons r rr=>
  cases rr
  obtain⟨t,rfl⟩:=r
  exact call_range_1 (PL I1 (by omega) (by omega) q1 q2 (by simpa using q))
def XJ (wi:TI)(g:TG)(tb:TS):TS:=fun D σ H=>wi σ H fun J H1=>∃ W:Nat→Nat→St→Hp→Prop,(∃ m,W 0 m σ H1)∧∀ i m σ H,W i m σ H→
 (J.stop i H∧D.nx σ H)∨(J.go i H∧∃ N:St→Hp→Prop,(∀ σ' H',N σ' H'→∃ m',m'<m∧W (i+1) m' σ' H')∧∀ x H',J.yld i H x H'→g x σ H' fun σ2 H2=>tb { D with nx:=N,ct:=N,bk:=D.nx } σ2 H2)
def Hs (fp:List Addr)(h:Heap):List (Addr×Obj):=fp.filterMap fun b=>(h.get? b).map fun o=>(b,o)
theorem EA {fp:List Addr}{h:Heap}{b:Addr}{o:Obj}(hb:b∈fp)(e:h.get? b=some o):(b,o)∈Hs fp h:=List.mem_filterMap.mpr ⟨b,hb,by rw[e];rfl⟩
theorem OL {fp:List Addr}{h:Heap}{p:Addr×Obj}(hp:p∈Hs fp h):p.1∈fp∧h.get? p.1=some p.2:=by
 obtain⟨b,hb,e⟩:=List.mem_filterMap.mp hp
 cases q:h.get? b with
 | none=>rw[q]at e;cases e
 | some o=>
  rw[q]at e
  have e':(b,o)=p:=Option.some.inj e
  subst e'
  exact⟨hb,q⟩
theorem Ap.pinned {pins:List (Addr×Obj)}{σ:St}{H:Hp}{s:Shared}{fp:List Addr}(I:Ap X pins σ H s)(hf:∀ b∈fp,FI X pins H b)(ho:∀ b∈fp,∃ o,s.heap.get? b=some o∧∀ v,o.data≠.cell v):Ap X (pins++Hs fp s.heap) σ H s:=
 I.pins_of fun p hp=>(List.mem_append.mp hp).elim (fun z=>I.pin p (List.mem_append_right _ z)) fun z=>by
  obtain⟨hb,e⟩:=OL z
  obtain⟨f0,f1,f2,_⟩:=hf p.1 hb
  obtain⟨o,e',d⟩:=ho p.1 hb
  rw[e]at e';cases e'
  exact⟨e,f0,f1,f2,d⟩
theorem Ap.unpinned {pins pl:List (Addr×Obj)}{σ:St}{H:Hp}{s:Shared}(I:Ap X (pins++pl) σ H s):Ap X pins σ H s:=I.pins_of fun p hp=>I.pin p (List.mem_append_right _ (List.mem_append_left _ hp))
theorem Jy {iter:Expr}{body:List Stmt}{wi:TI}{g:TG}{tb:TS}{pos:Pos}(hp:PassesOwn (model X.prog X.w) X.A X.env X.xe)(hc:X.calm=true)(hi:PI X tg iter wi)(hg:PG X tg g)(hb:Jv X body tb)
 (hs:∀ x,foldedSetIterable iter X.env x=pure x:=by intro _;rfl):PS X (.For tg iter body [] pos) (XJ wi g tb):=by
 intro pins s σ H D I h
 refine wpAny_For (Bq (hi pins s σ H _ I h) fun v s1 h1=>Bq h1 fun itv s2 h2=>?_) hs
 obtain⟨it,fp,tn,J,H2,e,I2,T,st2,f2,W,⟨m0,w0⟩,turn⟩:=h2
 subst e
 have stat:∀{H':Hp},(∀ b∈fp,H' b=none)→∀ b∈fp,FI X pins H' b:=fun hn b hb=>⟨hn b hb,(f2 b hb).2⟩
 refine codeAny_forLoop_any (fun n s'=>∃ i σ' H',Ap X pins σ' H' s'∧tn i s'.heap∧(∀ b∈fp,H' b=none)∧W i n σ' H') ?_ m0 ⟨0,σ,H2,I2,st2,fun b hb=>(f2 b hb).1,w0⟩
 rintro n s3 ⟨i,σ3,H3,I3,st3,fr3,w3⟩
 rcases turn i n σ3 H3 w3 with⟨stop,qn⟩ | ⟨go,N,hN,step⟩
 ·refine wpAny_passesOwn hp (Bq (T.done X rfl rfl rfl hc i pins s3 σ3 H3 X.xe I3 (stat fr3) st3 stop) fun r s4 zq=>?_)
  obtain⟨hr,I4⟩:=zq
  subst hr
  exact wpAny_execs_nil ⟨σ3,H3,I4,qn⟩
 ·refine wpAny_passesOwn hp (Bq (T.item X rfl rfl rfl hc i pins s3 σ3 H3 X.xe I3 (stat fr3) st3 go) fun r s4 zq=>?_)
  obtain⟨u,hr,h4⟩:=zq
  subst hr
  refine wpAny_passesOwn hp (Bq h4 fun _ s5 zq=>?_)
  obtain⟨x,H5,I5,r5,y5,st5,fr5⟩:=zq
  have I5':=I5.pinned (stat fr5) (T.obj _ _ st5)
  refine wpAny_passesOwn hp (Bq (hg _ s5 σ3 H5 x u _ I5' r5 (step x H5 y5)) fun _ s6 zq=>?_)
  obtain⟨σ6,H6,I6,q6⟩:=zq
  refine wpAny_passesOwn hp (Bq (hb _ s6 σ6 H6 _ I6 q6) fun f s7 q7=>?_)
  have again:∀{σ7:St} {H7:Hp},Ap X (pins++Hs fp s5.heap) σ7 H7 s7→N σ7 H7→∃ m,m<n∧∃ i σ' H',Ap X pins σ' H' s7∧tn i s7.heap∧(∀ b∈fp,H' b=none)∧W i m σ' H':=fun {σ7 H7} I7 n7=>by
   obtain⟨m',hm,w7⟩:=hN σ7 H7 n7
   refine⟨m',hm,i+1,σ7,H7,I7.unpinned,T.keep _ _ _ st5 fun b hb o e=>(I7.pin (b,o) (List.mem_append_right _ (List.mem_append_right _ (EA hb e)))).1,fun b hb=>?_,w7⟩
   obtain⟨o,e,d⟩:=T.obj _ _ st5 b hb
   exact(I7.pin (b,o) (List.mem_append_right _ (List.mem_append_right _ (EA hb e)))).2.1
  cases f with
  | next=>obtain⟨σ7,H7,I7,n7⟩:=q7;exact again I7 n7
  | cont=>obtain⟨σ7,H7,I7,n7⟩:=q7;exact again I7 n7
  | brk=>obtain⟨σ7,H7,I7,q7⟩:=q7;exact⟨σ7,H7,I7.unpinned,q7⟩
  | ret v=>obtain⟨x7,σ7,H7,I7,r7,q7⟩:=q7;exact⟨x7,σ7,H7,I7.unpinned,r7,q7⟩
end
theorem Kt {K:PySem.W.Frag}{a:Addr}{xs:List V}{g:TG}{tb:TS}{D:JD}{σ:St}{H:Hp}(Pv:Nat→St→Hp→Prop)(h0:Pv 0 σ H)(hl:∀ i σ H,i≤xs.length→Pv i σ H→As K H a xs)
 (hs:∀ i x σ H,xs[i]?=some x→Pv i σ H→g x σ H fun σ2 H2=>tb { D with nx:=Pv (i+1),ct:=Pv (i+1),bk:=D.nx } σ2 H2) (hd:∀ σ H,Pv xs.length σ H→D.nx σ H):
 ∃ W:Nat→Nat→St→Hp→Prop,(∃ m,W 0 m σ H)∧∀ i m σ H,W i m σ H→
  ((VJ K a).stop i H∧D.nx σ H)∨((VJ K a).go i H∧∃ N:St→Hp→Prop,(∀ σ' H',N σ' H'→∃ m',m'<m∧W (i+1) m' σ' H')∧∀ x H',(VJ K a).yld i H x H'→g x σ H' fun σ2 H2=>tb { D with nx:=N,ct:=N,bk:=D.nx } σ2 H2):=by
 refine⟨fun i m σ H=>m=xs.length-i∧i≤xs.length∧Pv i σ H,⟨xs.length,by simp,Nat.zero_le _,h0⟩,?_⟩
 rintro i m σ H ⟨rfl,hi,p⟩
 have q:=hl i σ H hi p
 by_cases hlt:i<xs.length
 ·refine .inr ⟨⟨xs,xs[i],q,by simp[hlt]⟩,Pv (i+1),fun σ' H' p'=>⟨xs.length-(i+1),by omega,rfl,hlt,p'⟩,fun x H' y=>?_⟩
  obtain⟨e,y⟩:=y
  subst e
  exact hs i x σ _ (y xs q) p
 ·have e:i=xs.length:=by omega
  subst e
  exact .inl ⟨⟨xs,q,Nat.le_refl _⟩,hd σ H p⟩
theorem JW {lo:Int}{n:Nat}{g:TG}{tb:TS}{D:JD}{σ:St}{H:Hp}(Pv:Nat→St→Hp→Prop)(h0:Pv 0 σ H)
 (hs:∀ i σ H,i<n→Pv i σ H→g (.int (lo+i)) σ H fun σ2 H2=>tb { D with nx:=Pv (i+1),ct:=Pv (i+1),bk:=D.nx } σ2 H2) (hd:∀ σ H,Pv n σ H→D.nx σ H):
 ∃ W:Nat→Nat→St→Hp→Prop,(∃ m,W 0 m σ H)∧∀ i m σ H,W i m σ H→
  ((U4 lo n).stop i H∧D.nx σ H)∨((U4 lo n).go i H∧∃ N:St→Hp→Prop,(∀ σ' H',N σ' H'→∃ m',m'<m∧W (i+1) m' σ' H')∧∀ x H',(U4 lo n).yld i H x H'→g x σ H' fun σ2 H2=>tb { D with nx:=N,ct:=N,bk:=D.nx } σ2 H2):=by
 refine⟨fun i m σ H=>m=n-i∧i≤n∧Pv i σ H,⟨n,by simp,Nat.zero_le _,h0⟩,?_⟩
 rintro i m σ H ⟨rfl,hi,p⟩
 by_cases hlt:i<n
 ·refine .inr ⟨hlt,Pv (i+1),fun σ' H' p'=>⟨n-(i+1),by omega,rfl,hlt,p'⟩,fun x H' y=>?_⟩
  obtain⟨e,y⟩:=y
  subst e y
  exact hs i σ _ hlt p
 ·have e:i=n:=by omega
  subst e
  exact .inl ⟨Nat.le_refl _,hd σ H p⟩
theorem PM {c:TT}{tb:TS}{D:JD}{σ:St}{H:Hp}(Pv:St→Hp→Prop)(μ:St→Hp→Nat)(h0:Pv σ H)
 (hs:∀ σ H,Pv σ H→c σ H fun b H1=>if b=true then tb { D with nx:=fun σ' H'=>Pv σ' H'∧μ σ' H'<μ σ H,ct:=fun σ' H'=>Pv σ' H'∧μ σ' H'<μ σ H,bk:=D.nx } σ H1 else D.nx σ H1)
 (mono:∀ σ H Q Q',(∀ b H1,Q b H1→Q' b H1)→c σ H Q→c σ H Q'):PH c tb D σ H:=by
 refine⟨fun m σ H=>m=μ σ H∧Pv σ H,⟨_,rfl,h0⟩,?_⟩
 rintro m σ H ⟨rfl,p⟩
 refine mono σ H _ _ (fun b H1 q=>?_) (hs σ H p)
 cases b with
 | true=>exact⟨_,fun σ' H' ⟨p',l⟩=>⟨_,l,rfl,p'⟩,q⟩
 | false=>exact q
abbrev R2:=V→V→Hp→VK→Prop
def FS (X:Cx)(f:Value→Value→Sem Value)(r:R2):Prop:=
 ∀(pins:List (Addr×Obj)) (s:Shared) (σ:St) (H:Hp) (x y:V) (v u:Value) (Q:VK),Ap X pins σ H s→Aw x v→Aw y u→r x y H Q→
  wpAny (model X.prog X.w) X.A (f v u) (EP X pins σ Q) X.xe s
def XM (X:Cx)(f:Value→Sem Value)(r:V→Hp→VK→Prop):Prop:=
 ∀(pins:List (Addr×Obj)) (s:Shared) (σ:St) (H:Hp) (x:V) (v:Value) (Q:VK),Ap X pins σ H s→Aw x v→r x H Q→
  wpAny (model X.prog X.w) X.A (f v) (EP X pins σ Q) X.xe s
def DD (X:Cx)(f:Value)(r:List V→Hp→VK→Prop):Prop:=
 ∀(pins:List (Addr×Obj)) (s:Shared) (σ:St) (H:Hp) (xs:List V) (us:List Value) (Q:VK),Ap X pins σ H s→A3 xs us→r xs H Q→
  wpAny (model X.prog X.w) X.A (call f us) (EP X pins σ Q) X.xe s
def Td (r:R2)(ta tb:TE):TE:=fun σ H Q=>ta σ H fun x H1=>tb σ H1 fun y H2=>r x y H2 Q
def YF (r:V→Hp→VK→Prop)(ta:TE):TE:=fun σ H Q=>ta σ H fun x H1=>r x H1 Q
def rI (C:Int→Int→Prop)(g:Int→Int→V):R2:=fun x y H Q=>∃ i j,x=.int i∧y=.int j∧C i j∧Q (g i j) H
def Sm (g:Int→Int→V):R2:=fun x y H Q=>∃ i j,x=.int i∧y=.int j∧Q (g i j) H
def rU (g:Int→V):V→Hp→VK→Prop:=fun x H Q=>∃ i,x=.int i∧Q (g i) H
section
variable {X:Cx}{a b c:Expr}{ta tb tc:TE}{pos:Pos}
theorem Te (ha:PE X a ta)(hb:PE X b tb){pins:List (Addr×Obj)}{s:Shared}{σ:St}{H:Hp}{R:V→V→Hp→Prop}(I:Ap X pins σ H s)
 (h:ta σ H fun x H1=>tb σ H1 fun y H2=>R x y H2) {Q:Value→Shared→Prop} {f:Value→Value→Sem Value}
 (hf:∀ v u s2 x y H2,Ap X pins σ H2 s2→Aw x v→Aw y u→R x y H2→wpAny (model X.prog X.w) X.A (f v u) Q X.xe s2):
 wpAny (model X.prog X.w) X.A (eval a X.env) (fun v s₁=>wpAny (model X.prog X.w) X.A (eval b X.env) (fun u s₂=>wpAny (model X.prog X.w) X.A (f v u) Q X.xe s₂) X.xe s₁) X.xe s:=by
 refine Bq (ha pins s σ H _ I h) fun v s1 zq=>?_
 obtain⟨x,H1,I1,r1,q1⟩:=zq
 refine Bq (hb pins s1 σ H1 _ I1 q1) fun u s2 zq=>?_
 obtain⟨y,H2,I2,r2,q2⟩:=zq
 exact hf v u s2 x y H2 I2 r1 r2 q2
theorem An {op:Operator}{r:R2}(ho:FS X (binaryOp op) r)(ha:PE X a ta)(hb:PE X b tb):PE X (.BinOp a op b pos) (Td r ta tb):=by
 intro pins s σ H Q I h
 exact wpAny_BinOp (Te ha hb I h fun v u s2 x y H2 I2 rx ry q=>ho pins s2 σ H2 x y v u Q I2 rx ry q)
theorem NO {op:UnaryOp}{r:V→Hp→VK→Prop}(ho:XM X (unaryOp op) r)(ha:PE X a ta):PE X (.UnaryOp op a pos) (YF r ta):=by
 intro pins s σ H Q I h
 exact UnaryOp_ (Bq (ha pins s σ H _ I h) fun v s1 ⟨x,H1,I1,r1,q1⟩=>ho pins s1 σ H1 x v Q I1 r1 q1)
theorem HH {f:Value→Value→Sem Value}{C:Int→Int→Prop}{g:Int→Int→Int}
 (rule:∀(i j:Int) (t u:Tok) (s:Shared) (Q:Value→Shared→Prop) (E:Value→Shared→Prop),C i j→Q (.int (g i j) s.toks) { s with toks:=s.toks+1 }→wpAny (model X.prog X.w) X.A (f (.int i t) (.int j u)) Q E s):
 FS X f (rI C fun i j=>.int (g i j)):=by
 intro pins s σ H x y v u Q I rx ry h
 obtain⟨i,j,rfl,rfl,hc,q⟩:=h
 obtain⟨t,rfl⟩:=rx
 obtain⟨t',rfl⟩:=ry
 exact rule i j t t' s _ _ hc ⟨.int (g i j),H,I.tok _,⟨_,rfl⟩,q⟩
theorem VN {f:Value→Value→Sem Value}{g:Int→Int→Int}
 (rule:∀(i j:Int) (t u:Tok) (s:Shared) (Q:Value→Shared→Prop) (E:Value→Shared→Prop),Q (.int (g i j) s.toks) { s with toks:=s.toks+1 }→wpAny (model X.prog X.w) X.A (f (.int i t) (.int j u)) Q E s):
 FS X f (Sm fun i j=>.int (g i j)):=by
 intro pins s σ H x y v u Q I rx ry h
 obtain⟨i,j,rfl,rfl,q⟩:=h
 obtain⟨t,rfl⟩:=rx
 obtain⟨t',rfl⟩:=ry
 exact rule i j t t' s _ _ ⟨.int (g i j),H,I.tok _,⟨_,rfl⟩,q⟩
theorem RQ {f:Value→Value→Sem Value}{g:Int→Int→Bool}
 (rule:∀(i j:Int) (t u:Tok) (s:Shared) (Q:Value→Shared→Prop) (E:Value→Shared→Prop),Q (.bool (g i j)) s→wpAny (model X.prog X.w) X.A (f (.int i t) (.int j u)) Q E s):
 FS X f (Sm fun i j=>.bl (g i j)):=by
 intro pins s σ H x y v u Q I rx ry h
 obtain⟨i,j,rfl,rfl,q⟩:=h
 obtain⟨t,rfl⟩:=rx
 obtain⟨t',rfl⟩:=ry
 exact rule i j t t' s _ _ ⟨.bl (g i j),H,I,rfl,q⟩
def XN (i j:Int):Prop:=0<j∧j<1073741824
def VO (i j:Int):Prop:=0≤j∧j≤1000000∧i.natAbs<2 ^ 64
theorem Bv:FS X (binaryOp .Add) (Sm fun i j=>.int (i+j)):=VN fun _ _ _ _ _ _ _ q=>add_int q
theorem MS:FS X (binaryOp .Sub) (Sm fun i j=>.int (i-j)):=VN fun _ _ _ _ _ _ _ q=>sub_int q
theorem F1:FS X (binaryOp .FloorDiv) (rI XN fun i j=>.int (i / j)):=HH fun i j _ _ _ _ _ hc q=>by
 have h1:(0:Int)<j:=hc.1
 have h2:j<1073741824:=hc.2
 exact floordiv_int (by omega) (by rw[Int.fdiv_eq_ediv_of_nonneg i (by omega)];exact q) (.inl (PyProof.noPylong_small (by omega)))
theorem Cl:FS X (binaryOp .Mod) (rI (fun _ j=>0<j) fun i j=>.int (i%j)):=HH fun i j _ _ _ _ _ hc q=>by
 have h1:(0:Int)<j:=hc
 exact mod_int' (by omega) (by rw[Int.fmod_eq_emod_of_nonneg i (by omega)];exact q)
theorem Tf:FS X (binaryOp .Pow) (rI VO fun i j=>.int (i ^ j.toNat)):=HH fun _ _ _ _ _ _ _ hc q=>pow_int_small hc.1 hc.2.1 hc.2.2 q
theorem Yc {f:Value→Sem Value}{g:Int→Int}
 (rule:∀(i:Int) (t:Tok) (s:Shared) (Q:Value→Shared→Prop) (E:Value→Shared→Prop),Q (.int (g i) s.toks) { s with toks:=s.toks+1 }→wpAny (model X.prog X.w) X.A (f (.int i t)) Q E s):
 XM X f (rU fun i=>.int (g i)):=by
 intro pins s σ H x v Q I rx h
 obtain⟨i,rfl,q⟩:=h
 obtain⟨t,rfl⟩:=rx
 exact rule i t s _ _ ⟨.int (g i),H,I.tok _,⟨_,rfl⟩,q⟩
theorem Jz:XM X (unaryOp .USub) (rU fun i=>.int (-i)):=Yc fun _ _ _ _ _ q=>neg_int q
end
def VP:V→V→Bool
 | .non,.non=>true | .non,.int _=>true | .int _,.non=>true | .non,.bl _=>true | .bl _,.non=>true | .non,.str _=>true | .str _,.non=>true
 | .int _,.int _=>true | .bl _,.bl _=>true | .str _,.str _=>true | .byt _,.byt _=>true
 | .int _,.str _=>true | .str _,.int _=>true | .bl _,.str _=>true | .str _,.bl _=>true
 | _,_=>false
def Yd:R2:=fun x y H Q=>VP x y=true∧Q (.bl (decide (x=y))) H
def Ye:R2:=fun x y H Q=>VP x y=true∧Q (.bl (!decide (x=y))) H
theorem NP {i j:Int}:decide (V.int i=V.int j)=(i==j):=by
 rw[Bool.eq_iff_iff]
 simp
theorem PN {i j:Bool}:decide (V.bl i=V.bl j)=(i==j):=by
 rw[Bool.eq_iff_iff]
 simp
theorem NQ {i j:Str}:decide (V.str i=V.str j)=(i==j):=by
 rw[Bool.eq_iff_iff]
 simp
theorem NR {i j:Array UInt8}:decide (V.byt i=V.byt j)=(i.toList==j.toList):=by
 rw[Bool.eq_iff_iff]
 cases i
 cases j
 simp
section
variable {X:Cx}{a b c:Expr}{ta tb tc:TE}{pos:Pos}
theorem A8 {pins:List (Addr×Obj)}{σ:St}{H:Hp}{s:Shared}{Q:VK}{k k':Bool}(I:Ap X pins σ H s)(q:Q (.bl k) H)(e:k=k'):EP X pins σ Q (.bool k') s:=by
 subst e
 exact⟨.bl k,H,I,rfl,q⟩
theorem Aq:FS X (compareOp .Eq) Yd:=by
 intro pins s σ H x y v u Q I rx ry h
 obtain⟨hs,q⟩:=h
 cases x with
 | non=>
  cases rx
  cases y with
  | non=>cases ry;exact PySem.EqNone.eq_none_none (A8 I q (by simp))
  | bl j=>cases ry;exact PySem.EqNone.eq_none_bool (A8 I q (by simp))
  | int j=>obtain⟨t',rfl⟩:=ry;exact PySem.EqNone.eq_none_int (A8 I q (by simp))
  | str j=>obtain⟨t',rfl⟩:=ry;exact PySem.EqNone.eq_none_str (A8 I q (by simp))
  | _=>exact absurd (show false=true from hs) Bool.false_ne_true
 | bl i=>
  cases rx
  cases y with
  | non=>cases ry;exact PySem.EqNone.eq_bool_none (A8 I q (by simp))
  | bl j=>cases ry;exact eq_bool (A8 I q PN)
  | str j=>obtain⟨t',rfl⟩:=ry;exact PySem.EqMixed.eq_bool_str (A8 I q (by simp))
  | _=>exact absurd (show false=true from hs) Bool.false_ne_true
 | int i=>
  obtain⟨t,rfl⟩:=rx
  cases y with
  | non=>cases ry;exact PySem.EqNone.eq_int_none (A8 I q (by simp))
  | int j=>obtain⟨t',rfl⟩:=ry;exact eq_int (A8 I q NP)
  | str j=>obtain⟨t',rfl⟩:=ry;exact PySem.EqMixed.eq_int_str (A8 I q (by simp))
  | _=>exact absurd (show false=true from hs) Bool.false_ne_true
 | str i=>
  obtain⟨t,rfl⟩:=rx
  cases y with
  | non=>cases ry;exact PySem.EqNone.eq_str_none (A8 I q (by simp))
  | bl j=>cases ry;exact PySem.EqMixed.eq_str_bool (A8 I q (by simp))
  | int j=>obtain⟨t',rfl⟩:=ry;exact PySem.EqMixed.eq_str_int (A8 I q (by simp))
  | str j=>obtain⟨t',rfl⟩:=ry;exact eq_str (A8 I q NQ)
  | _=>exact absurd (show false=true from hs) Bool.false_ne_true
 | byt i=>
  obtain⟨t,rfl⟩:=rx
  cases y with
  | byt j=>obtain⟨t',rfl⟩:=ry;exact PySem.W.eq_bytes (A8 I q NR)
  | _=>exact absurd (show false=true from hs) Bool.false_ne_true
 | _=>cases y <;> exact absurd (show false=true from hs) Bool.false_ne_true
theorem Ht:FS X (compareOp .NotEq) Ye:=by
 intro pins s σ H x y v u Q I rx ry h
 obtain⟨hs,q⟩:=h
 cases x with
 | non=>
  cases rx
  cases y with
  | non=>cases ry;exact PySem.EqNone.ne_none_none (A8 I q (by simp))
  | bl j=>cases ry;exact PySem.EqNone.ne_none_bool (A8 I q (by simp))
  | int j=>obtain⟨t',rfl⟩:=ry;exact PySem.EqNone.ne_none_int (A8 I q (by simp))
  | str j=>obtain⟨t',rfl⟩:=ry;exact PySem.EqNone.ne_none_str (A8 I q (by simp))
  | _=>exact absurd (show false=true from hs) Bool.false_ne_true
 | bl i=>
  cases rx
  cases y with
  | non=>cases ry;exact PySem.EqNone.ne_bool_none (A8 I q (by simp))
  | bl j=>cases ry;exact ne_bool (A8 I q (congrArg not PN))
  | str j=>obtain⟨t',rfl⟩:=ry;exact PySem.EqMixed.ne_bool_str (A8 I q (by simp))
  | _=>exact absurd (show false=true from hs) Bool.false_ne_true
 | int i=>
  obtain⟨t,rfl⟩:=rx
  cases y with
  | non=>cases ry;exact PySem.EqNone.ne_int_none (A8 I q (by simp))
  | int j=>obtain⟨t',rfl⟩:=ry;exact ne_int (A8 I q (congrArg not NP))
  | str j=>obtain⟨t',rfl⟩:=ry;exact PySem.EqMixed.ne_int_str (A8 I q (by simp))
  | _=>exact absurd (show false=true from hs) Bool.false_ne_true
 | str i=>
  obtain⟨t,rfl⟩:=rx
  cases y with
  | non=>cases ry;exact PySem.EqNone.ne_str_none (A8 I q (by simp))
  | bl j=>cases ry;exact PySem.EqMixed.ne_str_bool (A8 I q (by simp))
  | int j=>obtain⟨t',rfl⟩:=ry;exact PySem.EqMixed.ne_str_int (A8 I q (by simp))
  | str j=>obtain⟨t',rfl⟩:=ry;exact ne_str (A8 I q (congrArg not NQ))
  | _=>exact absurd (show false=true from hs) Bool.false_ne_true
 | byt i=>
  obtain⟨t,rfl⟩:=rx
  cases y with
  | byt j=>obtain⟨t',rfl⟩:=ry;exact PySem.W.ne_bytes (A8 I q (congrArg not NR))
  | _=>exact absurd (show false=true from hs) Bool.false_ne_true
 | _=>cases y <;> exact absurd (show false=true from hs) Bool.false_ne_true
theorem EV:FS X (compareOp .Lt) (Sm fun i j=>.bl (decide (i<j))):=RQ fun _ _ _ _ _ _ _ q=>lt_int q
theorem DS:FS X (compareOp .LtE) (Sm fun i j=>.bl (decide (i≤j))):=RQ fun _ _ _ _ _ _ _ q=>le_int q
theorem Hu:FS X (compareOp .Gt) (Sm fun i j=>.bl (decide (j<i))):=RQ fun _ _ _ _ _ _ _ q=>gt_int q
theorem VQ:FS X (compareOp .GtE) (Sm fun i j=>.bl (decide (j≤i))):=RQ fun _ _ _ _ _ _ _ q=>ge_int q
theorem OM:FS X (compareOp .In) (fun x y H Q=>∃ i j,x=.str i∧y=.str j∧Q (.bl (!(Builtin.Str.occurrences j i 0 j.length 1).isEmpty)) H):=by
 intro pins s σ H x y v u Q I rx ry h
 obtain⟨i,j,rfl,rfl,q⟩:=h
 obtain⟨t,rfl⟩:=rx
 obtain⟨t',rfl⟩:=ry
 exact in_str (A8 I q rfl)
theorem Tg:FS X (compareOp .Is) (fun x y H Q=>y=.non∧Q (.bl (decide (x=.non))) H):=by
 intro pins s σ H x y v u Q I rx ry h
 obtain⟨rfl,q⟩:=h
 cases ry
 refine is_none_gen (A8 I q ?_)
 cases x <;> first
  | (cases rx;rfl)
  | (obtain⟨t,rfl⟩:=rx;rfl)
theorem RR:FS X (compareOp .IsNot) (fun x y H Q=>y=.non∧Q (.bl (!decide (x=.non))) H):=by
 intro pins s σ H x y v u Q I rx ry h
 obtain⟨rfl,q⟩:=h
 cases ry
 refine isnot_none_gen (A8 I q ?_)
 cases x <;> first
  | (cases rx;rfl)
  | (obtain⟨t,rfl⟩:=rx;rfl)
theorem AS (b:Expr){op:CmpOp}(h:op≠.In:=by decide)(h2:op≠.NotIn:=by decide):behindInMarks op b=false:=by
 have e1:(op==CmpOp.In)=false:=by cases op <;> first | rfl | exact absurd rfl h
 have e2:(op==CmpOp.NotIn)=false:=by cases op <;> first | rfl | exact absurd rfl h2
 cases b <;> simp[behindInMarks,e1,e2]
theorem Ao {op:CmpOp}{r:R2}(ho:FS X (compareOp op) r)(ha:PE X a ta)(hb:PE X b tb)(hm:behindInMarks op b=false):PE X (.Compare a [op] [b] pos) (Td r ta tb):=by
 intro pins s σ H Q I h
 exact wpAny_Compare1 (Te ha hb I h fun v u s2 x y H2 I2 rx ry q=>ho pins s2 σ H2 x y v u Q I2 rx ry q) hm
def VR (t:TE):TT:=fun σ H Q=>t σ H fun x H'=>∃ k,x=.bl k∧Q k H'
theorem AX {op:CmpOp}{r:R2}(ho:FS X (compareOp op) r)(ha:PE X a ta)(hb:PE X b tb)(hm:behindInMarks op b=false):PT X (.Compare a [op] [b] pos) (VR (Td r ta tb)):=by
 intro pins s σ H Q I h
 refine wpAny_isTrue_Compare1 (Bq (ha pins s σ H _ I h) fun v s1 ⟨x,H1,I1,r1,q1⟩=>Bq (hb pins s1 σ H1 _ I1 q1) fun u s2 ⟨y,H2,I2,r2,q2⟩=>
  Bq (ho pins s2 σ H2 x y v u _ I2 r1 r2 q2) fun c s3 ⟨z,H3,I3,r3,k,e,q3⟩=>?_) hm
 subst e
 cases r3
 exact wpAny_truthy_bool ⟨H3,I3,q3⟩
theorem Ga:(sizeLine:Nat)<2 ^ 63:=by rw[sizeLine_eq];decide
theorem Hx:FS X (binaryOp .Add) (fun x y H Q=>∃ i j,x=.str i∧y=.str j∧i.length+j.length≤sizeLine∧Q (.str (i++j)) H):=by
 intro pins s σ H x y v u Q I rx ry h
 obtain⟨i,j,rfl,rfl,hz,q⟩:=h
 obtain⟨t,rfl⟩:=rx
 obtain⟨t',rfl⟩:=ry
 exact add_str (fun t' tk=>⟨.str (i++j),H,I.tok _,⟨_,rfl⟩,q⟩) hz
theorem Hy {x:V}{us:List Value}(r:A3 [x] us):∃ u,us=[u]∧Aw x u:=by
 cases r with
 | cons r1 r2=>cases r2;exact⟨_,rfl,r1⟩
theorem NS {x y:V}{us:List Value}(r:A3 [x,y] us):∃ u w',us=[u,w']∧Aw x u∧Aw y w':=by
 cases r with
 | cons r1 r2=>
  cases r2 with
  | cons r3 r4=>cases r4;exact⟨_,_,rfl,r1,r3⟩
theorem Hz:DD X (.builtin "abs") (fun xs H Q=>∃ i,xs=[.int i]∧Q (.int (if i<0 then -i else i)) H):=by
 intro pins s σ H xs us Q I r h
 obtain⟨i,rfl,q⟩:=h
 obtain⟨u,rfl,t,rfl⟩:=Hy r
 exact call_abs_int fun u tk=>⟨.int (if i<0 then -i else i),H,I.tok _,⟨_,rfl⟩,q⟩
theorem Gb (hc:X.calm=true):DD X (.builtin "min") (fun xs H Q=>∃ i j,xs=[.int i,.int j]∧Q (.int (if j<i then j else i)) H):=by
 intro pins s σ H xs us Q I r h
 obtain⟨i,j,rfl,q⟩:=h
 obtain⟨u,w',rfl,⟨t,rfl⟩,⟨t',rfl⟩⟩:=NS r
 refine min_two_ints (I.ok.hd hc) fun h' tk k=>⟨_,H,I.kept k,?_,q⟩
 by_cases hj:j<i
 ·rw[if_pos hj,if_pos hj];exact⟨_,rfl⟩
 ·rw[if_neg hj,if_neg hj];exact⟨_,rfl⟩
end
structure Ti (h:Heap)(x dx C:Addr)(mA:Str→Option Value):Prop where
 obj:h.get? x=some (PySem.W.instObj C dx)
 ns:h.Ns1 dx mA
 ne:dx≠x
theorem ON {h:Heap}{dx:Addr}{mA:Str→Option Value}(n:h.Ns1 dx mA):∃ od,h.get? dx=some od∧∀ name,PySem.W.lookIn name od=some (mA name):=by
 obtain⟨o,es,ep,ho,hd,hk,_,hm⟩:=n
 refine⟨o,ho,fun name=>?_⟩
 have e:=hm name
 unfold nsFind findBy at e
 rw[← Array.find?_toList]at e
 unfold PySem.W.lookIn
 rw[hd]
 dsimp only
 split
 ·rename_i y q
  rw[q]at e
  exact congrArg some e
 ·rename_i q
  rw[q]at e
  have a:es.toList.any (·.refKey)=false:=by
   rw[List.any_eq_false]
   intro y hy
   obtain⟨z,t,hkey⟩:=hk y (Array.mem_toList_iff.mp hy)
   simp[DictEntry.refKey,hkey]
  have a':¬ es.toList.any (·.refKey)=true:=by rw[a];exact Bool.false_ne_true
  rw[if_neg a']
  exact congrArg some e
theorem Ti.look {h:Heap}{x dx C:Addr}{mA:Str→Option Value}(I:Ti h x dx C mA):∃ od,PySem.W.InstAt h x (PySem.W.instObj C dx) C (some od)∧∀ name,PySem.W.lookIn name od=some (mA name):=
 let ⟨od,ho,hl⟩:=ON I.ns
 ⟨od,⟨I.obj,rfl,rfl,ho⟩,hl⟩
theorem GZ.some_of {v:V}{o:Option Value}(r:GZ (some v) o):∃ u,o=some u∧Aw v u:=by
 cases o with
 | none=>exact(show False from r).elim
 | some u=>exact⟨u,rfl,r⟩
section
variable {P:Program}{w:World}{H H':Hp}{h h':Heap}{a C dx:Addr}{fs fs':List (Str×V)}
theorem F3 (hok:FH P w H h)(e:H a=some (.ins C dx fs)):∃ mA,Ti h a dx C mA∧(∀ f,GZ (fs.lookup f) (mA f))∧PySem.Within mA (fs.map (·.1))∧fs.length≤1000∧H dx=some (.own a):=by
 obtain⟨d,z,ne,ob,mA,n,r,q⟩:=(show BI P w H h a (.ins C dx fs)from hok a _ e)
 exact⟨mA,⟨ob,n,ne⟩,r,q,z,d⟩
end
structure XO (K:PySem.W.Frag)(C:Addr):Prop where
 pg:PySem.W.plainGet K C Str.empty=true
 hd:PySem.W.hasDictIn K C=true
 po:PySem.W.plainOver K C=true
 sa:PySem.W.findIn K (.ref C) "__setattr__"=some (some (.builtin "object.__setattr__"))
theorem XO.get {K:PySem.W.Frag}{C:Addr}(c:XO K C)(f:Str):PySem.W.plainGet K C f=true:=c.pg
section
variable {X:Cx}{pins:List (Addr×Obj)}{σ:St}{H:Hp}{s:Shared}{A:Around}{E:Value→Shared→Prop}{Q:Value→Shared→Prop}{c:Value}{b:Bool}
inductive Fb (K:PySem.W.Frag)(H:Hp):V→Value→Prop where
 | non:Fb K H .non (.type "NoneType")
 | bl (x:Bool):Fb K H (.bl x) (.type "bool")
 | int (i:Int):Fb K H (.int i) (.type "int")
 | str (x:Str):Fb K H (.str x) (.type "str")
 | flt (x:UInt64):Fb K H (.flt x) (.type "float")
 | lst {a:Addr} {xs:List V} (e:H a=some (.lst xs)):Fb K H (.ref a) (.type "list")
 | frz {a:Addr} {o:Obj} {xs:List V} (e:H a=some (.frz o (.lst xs))):Fb K H (.ref a) (.type "list")
 | tup {a:Addr} {xs:List V} (e:H a=some (.tup xs)):Fb K H (.ref a) (.type "tuple")
 | dK {a:Addr} {kvs:List (BY×V)} (e:H a=some (.dK kvs)):Fb K H (.ref a) (.type "dict")
 | dT {a:Addr} {kvs:List (List BY×V)} (e:H a=some (.dT kvs)):Fb K H (.ref a) (.type "dict")
 | ins {a C dx:Addr} {fs:List (Str×V)} (e:H a=some (.ins C dx fs)) (cl:XO K C) (ha:PySem.W.findIn K (.ref C) "__class__"=some (some (.builtin "object.__class__")))
  (hn:PySem.W.specialIn K (.builtin "object.__class__") "__get__"=some (some (.builtin "getset_descriptor.__get__"))) (htk:PySem.W.takesIn K (.builtin "object.__class__")=some true)
  (hm:PySem.W.mroIn K C (.type "object")=some true):Fb K H (.ref a) (.ref C)
theorem JX {x:V}{u t:Value}(I:Ap X pins σ H s)(rx:Aw x u)(ty:Fb X.K H x t)(e:PySem.W.kitOne X.K t c=some b)(h:∀ tk,Q (.bool b) { s with toks:=tk }):
 wpAny (model X.prog X.w) A (call (.builtin "isinstance") [u,c]) Q E s:=by
 cases ty with
 | non=>cases (show u=Value.none from rx);exact PySem.W.kia_one PySem.W.kitx_none I.kIn True.intro e (fun z=>nomatch z) h
 | bl y=>cases (show u=Value.bool y from rx);exact PySem.W.kia_one PySem.W.kitx_bool I.kIn True.intro e (fun z=>nomatch z) h
 | int i=>obtain⟨t,q⟩:=(show ∃ t,u=Value.int i t from rx);cases q;exact PySem.W.kia_one PySem.W.kitx_int I.kIn True.intro e (fun z=>nomatch z) h
 | str y=>obtain⟨t,q⟩:=(show ∃ t,u=Value.str y t from rx);cases q;exact PySem.W.kia_one PySem.W.kitx_str I.kIn True.intro e (fun z=>nomatch z) h
 | flt y=>obtain⟨t,q⟩:=(show ∃ t,u=Value.float y t from rx);cases q;exact PySem.W.kia_one PySem.W.kitx_float I.kIn True.intro e (fun z=>nomatch z) h
 | @lst a xs ea=>
  cases (show u=Value.ref a from rx)
  obtain⟨_,_,n,_,h1⟩:=(show BI X.prog X.w H s.heap a (.lst xs)from I.hok a _ ea)
  exact PySem.W.kia_one PySem.W.kitx_list I.kIn ⟨_,h1,rfl⟩ e (fun z=>nomatch z) h
 | @frz a ob xs ea=>
  cases (show u=Value.ref a from rx)
  obtain⟨_,_,_,n,_,h1⟩:=(show BI X.prog X.w H s.heap a (.frz ob (.lst xs))from I.hok a _ ea)
  exact PySem.W.kia_one PySem.W.kitx_list I.kIn ⟨_,h1,rfl⟩ e (fun z=>nomatch z) h
 | @tup a xs ea=>
  cases (show u=Value.ref a from rx)
  obtain⟨_,_,_,p⟩:=(show BI X.prog X.w H s.heap a (.tup xs)from I.hok a _ ea)
  obtain⟨o,h1,h2,_⟩:=p
  exact PySem.W.kia_one PySem.W.kitx_tuple I.kIn ⟨o,h1,h2⟩ e (fun z=>nomatch z) h
 | @dK a kvs ea=>
  cases (show u=Value.ref a from rx)
  obtain⟨_,_,vs,_,p⟩:=(show BI X.prog X.w H s.heap a (.dK kvs)from I.hok a _ ea)
  obtain⟨o,es,ep,h1,h2,_⟩:=p
  exact PySem.W.kia_one PySem.W.kitx_dict I.kIn ⟨o,h1,h2.1⟩ e (fun z=>nomatch z) h
 | @dT a kvs ea=>
  cases (show u=Value.ref a from rx)
  obtain⟨_,_,xs,_,o,es,ep,h1,h2,_⟩:=(show BI X.prog X.w H s.heap a (.dT kvs)from I.hok a _ ea)
  exact PySem.W.kia_one PySem.W.kitx_dict I.kIn ⟨o,h1,h2.1⟩ e (fun z=>nomatch z) h
 | @ins a C dx fs ea cl ha hn htk hm=>
  cases (show u=Value.ref a from rx)
  obtain⟨mA,O,_⟩:=F3 I.hok ea
  obtain⟨od,J,_⟩:=O.look
  exact PySem.W.kia_one (PySem.W.kitx_own (cl.get _) cl.hd ha hn htk hm) I.kIn J e (fun z=>nomatch z) h
end
structure Bx (k:Nat)(A:Around):Prop where
 hd:A.handled=none
 dp:A.depth+3*k+5<recursionLimit
 un:A.units+16*k+200<cLine
theorem Bx.mono {j k:Nat}{A:Around}(r:Bx k A)(h:j≤k):Bx j A:=⟨r.hd,by have:=r.dp;omega,by have:=r.un;omega⟩
theorem Bx.deeper {k:Nat}{A:Around}(r:Bx (k+1) A)(env:Env):Bx k (A.deeper env):=
 ⟨r.hd,by have:=r.dp;show A.depth+1+3*k+5<_;omega,by have:=r.un;show A.units+3+16*k+200<_;omega⟩
theorem Bx.in1 {k:Nat}{A:Around}(r:Bx (k+1) A):Bx k A.in1:=
 ⟨r.hd,by have:=r.dp;show A.depth+3*k+5<_;omega,by have:=r.un;show A.units+1+16*k+200<_;omega⟩
theorem Bx.depth {k:Nat}{A:Around}(r:Bx k A):A.depth<recursionLimit:=by have:=r.dp;omega
theorem Bx.units {k:Nat}{A:Around}(r:Bx k A):A.units+64<cLine:=by have:=r.un;omega
theorem Bx.units0 {k:Nat}{A:Around}(r:Bx k A):A.units<cLine:=by have:=r.un;omega
def Tj:TA:=fun _ H Q=>Q [] H
def DT (ta:TE)(tr:TA):TA:=fun σ H Q=>ta σ H fun x H1=>tr σ H1 fun xs H2=>Q (x::xs) H2
section
variable {X:Cx}{e:Expr}{es:List Expr}{te:TE}{t:TA}{pos:Pos}
theorem AC:PA X [] Tj:=fun _ _ _ _ H Q I h=>Calls.spliced_nil ⟨[],H,I,.nil,h⟩
theorem CN (ha:PE X e te)(hr:PA X es t)(hs:starEach (e::es) X.env=(false,eval e X.env)::starEach es X.env:=by rfl):PA X (e::es) (DT te t):=by
 intro pos pins s σ H Q I h
 rw[hs]
 show wpAny _ _ (spliced ((false,eval e X.env)::backTo pos (starEach es X.env))) _ _ s
 refine Calls.spliced_cons (Bq (ha pins s σ H _ I h) fun u s1 zq=>?_)
 obtain⟨x,H1,I1,r1,q1⟩:=zq
 exact Bq (hr pos pins s1 σ H1 _ I1 q1) fun us s2 ⟨xs,H2,I2,r2,q2⟩=>⟨x::xs,H2,I2,.cons r1 r2,q2⟩
def Tk (t:TA):TE:=fun σ H Q=>t σ H fun xs H1=>xs.length≤sizeLine∧∀ p,H1 p=none→Q (.ref p) (upd H1 p (.tup xs))
def JE (t:TA):TE:=fun σ H Q=>t σ H fun xs H1=>xs.length≤sizeLine∧∀ p,H1 p=none→Q (.ref p) (upd H1 p (.lst xs))
theorem AL {x1}(h:PA X es t):PE X (.Tuple es x1 pos) (Tk t):=by
 intro pins s σ H Q I hq
 refine wpAny_Tuple_spliced (Bq (h pos pins s σ H _ I hq) fun us s1 ⟨xs,H1,I1,r,z,q⟩=>⟨by rw[← r.length];exact z,?_⟩)
 have hf:H1 s1.heap.objs.size=none:=I1.hok.fresh (Nat.le_refl _)
 refine⟨.ref s1.heap.objs.size,upd H1 s1.heap.objs.size (.tup xs),I1.laid (t':=s1.toks) (fun b u e=>Heap.get?_push_of_some _ e) (Nat.le_refl _) ?_,rfl,q _ hf⟩
 exact⟨z,us,r,⟨_,Heap.get?_push_size _ rfl,rfl,_,rfl⟩⟩
theorem Ae (h:PA X es t):PE X (.List es pos) (JE t):=by
 intro pins s σ H Q I hq
 refine wpAny_List_spliced (Bq (h pos pins s σ H _ I hq) fun us s1 ⟨xs,H1,I1,r,z,q⟩=>⟨by rw[← r.length];exact z,?_⟩)
 have hf:H1 s1.heap.objs.size=none:=I1.hok.fresh (Nat.le_refl _)
 refine⟨.ref s1.heap.objs.size,upd H1 s1.heap.objs.size (.lst xs),I1.laid (t':=s1.toks) (fun b u e=>Heap.get?_push_of_some _ e) (Nat.le_refl _) ?_,rfl,q _ hf⟩
 exact⟨z,us,0,r,Heap.get?_push_size _ rfl⟩
end
abbrev Sp:=List V→Hp→VK→XK→Prop
abbrev O6:=List Env→Hp→Shared→XK→Value→Shared→Prop
structure Ku (P:Program)(w:World)(K:PySem.W.Frag)(mg:Str→Option Value)(base:Heap)(A:Around)(outer:List Env)(s:Shared)(H:Hp):Prop where
 frames:A.frames=some outer
 mod:Mod K mg base
 bs:∀ b o,base.get? b=some o→s.heap.get? b=some o∧H b=none
 bsz:base.objs.size≤s.heap.objs.size
 funs:s.heap.FunFrames base outer
 frf:∀ b∈Dy outer,H b=none
 hok:FH P w H s.heap
 bare:AllBare s.gens
def CE (outer:List Env)(P:Program)(w:World)(H:Hp)(s:Shared)(Q:VK)(u:Value)(s':Shared):Prop:=
 ∃ v H',s'.os=s.os∧AllBare s'.gens∧Un (Dy outer) [] H H' s.heap s'.heap∧FH P w H' s'.heap∧Aw v u∧Q v H'
def CR (CX:O6)(outer:List Env)(P:Program)(w:World)(H:Hp)(s:Shared)(Q:VK)(E:XK)(r:Result)(s':Shared):Prop:=
 match r with
 | .ok (.ret u)=>CE outer P w H s Q u s'
 | .ok _=>False
 | .error e=>CX outer H s E e s'
structure A1 (P:Program)(w:World)(K:PySem.W.Frag)(mg:Str→Option Value)(base:Heap)(CX:O6)(k:Nat)(f:Addr)(fd:FuncData)(ps:List Str)(sp:Sp):Prop where
 len:∀ vs H Q E,sp vs H Q E→vs.length=ps.length
 run:∀(A:Around) (outer:List Env) (s:Shared) (H:Hp) (args:Args) (us:List Value) (vs:List V) (Q:VK) (E:XK),Bx k A→Ku P w K mg base A outer s H→BindsTo s fd args (ps.zip us)→A3 vs us→sp vs H Q E→
  codeAny (model P w) A (.call (.ref f) args) (CR CX outer P w H s Q E) s
theorem Ku.in1 {P:Program}{w:World}{K:PySem.W.Frag}{mg:Str→Option Value}{base:Heap}{A:Around}{outer:List Env}{s:Shared}{H:Hp}(e:Ku P w K mg base A outer s H):
 Ku P w K mg base A.in1 outer s H:=⟨e.frames,e.mod,e.bs,e.bsz,e.funs,e.frf,e.hok,e.bare⟩
section
variable {X:Cx}{pins:List (Addr×Obj)}{σ:St}{H:Hp}{s s':Shared}
theorem Ap.env0 (I:Ap X pins σ H s):Ku X.prog X.w X.K X.mg X.base X.A X.stack s H:=
 ⟨I.ok.frames,I.ok.mod,I.bs,Nat.le_trans I.ok.bsz I.sz,I.stack,I.stkFree,I.hok,I.bare⟩
theorem Ap.after {Q:VK}{u:Value}(I:Ap X pins σ H s)(h:CE X.stack X.prog X.w H s Q u s'):EP X pins σ Q u s':=by
 obtain⟨v,H',os,bare,un,hok,r,q⟩:=h
 obtain⟨hh,g,d,t,os'⟩:=s'
 obtain rfl:os'=s.os:=os
 exact⟨v,H',I.call (h':=hh) (g':=g) (d':=d) (t':=t) (ch:=[]) un hok bare (fun b z=>absurd z (by simp)),r,q⟩
end
def Sn (sp:Sp)(dvs:List V)(E:XK)(t:TA):TE:=fun σ H Q=>t σ H fun vs H1=>sp (vs++dvs) H1 Q E
def IA (K:PySem.W.Frag)(fd:FuncData)(ps:List Str)(ds:List Value):Prop:=
 ∀(s:Shared) (us:List Value),K.In s.heap→(us++ds).length=ps.length→BindsTo s fd ⟨us,[]⟩ (ps.zip (us++ds))
theorem IA.all {K:PySem.W.Frag}{fd:FuncData}{ps:List Str}(h:∀ us:List Value,us.length=ps.length→bindArgs fd ⟨us,[]⟩=pure (ps.zip us)):IA K fd ps []:=fun s us _ hl=>by
 rw[List.append_nil]at hl ⊢
 exact .of_eq (h us hl)
def J0 (CX:O6)(X:Cx)(E:XK):Prop:=∀(pins:List (Addr×Obj)) (σ:St) (H:Hp) (s:Shared) (e:Value) (s':Shared),Ap X pins σ H s→CX X.stack H s E e s'→X.xe e s'
section
variable {X:Cx}{CX:O6}{k:Nat}{f C:Addr}{fd:FuncData}{ps:List Str}{sp:Sp}{dvs:List V}{ds:List Value}{E:XK}{x m:Str}{p pos apos:Pos}{e o:Expr}{es:List Expr}{ta:TE}{t:TA}
theorem Tl {pins:List (Addr×Obj)}{σ:St}{H:Hp}{s:Shared}{Q:VK}{us:List Value}{vs:List V}(F:A1 X.prog X.w X.K X.mg X.base CX k f fd ps sp)(hr:Bx k X.A)(hb:IA X.K fd ps ds)(hd:A3 dvs ds)(hx:J0 CX X E)
 (I:Ap X pins σ H s) (r:A3 vs us) (h:sp (vs++dvs) H Q E):wpAny (model X.prog X.w) X.A (call (.ref f) us) (EP X pins σ Q) X.xe s:=by
 have r2:A3 (vs++dvs) (us++ds):=r.append hd
 have hl:(us++ds).length=ps.length:=by rw[← r2.length];exact F.len _ _ _ _ h
 refine wpAny_call (codeAny_mono (F.run X.A X.stack s H ⟨us,[]⟩ (us++ds) (vs++dvs) Q E hr I.env0 (hb s us I.kIn hl) r2 h) fun r s' hq=>?_)
 cases r with
 | error e=>exact hx pins σ H s e s' I hq
 | ok fl=>
  cases fl with
  | ret u=>exact I.after hq
  | next=>exact False.elim hq
  | brk=>exact False.elim hq
  | cont=>exact False.elim hq
theorem E6 (F:A1 X.prog X.w X.K X.mg X.base CX k f fd ps sp)(hr:Bx k X.A)(hg:Gl X x)(hm:X.mg x=some (.ref f))(hk:PySem.W.keepIn X.K (.ref f)=true)(hb:IA X.K fd ps ds)(hd:A3 dvs ds)(hx:J0 CX X E)
 (ha:PA X (e::es) t) (hdb:(x==("__debug__":Str))=false:=by decide) (he:starEach (e::es) X.env=(false,eval e X.env)::starEach es X.env:=by rfl) (hpl:(backTo pos (starEach es X.env)).any (·.1)=false:=by rfl):
 PE X (.Call (.Name x p) (e::es) [] pos) (Sn sp dvs E t):=by
 intro pins s σ H Q I h
 refine wpAny_Call_Name_kw (DQ I hg hm ?_ hdb)
 refine PySem.W.callWith_K (h₀:=X.base) I.ok.mod.kin hk (Bq (ha pos pins s σ H _ I h) fun us s1 ⟨vs,H1,I1,r,q⟩=>⟨I1.kIn,?_⟩) he hpl
 exact Tl F hr hb hd hx I1 r q
end
structure AZ (N P:List Str)(sc:Scope):Prop where
 kind:sc.kind=.function
 co:sc.isCoroutine=false
 gen:sc.isGenerator=false
 nd:N.Nodup
 pre:N.take P.length=P
 par:∀ x∈P,sc.names.lookup x=some .local∨sc.names.lookup x=some .cell
 nofree:∀ y∈sc.names,y.2≠.free
theorem JY {kindOf:Str→Option NameKind}{x:Str}:∀{binds:List (Str×Value)} {m:Str→Option Value},(∀ v,(x,v)∉binds)→bindL kindOf binds m x=m x
 | [],_,_=>rfl
 | (n,v)::r,m,h=>by
  unfold bindL
  rw[JY fun w hw=>h w (List.mem_cons_of_mem _ hw)]
  split
  ·have:x≠n:=by rintro rfl;exact h v List.mem_cons_self
   simp[this]
  ·rfl
theorem JZ {kindOf:Str→Option NameKind}{x:Str}:∀{binds:List (Str×Value)} {m:Str→Option Value},(∀ v,(x,v)∉binds)→bindC kindOf binds m x=m x
 | [],_,_=>rfl
 | (n,v)::r,m,h=>by
  unfold bindC
  rw[JZ fun w hw=>h w (List.mem_cons_of_mem _ hw)]
  split
  ·rfl
  ·have:x≠n:=by rintro rfl;exact h v List.mem_cons_self
   simp[this]
theorem Ja {kindOf:Str→Option NameKind}{x:Str}{v:Value}:∀{P:List Str} {vs:List Value} {i:Nat} {m:Str→Option Value},P.Nodup→P[i]?=some x→vs[i]?=some v→kindOf x=some .local→
 bindL kindOf (P.zip vs) m x=some v
 | [],_,_,_,_,h,_,_=>by simp at h
 | _::_,[],_,_,_,_,h,_=>by simp at h
 | p::P,w::vs,0,m,nd,h1,h2,hk=>by
  simp at h1 h2;subst h1;subst h2
  show bindL kindOf ((p,w)::P.zip vs) m p=_
  unfold bindL
  rw[JY fun v hv=>(List.nodup_cons.mp nd).1 (List.of_mem_zip hv).1,if_pos hk]
  simp
 | p::P,w::vs,i+1,m,nd,h1,h2,hk=>by
  show bindL kindOf ((p,w)::P.zip vs) m x=_
  unfold bindL
  exact Ja (i:=i) (List.nodup_cons.mp nd).2 (by simpa using h1) (by simpa using h2) hk
theorem Jb {kindOf:Str→Option NameKind}{x:Str}{v:Value}:∀{P:List Str} {vs:List Value} {i:Nat} {m:Str→Option Value},P.Nodup→P[i]?=some x→vs[i]?=some v→kindOf x≠some .local→
 bindC kindOf (P.zip vs) m x=some v
 | [],_,_,_,_,h,_,_=>by simp at h
 | _::_,[],_,_,_,_,h,_=>by simp at h
 | p::P,w::vs,0,m,nd,h1,h2,hk=>by
  simp at h1 h2;subst h1;subst h2
  show bindC kindOf ((p,w)::P.zip vs) m p=_
  unfold bindC
  rw[JZ fun v hv=>(List.nodup_cons.mp nd).1 (List.of_mem_zip hv).1,if_neg hk]
  simp
 | p::P,w::vs,i+1,m,nd,h1,h2,hk=>by
  show bindC kindOf ((p,w)::P.zip vs) m x=_
  unfold bindC
  exact Jb (i:=i) (List.nodup_cons.mp nd).2 (by simpa using h1) (by simpa using h2) hk
def EW (N:List Str)(vs:List V):St:=vs.map some++List.replicate (N.length-vs.length) none
def Do (CX:O6)(P:Program)(w:World)(K:PySem.W.Frag)(mg:Str→Option Value)(base:Heap)(N:List Str)(qual:Str)(scope:Scope)(f:Addr)(cd:Value)(A:Around)(outer:List Env)(s:Shared)(H:Hp)(E:XK):Cx where
 prog:=P
 w:=w
 K:=K
 mg:=mg
 base:=base
 A:=A.deeper (envOfC qual scope s.heap.objs.size f cd)
 N:=N
 s₀:=s
 H₀:=H
 env:=envOfC qual scope s.heap.objs.size f cd
 outer:=outer
 stack:=envOfC qual scope s.heap.objs.size f cd::outer
 ex:=[]
 calm:=true
 fn:=fun _=>true
 pn:=[]
 xe:=fun e s'=>wpAny (model P w) (A.deeper (envOfC qual scope s.heap.objs.size f cd)) (leaving (envOfC qual scope s.heap.objs.size f cd) e) (fun _ s''=>CX outer H s E e s'') (fun e' s''=>CX outer H s E e' s'') s'
theorem Kw {sc:Scope}{n:Nat}{x:Str}(h:sc.names.lookup x=some .cell):∃ c,(cellsFrom n sc.names []).lookup x=some c:=by
 have q:=PySem.W.cellsFrom_some sc.names n [] (.inl h)
 exact Option.isSome_iff_exists.mp q
theorem OO {CX:O6}{P:Program}{w:World}{K:PySem.W.Frag}{mg:Str→Option Value}{base:Heap}{N ps:List Str}{qual:Str}{scope:Scope}{f:Addr}{cd:Value}{A:Around}{outer:List Env}{s s1:Shared}{H:Hp}{E:XK}{us:List Value}{vs:List V}
 (S:AZ N ps scope) (hd:A.handled=none) (e0:Ku P w K mg base A outer s H) (hl:vs.length=ps.length) (r:A3 vs us)
 (x:InCallC s s.heap.objs.size (bindL (envOfC qual scope s.heap.objs.size f cd).kindOf (ps.zip us) fun _=>none) (cellsFrom (s.heap.objs.size+1) scope.names []) (bindC (envOfC qual scope s.heap.objs.size f cd).kindOf (ps.zip us) fun _=>none) s1):
 Ap (Do CX P w K mg base N qual scope f cd A outer s H E) [] (EW N vs) H s1:=by
 have hpl:ps.length≤N.length:=by have:=congrArg List.length S.pre;rw[List.length_take]at this;omega
 obtain⟨h1,tk,rfl,hk⟩:=x.done
 have noA:∀ b:Addr,b∉(Do CX P w K mg base N qual scope f cd A outer s H E).ex:=fun b z=>absurd (show b∈([]:List Addr)from z) (by simp)
 refine⟨⟨e0.mod,S.kind,rfl,rfl,Nat.le_refl _,fun y z c h1 h2=>?_,fun y hy=>?_,fun y c _ h=>?_,fun _=>hd,Around.frames_deeper e0.frames,.inr ⟨rfl,rfl⟩,fun b z=>absurd z (noA b),e0.bs,e0.bsz,fun b _ _=>noA b,fun b z=>absurd z (noA b),e0.funs,e0.frf⟩,
  rfl,e0.bare,Un.kept hk,⟨_,x.toInCall.ns,fun i y v h1 h2 h3=>?_⟩,fun y c h=>⟨_,x.cell y c h⟩,e0.hok.fresh (Nat.le_refl _),fun y c h=>?_,fun p hp=>absurd (show p∈([]:List (Addr×Obj))from hp) (by simp),e0.hok.kept hk,?_⟩
 ·exact name_of_addr x.apart (PySem.mem_of_lookup h1) (PySem.mem_of_lookup h2)
 ·have hy:scope.names.lookup y=some .cell∨scope.names.lookup y=some .free:=hy
  rcases hy with hy | hy
  ·exact Kw hy
  ·exact absurd rfl (S.nofree _ (PySem.mem_of_lookup hy))
 ·exact Nat.le_of_lt (x.above y c (PySem.mem_of_lookup h))
 ·have hi:i<vs.length:=by
   unfold EW at h2
   by_cases hi:i<vs.length
   ·exact hi
   ·rw[List.getElem?_append_right (by simpa using hi)]at h2
    rw[List.getElem?_replicate]at h2
    split at h2 <;> cases h2
  have ha:vs[i]?=some v:=by
   unfold EW at h2
   rw[List.getElem?_append_left (by simpa using hi),List.getElem?_map]at h2
   cases e:vs[i]? with
   | none=>rw[e]at h2;cases h2
   | some a=>rw[e]at h2;cases h2;rfl
  obtain⟨u,hu,rv⟩:=r.get ha
  have hp:ps[i]?=some y:=by
   rw[← S.pre,List.getElem?_take_of_lt (by omega)];exact h1
  have ndP:ps.Nodup:=by rw[← S.pre];exact S.nd.sublist (List.take_sublist _ _)
  refine⟨u,rv,?_⟩
  rcases S.par y (List.mem_of_getElem? hp)with k | k
  ·exact .inl ⟨k,Ja ndP hp hu k⟩
  ·obtain⟨c,e⟩:=Kw (n:=s.heap.objs.size+1) k
   refine .inr ⟨.inl k,c,e,?_⟩
   have q:=x.cell y c e
   rw[Jb ndP hp hu (by show scope.names.lookup y≠_;rw[k];decide)]at q
   exact q
 ·exact e0.hok.fresh (Nat.le_of_lt (x.above y c (PySem.mem_of_lookup h)))
 ·unfold EW
  show _=N.length
  rw[List.length_append,List.length_map,List.length_replicate]
  omega
theorem PP {CX:O6}{P:Program}{w:World}{K:PySem.W.Frag}{mg:Str→Option Value}{base:Heap}{k:Nat}{f:Addr}{name qual:Str}{params:Arguments}{body:List Stmt}{scope:Scope}{dV kV doc pm cdv ct oc:Value}{an od:Option Addr}
 {osl:Array (Option Value)} {N ps:List Str} {sp:Sp} (lk:K.lookup f=some ⟨oc,od,.func (PySem.W.fnOf name qual params body scope dV kV doc pm an cdv ct),osl⟩) (hcd:PySem.W.codeIn K cdv qual=true) (S:AZ N ps scope)
 (len:∀ vs H Q E,sp vs H Q E→vs.length=ps.length)
 (hbody:∀(A:Around) (outer:List Env) (s:Shared) (H:Hp) (vs:List V) (Q:VK) (E:XK),Bx k (A.deeper (envOfC qual scope s.heap.objs.size f cdv))→sp vs H Q E→
  ∃ t,Jv (Do CX P w K mg base N qual scope f cdv A outer s H E) body t∧t { nx:=fun _ H'=>Q .non H',rt:=Q } (EW N vs) H):
 A1 P w K mg base CX (k+1) f (PySem.W.fnOf name qual params body scope dV kV doc pm an cdv ct) ps sp:=by
 refine⟨len,fun A outer s H args us vs Q E hr e0 hb r hsp=>?_⟩
 have hl:=len _ _ _ _ hsp
 have KX:K.In s.heap:=e0.mod.kin.keeps fun b o e=>(e0.bs b o e).1
 have lim:s.heap.NoLimit:=e0.mod.nolimit.keeps fun b o e=>(e0.bs b o e).1
 have hkind:∀ y∈ps.zip us,scope.names.lookup y.1=some .local∨(scope.names.lookup y.1=some .cell∧((cellsFrom (s.heap.objs.size+1) scope.names []).lookup y.1).isSome=true):=fun⟨n,v⟩ hy=>by
  rcases S.par n (List.of_mem_zip hy).1 with q | q
  ·exact .inl q
  ·exact .inr ⟨q,PySem.W.cellsFrom_some _ _ _ (.inl q)⟩
 refine codeAny_call_function hr.depth (KX _ _ lk) rfl S.co S.gen rfl (PySem.W.codeRec_of KX hcd) (hb _ _ _ _ ?_)
 refine wpAny_newFunctionEnv_cells S.kind hkind fun env he s1 x=>?_
 subst he
 refine⟨lim.keeps x.toInCall.keep,codeAny_func ?_⟩
 obtain⟨t,ht,hq⟩:=hbody A outer s H vs Q E (hr.deeper _) hsp
 have I:Ap (Do CX P w K mg base N qual scope f cdv A outer s H E) [] (EW N vs) H s1:=OO S hr.hd e0 hl r x
 refine wpAny_mono (ht [] s1 (EW N vs) H _ I hq) (fun fl s' hs=>?_) fun e s' hs=>hs
 have fin:∀{σ':St} {H':Hp} {v:V} {u:Value},Ap (Do CX P w K mg base N qual scope f cdv A outer s H E) [] σ' H' s'→Aw v u→Q v H'→CE outer P w H s Q u s':=
  fun {σ' H' v u} J rv q=>⟨v,H',J.os,J.bare,J.base,J.hok,rv,q⟩
 cases fl with
 | ret u=>
  obtain⟨v,σ',H',J,rv,q⟩:=hs
  exact fin J rv q
 | next=>
  obtain⟨σ',H',J,q⟩:=hs
  exact fin (v:=V.non) (u:=Value.none) J rfl q
 | brk=>
  obtain⟨_,_,_,q⟩:=hs
  exact False.elim q
 | cont=>
  obtain⟨_,_,_,q⟩:=hs
  exact False.elim q
section
variable {X:Cx}{x:Str}{p pos:Pos}{e:Expr}{es:List Expr}{t:TA}{id T:String}{r:List V→Hp→VK→Prop}
def YG (r:List V→Hp→VK→Prop)(t:TA):TE:=fun σ H Q=>t σ H fun vs H1=>r vs H1 Q
theorem AW (hc:DD X (.builtin id) r)(hg:Gl X x)(hm:X.mg x=none)(hv:bootBuiltins x=some (.builtin id))(ha:PA X (e::es) t)(hn:x≠"__name__":=by decide)(hdb:(x==("__debug__":Str))=false:=by decide)
 (he:starEach (e::es) X.env=(false,eval e X.env)::starEach es X.env:=by rfl) (hpl:(backTo pos (starEach es X.env)).any (·.1)=false:=by rfl):PE X (.Call (.Name x p) (e::es) [] pos) (YG r t):=by
 intro pins s σ H Q I h
 refine wpAny_Call_Name_kw (Dz I hg hm hv ?_ hn hdb)
 exact PyProof.Rows.callWith_builtin1 (Bq (ha pos pins s σ H _ I h) fun us s1 ⟨vs,H1,I1,r1,q1⟩=>hc pins s1 σ H1 vs us Q I1 r1 q1) he hpl
theorem E7 (hc:DD X (.type T) r)(hg:Gl X x)(hm:X.mg x=none)(hv:bootBuiltins x=some (.type T))(ha:PA X (e::es) t)(hn:x≠"__name__":=by decide)(hdb:(x==("__debug__":Str))=false:=by decide)
 (he:starEach (e::es) X.env=(false,eval e X.env)::starEach es X.env:=by rfl) (hpl:(backTo pos (starEach es X.env)).any (·.1)=false:=by rfl):PE X (.Call (.Name x p) (e::es) [] pos) (YG r t):=by
 intro pins s σ H Q I h
 refine wpAny_Call_Name_kw (Dz I hg hm hv ?_ hn hdb)
 exact PyProof.Rows.callWith_type1 (Bq (ha pos pins s σ H _ I h) fun us s1 ⟨vs,H1,I1,r1,q1⟩=>hc pins s1 σ H1 vs us Q I1 r1 q1) he hpl
end
end L2
namespace HT
open PySem PyProof.Rows
section
variable {prog:Program}{w:World}{A:Around}{E:Value→Shared→Prop}{s:Shared}
def MM (n d:Nat):Option Int→Nat
 | none=>d
 | some v=>if v<0 then(v+(n:Int)).toNat else min v.toNat n
end
end HT
namespace L2
open PySem PySem.Spec PyProof.Rows
abbrev TO:=St→Hp→(Option Int→Hp→Prop)→Prop
def PO (X:Cx)(e:Option Expr)(t:TO):Prop:=
 ∀(pins:List (Addr×Obj)) (s:Shared) (σ:St) (H:Hp) (Q:Option Int→Hp→Prop),Ap X pins σ H s→t σ H Q→
  wpAny (model X.prog X.w) X.A (evalPart e X.env) (fun u s'=>∃ o H',Ap X pins σ H' s'∧IsPart u o∧Q o H') X.xe s
def RS:TO:=fun _ H Q=>Q none H
def VS (t:TE):TO:=fun σ H Q=>t σ H fun x H1=>∃ i,x=.int i∧Q (some i) H1
section
variable {X:Cx}{e:Expr}{te:TE}{lo hi:Option Expr}{tl th:TO}{pos p2:Pos}
theorem BV:PO X none RS:=by
 intro pins s σ H Q I h
 rw[evalPart_none]
 exact wpAny_pure ⟨none,H,I,.none,h⟩
theorem BW (h:PE X e te):PO X (some e) (VS te):=by
 intro pins s σ H Q I hw
 rw[evalPart_some]
 refine Bq (h pins s σ H _ I hw) fun u s1 zq=>?_
 obtain⟨x,H1,I1,r1,q1⟩:=zq
 obtain⟨i,rfl,q⟩:=q1
 obtain⟨t,rfl⟩:=r1
 exact⟨some i,H1,I1,.int i t,q⟩
def XQ (X:Cx)(r:V→Option Int→Option Int→Hp→VK→Prop):Prop:=
 ∀(pins:List (Addr×Obj)) (s:Shared) (σ:St) (H:Hp) (x:V) (v vl vu:Value) (lo hi:Option Int) (sl:Addr) (Q:VK),Ap X pins σ H s→Aw x v→s.heap.IsSliceOf sl vl vu .none→IsPart vl lo→IsPart vu hi→r x lo hi H Q→
  ∃ T id,typeLookup (.type T) "__getitem__"=pure (some (.builtin id))∧s.TypeIs v T∧wpAny (model X.prog X.w) X.A (getItem v (.ref sl)) (EP X pins σ Q) X.xe s
def Yg (r:V→Option Int→Option Int→Hp→VK→Prop)(te:TE)(tl th:TO):TE:=fun σ H Q=>te σ H fun x H1=>tl σ H1 fun l H2=>th σ H2 fun u H3=>r x l u H3 Q
theorem BA {r:V→Option Int→Option Int→Hp→VK→Prop}(hr:XQ X r)(he:PE X e te)(hl:PO X lo tl)(hu:PO X hi th):PE X (.Subscript e (.Slice lo hi none p2) pos) (Yg r te tl th):=by
 intro pins s σ H Q I h
 refine Subscript_ (Bq (he pins s σ H _ I h) fun v s1 zq=>?_)
 obtain⟨x,H1,I1,r1,q1⟩:=zq
 refine wpAny_Slice (Bq (hl pins s1 σ H1 _ I1 q1) fun vl s2 ⟨l,H2,I2,pl,q2⟩=>Bq (hu pins s2 σ H2 _ I2 q2) fun vu s3 zq=>?_)
 obtain⟨u,H3,I3,pu,q3⟩:=zq
 rw[evalPart_none]
 refine wpAny_pure ?_
 have I4:Ap X pins σ H3 { s3 with heap:=s3.heap.push { cls:=.type "slice",data:=.fields #[vl,vu,.none] } }:=I3.kept (t':=s3.toks) fun b ob q=>Heap.get?_push_of_some _ q
 obtain⟨T,id,hT,ht,hg⟩:=hr pins { s3 with heap:=s3.heap.push { cls:=.type "slice",data:=.fields #[vl,vu,.none] } } σ H3 x v vl vu l u s3.heap.objs.size Q I4 r1 (Heap.IsSliceOf.new ..) pl pu q3
 show wpAny (model X.prog X.w) X.A (subscriptTail e (.Slice lo hi none p2) v (.ref s3.heap.objs.size)) (EP X pins σ Q) X.xe { s3 with heap:=s3.heap.push { cls:=.type "slice",data:=.fields #[vl,vu,.none] } }
 exact tail_any (ops:=[.ref s3.heap.objs.size,v]) ht hT hg (by with_unfolding_all rfl)
def Bi (xs:List V)(lo hi:Option Int):List V:=(xs.drop (HT.MM xs.length 0 lo)).take (HT.MM xs.length xs.length hi-HT.MM xs.length 0 lo)
theorem Kx (xs:List V)(lo hi:Option Int):(Bi xs lo hi).length≤xs.length:=by
 unfold Bi
 rw[List.length_take,List.length_drop]
 omega
end
def Tm (n:Nat)(i:Int):Option Nat:=if 0≤i then(if i<n then some i.toNat else none)else if -(n:Int)≤i then some (i+n).toNat else none
def Hb {α:Type}(xs:List α)(i:Int):Option α:=(Tm xs.length i).bind fun j=>xs[j]?
theorem NT {n:Nat}{i:Int}{j:Nat}(h:Tm n i=some j):seqIndex? i n=some j∧j<n∧-(n:Int)≤i∧i<n:=by
 unfold Tm at h
 by_cases h0:0≤i
 ·rw[if_pos h0]at h
  by_cases h1:i<n
  ·rw[if_pos h1]at h
   have e:i.toNat=j:=Option.some.inj h
   exact⟨by rw[seqIndex_of h0 h1,e],by omega,by omega,h1⟩
  ·rw[if_neg h1]at h;cases h
 ·rw[if_neg h0]at h
  by_cases h1:-(n:Int)≤i
  ·rw[if_pos h1]at h
   have e:(i+n).toNat=j:=Option.some.inj h
   exact⟨by rw[seqIndex_neg (by omega) h1,e],by omega,h1,by omega⟩
  ·rw[if_neg h1]at h;cases h
theorem J3 {α:Type}{xs:List α}{i:Int}{v:α}(h:Hb xs i=some v):∃ j,seqIndex? i xs.length=some j∧xs[j]?=some v∧j<xs.length∧-(xs.length:Int)≤i∧i<xs.length:=by
 unfold Hb at h
 cases e:Tm xs.length i with
 | none=>rw[e]at h;cases h
 | some j=>
  rw[e]at h
  obtain⟨h1,h2,h3,h4⟩:=NT e
  exact⟨j,h1,h,h2,h3,h4⟩
theorem BK {α:Type}{xs:List α}{j:Nat}{v:α}(h:xs[j]?=some v):Hb xs (j:Int)=some v:=by
 have hj:j<xs.length:=(List.getElem?_eq_some_iff.mp h).1
 have e:Tm xs.length (j:Int)=some j:=by
  unfold Tm
  rw[if_pos (by omega),if_pos (by omega)];simp
 unfold Hb;rw[e];exact h
def RU (b:Expr):Prop:=∀ o i,subscripted b false o i=operate [o,i] (getItem o i)
def Tn (X:Cx)(r:R2):Prop:=
 ∀(value slice:Expr) (pins:List (Addr×Obj)) (s:Shared) (σ:St) (H:Hp) (x y:V) (v u:Value) (Q:VK),Ap X pins σ H s→Aw x v→Aw y u→r x y H Q→
  subscripted slice false v u=operate [v,u] (getItem v u)→wpAny (model X.prog X.w) X.A (subscriptTail value slice v u) (EP X pins σ Q) X.xe s
def XR (X:Cx)(id:String)(r:V→List V→Hp→VK→Prop):Prop:=
 ∀(pins:List (Addr×Obj)) (s:Shared) (σ:St) (H:Hp) (x:V) (xs:List V) (v:Value) (us:List Value) (Q:VK),Ap X pins σ H s→Aw x v→A3 xs us→r x xs H Q→
  wpAny (model X.prog X.w) X.A (call (.builtin id) (v::us)) (EP X pins σ Q) X.xe s
section
variable {X:Cx}{a b:Expr}{ta tb:TE}{pos:Pos}
theorem AV {r:R2}(hr:Tn X r)(ha:PE X a ta)(hb:PE X b tb)(hs:RU b):PE X (.Subscript a b pos) (Td r ta tb):=by
 intro pins s σ H Q I h
 exact Subscript_ (Te ha hb I h fun v u s2 x y H2 I2 rx ry q=>hr a b pins s2 σ H2 x y v u Q I2 rx ry q (hs _ _))
def VT (K:PySem.W.Frag):R2:=fun x y H Q=>∃ p xs i v,x=.ref p∧y=.int i∧As K H p xs∧Hb xs i=some v∧Q v H
def VU (K:PySem.W.Frag):R2:=fun x y H Q=>∃ p xs i v,x=.ref p∧y=.int i∧A0 K H p xs∧Hb xs i=some v∧Q v H
def XS:R2:=fun x y H Q=>∃ z i c,x=.str z∧y=.int i∧z.length≤sizeLine∧Hb z.cps.toList i=some c∧Q (.str ⟨#[c]⟩) H
theorem Ai:Tn X (VT X.K):=by
 intro value slice pins s σ H x y v u Q I rx ry h hs
 obtain⟨p,xs,i,z,rfl,rfl,hq,he,q⟩:=h
 cases rx
 obtain⟨t,rfl⟩:=ry
 obtain⟨its,r,pl,hz⟩:=I.list hq
 obtain⟨j,h1,h2,h3,h4,h5⟩:=J3 he
 obtain⟨w,ew,rw'⟩:=r.get h2
 have hl:=r.length
 have hn:=Ga
 have fin:EP X pins σ Q w s:=⟨z,H,I,rw',q⟩
 by_cases h0:0≤i
 ·have hj:i.toNat=j:=by
   rw[seqIndex_of h0 h5]at h1
   exact Option.some.inj h1
  exact item_listR pl.isList h0 (by omega) (by rw[hj];simpa using ew) fin hs
 ·have hj:(i+(its.toArray.size:Int)).toNat=j:=by
   rw[seqIndex_neg (by omega) h4]at h1
   rw[List.size_toArray,← hl]
   exact Option.some.inj h1
  exact subscriptTail_builtinR (x:=w) pl.isList.typeIs slot_list_getitem.lookup
   (wpAny_getItem_list_neg (Q:=fun r s'=>r=w∧EP X pins σ Q r s') pl.isList (by omega) (by rw[List.size_toArray] <;> omega) (by omega) (by rw[hj];simpa using ew) ⟨rfl,fin⟩) hs
theorem Ac:Tn X (VU X.K):=by
 intro value slice pins s σ H x y v u Q I rx ry h hs
 obtain⟨p,xs,i,z,rfl,rfl,hq,he,q⟩:=h
 cases rx
 obtain⟨t,rfl⟩:=ry
 obtain⟨its,r,pl,hz⟩:=I.tuple hq
 obtain⟨j,h1,h2,h3,h4,h5⟩:=J3 he
 obtain⟨w,ew,rw'⟩:=r.get h2
 have hl:=r.length
 have hn:=Ga
 have fin:EP X pins σ Q w s:=⟨z,H,I,rw',q⟩
 exact subscriptTail_builtinR (x:=w) pl.typeIs slot_tuple_getitem.lookup
  (getItem_tuple (j:=j) (Q:=fun r s'=>r=w∧EP X pins σ Q r s') pl (by omega) (by omega) (by rw[List.size_toArray,← hl];exact h1) (by simpa using ew) ⟨rfl,fin⟩) hs
theorem J4:Tn X XS:=by
 intro value slice pins s σ H x y v u Q I rx ry h hs
 obtain⟨z,i,c,rfl,rfl,hz,he,q⟩:=h
 obtain⟨t,rfl⟩:=rx
 obtain⟨t',rfl⟩:=ry
 obtain⟨j,h1,h2,h3,h4,h5⟩:=J3 he
 have hl:z.cps.toList.length=z.length:=by simp[Str.length]
 rw[hl]at h1 h4 h5
 have hn:=Ga
 exact tail_any (typeIs_str s z t) slot_str_getitem.lookup (getItem_str (c:=c) (by
  have e1:decide (i < -(2 ^ 63:Int))=false:=decide_eq_false (by omega)
  have e2:decide (i≥2 ^ 63)=false:=decide_eq_false (by omega)
  rw[e1,e2,Bool.or_false]) (by rw[h1];simpa using h2) ⟨.str ⟨#[c]⟩,H,I.tok _,⟨_,rfl⟩,q⟩) hs
theorem MT (its:List Value)(n j:Nat)(u:Value):Obj.mapSeq (·.setIfInBounds j u) { cls:=.type "list",data:=.seq its.toArray n }={ cls:=.type "list",data:=.seq (its.set j u).toArray n }:=by
 simp[Obj.mapSeq]
theorem Ap.lst {pins:List (Addr×Obj)}{σ:St}{H:Hp}{s:Shared}{p:Addr}{xs:List V}(I:Ap X pins σ H s)(h:H p=some (.lst xs)):
 ∃(its:List Value) (n:Nat),A3 xs its∧s.heap.get? p=some { cls:=.type "list",data:=.seq its.toArray n }∧xs.length≤sizeLine:=by
 obtain⟨z,its,n,r,e⟩:=I.hok p _ h
 exact⟨its,n,r,e,z⟩
theorem Ap.lstUpd {pins:List (Addr×Obj)}{σ:St}{H:Hp}{s:Shared}{p:Addr}{xs ys:List V}{its its':List Value}{n n':Nat}{f:Obj→Obj}(I:Ap X pins σ H s)(h:H p=some (.lst xs))
 (ho:s.heap.get? p=some { cls:=.type "list",data:=.seq its.toArray n }) (hf:f { cls:=.type "list",data:=.seq its.toArray n }={ cls:=.type "list",data:=.seq its'.toArray n' }) (r:A3 ys its') (hz:ys.length≤sizeLine) (t:Nat):
 Ap X pins σ (upd H p (.lst ys)) { s with heap:=s.heap.update p f,toks:=t }:=by
 have e:(s.heap.update p f).get? p=some { cls:=.type "list",data:=.seq its'.toArray n' }:=by
  rw[Heap.get?_update_self f ho (by rw[hf] <;> rfl),hf]
 refine I.write (x:=p) (e:=p) (by rw[h];trivial) (.inl rfl) (fun b u hb q=>(Heap.get?_update_other _ _ (Ne.symm hb)).trans q) ⟨_,e⟩ ?_
 exact⟨hz,its',n',r,e⟩
def VV:V→V→V→Hp→(Hp→Prop)→Prop:=fun o i v H Q=>∃ p xs k j,o=.ref p∧i=.int k∧H p=some (.lst xs)∧Tm xs.length k=some j∧Q (upd H p (.lst (xs.set j v)))
theorem Ky:VH X VV:=by
 intro pins s σ H o i v ov iv u Q I ro ri rv h
 obtain⟨p,xs,k,j,rfl,rfl,hp,hj,q⟩:=h
 cases ro
 obtain⟨t,rfl⟩:=ri
 obtain⟨its,n,r,ho,hz⟩:=I.lst hp
 obtain⟨h1,h2,h3,h4⟩:=NT hj
 have hl:=r.length
 have hn:=Ga
 have I':Ap X pins σ (upd H p (.lst (xs.set j v))) { s with heap:=s.heap.update p (Obj.mapSeq (·.setIfInBounds j u)) }:=
  I.lstUpd hp ho (MT its n j u) (r.set rv j) (by rw[List.length_set];exact hz) s.toks
 by_cases h0:0≤k
 ·have hk:k.toNat=j:=by
   rw[seqIndex_of h0 h4]at h1
   exact Option.some.inj h1
  exact PySem.W.ki_setAt ho h0 (by omega) (by rw[List.size_toArray,← hl];exact h4) (by rw[hk];exact⟨_,I',q⟩)
 ·have hk:(k+(its.toArray.size:Int)).toNat=j:=by
   rw[seqIndex_neg (by omega) h3]at h1
   rw[List.size_toArray,← hl]
   exact Option.some.inj h1
  exact PySem.W.ki_setBack ho (by omega) (by rw[List.size_toArray,← hl];exact h3) (by omega) (by rw[hk];exact⟨_,I',q⟩)
theorem J5 (lo hi:Option Int)(n:Nat):(sliceBounds lo hi none n).1=((HT.MM n 0 lo:Nat):Int)∧(sliceBounds lo hi none n).2.1=((HT.MM n n hi:Nat):Int)∧(sliceBounds lo hi none n).2.2=1:=by
 refine⟨?_,?_,rfl⟩
 ·cases lo with
  | none=>simp[sliceBounds,HT.MM]
  | some i=>
   simp only[sliceBounds,HT.MM,Option.getD_none,show(1:Int)>0 by decide,if_true]
   by_cases h:i<0
   ·simp only[h,if_true] <;> omega
   ·simp only[h,if_false] <;> omega
 ·cases hi with
  | none=>simp[sliceBounds,HT.MM]
  | some i=>
   simp only[sliceBounds,HT.MM,Option.getD_none,show(1:Int)>0 by decide,if_true]
   by_cases h:i<0
   ·simp only[h,if_true] <;> omega
   ·simp only[h,if_false] <;> omega
theorem JF (its:List Value)(lo hi:Option Int):slicePick its.toArray lo hi none=((its.drop (HT.MM its.length 0 lo)).take (HT.MM its.length its.length hi-HT.MM its.length 0 lo)).toArray:=by
 obtain⟨h1,h2,h3⟩:=J5 lo hi its.toArray.size
 unfold slicePick
 rw[h1,h2,h3]
 simp only[sliceRange_one,pick_run,List.size_toArray] <;> rfl
def XT (K:PySem.W.Frag):V→Option Int→Option Int→Hp→VK→Prop:=fun x lo hi H Q=>∃ a xs,x=.ref a∧As K H a xs∧∀ p,H p=none→Q (.ref p) (upd H p (.lst (Bi xs lo hi)))
theorem BX:XQ X (XT X.K):=by
 intro pins s σ H x v vl vu lo hi sl Q I rx hs pl pu h
 obtain⟨a,xs,rfl,hx,q⟩:=h
 cases rx
 obtain⟨its,r,ht,hz⟩:=I.list hx
 have hlen:=r.length
 refine⟨"list",_,slot_list_getitem.lookup,ht.isList.typeIs,?_⟩
 refine wpAny_getItem_list_slice ht.isList hs pl pu .none (by simp) ?_ (by rw[List.size_toArray] <;> omega)
 rw[JF,← hlen]
 refine⟨.ref s.heap.objs.size,_,I.laid (t':=s.toks) (o:=.lst (Bi xs lo hi)) (fun b ob q=>Heap.get?_push_of_some _ q) (Nat.le_refl _) ?_,rfl,q _ (I.hok.fresh (Nat.le_refl _))⟩
 exact⟨Nat.le_trans (Kx xs lo hi) hz,_,0,(r.drop (HT.MM xs.length 0 lo)).take (HT.MM xs.length xs.length hi-HT.MM xs.length 0 lo),Heap.get?_push_size _ rfl⟩
def B3:V→Bool
 | .non=>true
 | .bl _=>true
 | .int _=>true
 | .str _=>true
 | _=>false
def J6:V→V→Bool
 | .non,.non=>true
 | .bl a,.bl b=>a==b
 | .bl a,.int b=>(if a then 1 else 0)==b
 | .int a,.bl b=>a==(if b then 1 else 0)
 | .int a,.int b=>a==b
 | .str a,.str b=>a==b
 | _,_=>false
theorem MU {A:Around}{s:Shared}{y x:V}{u v:Value}(ry:Aw y u)(rx:Aw x v)(fy:B3 y=true)(fx:B3 x=true):SeqAt.EqAt A s u v (J6 y x):=by
 cases y with
 | non=>
  cases ry
  cases x with
  | non=>cases rx;exact SeqAt.EqAt.same _
  | bl b=>cases rx;exact SeqAt.EqAt.none_bool b
  | int b=>obtain⟨t,rfl⟩:=rx;exact SeqAt.EqAt.none_int b t
  | str b=>obtain⟨t,rfl⟩:=rx;exact SeqAt.EqAt.none_str b t
  | _=>exact absurd (show false=true from fx) Bool.false_ne_true
 | bl a=>
  cases ry
  cases x with
  | non=>cases rx;exact SeqAt.EqAt.bool_none a
  | bl b=>cases rx;exact SeqAt.EqAt.bool_bool a b
  | int b=>obtain⟨t,rfl⟩:=rx;exact SeqAt.EqAt.bool_int a b t
  | str b=>obtain⟨t,rfl⟩:=rx;exact SeqAt.EqAt.bool_str a b t
  | _=>exact absurd (show false=true from fx) Bool.false_ne_true
 | int a=>
  obtain⟨t',rfl⟩:=ry
  cases x with
  | non=>cases rx;exact SeqAt.EqAt.int_none a t'
  | bl b=>cases rx;exact SeqAt.EqAt.int_bool a t' b
  | int b=>obtain⟨t,rfl⟩:=rx;exact SeqAt.EqAt.int_int a t' b t
  | str b=>obtain⟨t,rfl⟩:=rx;exact SeqAt.EqAt.int_str a t' b t
  | _=>exact absurd (show false=true from fx) Bool.false_ne_true
 | str a=>
  obtain⟨t',rfl⟩:=ry
  cases x with
  | non=>cases rx;exact SeqAt.EqAt.str_none a t'
  | bl b=>cases rx;exact SeqAt.EqAt.str_bool a t' b
  | int b=>obtain⟨t,rfl⟩:=rx;exact SeqAt.EqAt.str_int a t' b t
  | str b=>obtain⟨t,rfl⟩:=rx;exact SeqAt.EqAt.str_str a t' b t
  | _=>exact absurd (show false=true from fx) Bool.false_ne_true
 | _=>exact absurd (show false=true from fy) Bool.false_ne_true
def MV (x:V)(u:Value):Bool:=match u with
 | .none=>J6 .non x
 | .bool b=>J6 (.bl b) x
 | .int i _=>J6 (.int i) x
 | .str z _=>J6 (.str z) x
 | _=>false
theorem PQ {x y:V}{u:Value}(r:Aw y u)(f:B3 y=true):MV x u=J6 y x:=by
 cases y with
 | non=>cases r;rfl
 | bl b=>cases r;rfl
 | int i=>obtain⟨t,rfl⟩:=r;rfl
 | str z=>obtain⟨t,rfl⟩:=r;rfl
 | _=>exact absurd (show false=true from f) Bool.false_ne_true
theorem F4 {x:V}:∀{xs:List V} {us:List Value},A3 xs us→xs.all B3=true→us.any (MV x)=xs.any fun y=>J6 y x
 | _,_,.nil,_=>rfl
 | y::xs,u::us,.cons r t,f=>by
  rw[List.all_cons,Bool.and_eq_true]at f
  rw[List.any_cons,List.any_cons,PQ r f.1,F4 t f.2]
theorem Ed {A:Around}{s:Shared}{x:V}{v:Value}(rx:Aw x v)(fx:B3 x=true):∀{xs:List V} {us:List Value},A3 xs us→xs.all B3=true→∀ u∈us,SeqAt.EqAt A s u v (MV x u)
 | _,_,.nil,_=>fun u hu=>by cases hu
 | y::xs,u::us,.cons r t,f=>fun u' hu=>by
  rw[List.all_cons,Bool.and_eq_true]at f
  rcases List.mem_cons.mp hu with rfl | hu
  ·rw[PQ r f.1];exact MU r rx f.1 fx
  ·exact Ed rx fx t f.2 u' hu
def Fc (x:V)(xs:List V):Bool:=xs.any fun y=>J6 y x
def XU (K:PySem.W.Frag)(neg:Bool):R2:=fun x y H Q=>∃ p xs,y=.ref p∧(As K H p xs∨A0 K H p xs)∧B3 x=true∧xs.all B3=true∧Q (.bl (if neg then !Fc x xs else Fc x xs)) H
theorem E8:FS X (compareOp .In) (XU X.K false):=by
 intro pins s σ H x y v u Q I rx ry h
 obtain⟨p,xs,rfl,hq,fx,fs,q⟩:=h
 cases ry
 rcases hq with hq | hq
 ·obtain⟨its,r,pl,hz⟩:=I.list hq
  refine SeqAt.in_listAt (MV x) pl.isList (fun w hw=>Ed rx fx r fs w (by simpa using hw)) ⟨.bl _,H,I,rfl,?_⟩
  rw[show its.toArray.any (MV x)=its.any (MV x)by simp,F4 r fs]
  exact q
 ·obtain⟨its,r,pl,hz⟩:=I.tuple hq
  refine SeqAt.in_tupleAt (MV x) pl (fun w hw=>Ed rx fx r fs w (by simpa using hw)) ⟨.bl _,H,I,rfl,?_⟩
  rw[show its.toArray.any (MV x)=its.any (MV x)by simp,F4 r fs]
  exact q
theorem J7:FS X (compareOp .NotIn) (XU X.K true):=by
 intro pins s σ H x y v u Q I rx ry h
 obtain⟨p,xs,rfl,hq,fx,fs,q⟩:=h
 cases ry
 rcases hq with hq | hq
 ·obtain⟨its,r,pl,hz⟩:=I.list hq
  refine SeqAt.notIn_listAt (MV x) pl.isList (fun w hw=>Ed rx fx r fs w (by simpa using hw)) ⟨.bl _,H,I,rfl,?_⟩
  rw[show its.toArray.any (MV x)=its.any (MV x)by simp,F4 r fs]
  exact q
 ·obtain⟨its,r,pl,hz⟩:=I.tuple hq
  refine SeqAt.notIn_tupleAt (MV x) pl (fun w hw=>Ed rx fx r fs w (by simpa using hw)) ⟨.bl _,H,I,rfl,?_⟩
  rw[show its.toArray.any (MV x)=its.any (MV x)by simp,F4 r fs]
  exact q
theorem Aj:DD X (.builtin "len") (fun xs H Q=>∃ p ys,xs=[.ref p]∧(As X.K H p ys∨A0 X.K H p ys)∧Q (.int ys.length) H):=by
 intro pins s σ H xs us Q I r h
 obtain⟨p,ys,rfl,hq,q⟩:=h
 obtain⟨u,rfl,rx⟩:=Hy r
 cases rx
 have hn:=Ga
 rcases hq with hq | hq
 ·obtain⟨its,r',pl,hz⟩:=I.list hq
  have hlen:=r'.length
  exact Calls.call_len_list pl.isList (by simp only[List.size_toArray] <;> omega) ⟨.int ys.length,H,I.tok _,⟨s.toks+1,by rw[List.size_toArray,hlen]⟩,q⟩
 ·obtain⟨its,r',pl,hz⟩:=I.tuple hq
  have hlen:=r'.length
  exact len_tuple pl (by simp only[List.size_toArray] <;> omega) ⟨.int ys.length,H,I.tok _,⟨s.toks+1,by rw[List.size_toArray,hlen]⟩,q⟩
theorem EB:DD X (.builtin "len") (fun xs H Q=>∃ z,xs=[.str z]∧z.length≤sizeLine∧Q (.int z.length) H):=by
 intro pins s σ H xs us Q I r h
 obtain⟨z,rfl,hz,q⟩:=h
 obtain⟨u,rfl,t,rfl⟩:=Hy r
 have hn:=Ga
 exact len_str (by omega) ⟨.int z.length,H,I.tok _,⟨_,rfl⟩,q⟩
theorem F5:DD X (.type "list") (fun xs H Q=>∃ p ys,xs=[.ref p]∧(As X.K H p ys∨A0 X.K H p ys)∧∀ l,H l=none→Q (.ref l) (upd H l (.lst ys))):=by
 intro pins s σ H xs us Q I r h
 obtain⟨p,ys,rfl,hq,q⟩:=h
 obtain⟨u,rfl,rx⟩:=Hy r
 cases rx
 have fin:∀(its:List Value),A3 ys its→ys.length≤sizeLine→∀(h':Heap) (c':Nat),(∀ b o',s.heap.get? b=some o'→h'.get? b=some o')→
  h'.get? s.heap.objs.size=some { cls:=.type "list",dict:=none,data:=.seq its.toArray c',slots:=#[] }→EP X pins σ Q (.ref s.heap.objs.size) { s with heap:=h' }:=fun its r' hz h' c' kp e=>
  ⟨.ref s.heap.objs.size,_,I.laid (t':=s.toks) kp (Nat.le_refl _) (show BI X.prog X.w _ h' _ (.lst ys)from⟨hz,its,c',r',e⟩),rfl,q _ (I.hok.fresh (Nat.le_refl _))⟩
 rcases hq with hq | hq
 ·obtain⟨its,r',pl,hz⟩:=I.list hq
  have hlen:=r'.length
  obtain⟨o,ho,hc,n,hd⟩:=pl.isList
  exact call_list_seq p (.inl rfl) ho hc hd (fun h' c' kp e=>fin its r' hz h' c' kp e) (by simp only[List.size_toArray] <;> omega)
 ·obtain⟨its,r',pl,hz⟩:=I.tuple hq
  have hlen:=r'.length
  obtain⟨o,ho,hc,n,hd⟩:=pl
  exact call_list_seq p (.inr rfl) ho hc hd (fun h' c' kp e=>fin its r' hz h' c' kp e) (by simp only[List.size_toArray] <;> omega)
theorem Dd:DD X (.type "tuple") (fun xs H Q=>∃ p ys,xs=[.ref p]∧((As X.K H p ys∧∀ l,H l=none→Q (.ref l) (upd H l (.tup ys)))∨(A0 X.K H p ys∧Q (.ref p) H))):=by
 intro pins s σ H xs us Q I r h
 obtain⟨p,ys,rfl,h⟩:=h
 obtain⟨u,rfl,rx⟩:=Hy r
 cases rx
 rcases h with⟨hq,q⟩ | ⟨hq,q⟩
 ·obtain⟨its,r',pl,hz⟩:=I.list hq
  have hlen:=r'.length
  refine call_tuple_list pl.isList (fun h' kp=>?_) (by simp only[List.size_toArray] <;> omega)
  have I1:Ap X pins σ H { s with heap:=h' }:=I.kept (t':=s.toks) kp
  have I2:Ap X pins σ (upd H h'.objs.size (.tup ys)) { s with heap:=h'.push { cls:=.type "tuple",data:=.seq its.toArray } }:=
   I1.laid (t':=s.toks) (fun b o e=>Heap.get?_push_of_some _ e) (Nat.le_refl _) (show BI X.prog X.w _ _ _ (.tup ys)from⟨hz,its,r',IsTup.new _ _⟩)
  exact⟨.ref h'.objs.size,_,I2,rfl,q _ (I1.hok.fresh (Nat.le_refl _))⟩
 ·obtain⟨its,r',pl,hz⟩:=I.tuple hq
  exact call_tuple_same pl ⟨.ref p,H,I,rfl,q⟩
def XV (K:PySem.W.Frag)(T:String)(x:V)(H:Hp):Prop:=match x with
 | .str _=>T="str"
 | .int _=>T="int"
 | .ref p=>(T="list"∧∃ xs,As K H p xs)∨(T="tuple"∧∃ o,K.lookup p=some o∧o.cls=.type "tuple"∧o.dict=none)∨
  (T="dict"∧((∃ kvs,H p=some (.dK kvs))∨∃ kvs,H p=some (.dT kvs)))∨(T="set"∧∃ S n,H p=some (.set S n))
 | _=>False
theorem PR {pins:List (Addr×Obj)}{σ:St}{H:Hp}{s:Shared}{T:String}{x:V}{v:Value}(I:Ap X pins σ H s)(r:Aw x v)(ty:XV X.K T x H):
 s.TypeIs v T∧∀ a,v=.ref a→∃ ob,s.heap.get? a=some ob∧ob.dict=none:=by
 cases x with
 | str z=>
  obtain⟨t,rfl⟩:=r
  cases (show T="str" from ty)
  exact⟨typeIs_str s z t,fun _ e=>nomatch e⟩
 | int i=>
  obtain⟨t,rfl⟩:=r
  cases (show T="int" from ty)
  exact⟨typeIs_int s i t,fun _ e=>nomatch e⟩
 | ref p=>
  cases r
  rcases ty with⟨rfl,xs,hq⟩ | ⟨rfl,o,hk,hc,hd⟩ | ⟨rfl,hk⟩ | ⟨rfl,S,n,hk⟩
  ·obtain⟨its,_,pl,_⟩:=I.list hq
   refine⟨pl.isList.typeIs,fun a e=>?_⟩
   cases e
   obtain⟨o,n,e,c,hd,_⟩:=pl
   exact⟨o,e,hd⟩
  ·refine⟨⟨o,I.kIn p o hk,hc⟩,fun a e=>?_⟩
   cases e
   exact⟨o,I.kIn _ o hk,hd⟩
  ·have z:∃ o,s.heap.get? p=some o∧o.ExactDict:=by
    rcases hk with⟨kvs,hk⟩ | ⟨kvs,hk⟩
    ·obtain⟨_,_,_,_,o,_,_,e,ex,_⟩:=I.hok p _ hk
     exact⟨o,e,ex⟩
    ·obtain⟨_,_,_,_,o,_,_,e,ex,_⟩:=I.hok p _ hk
     exact⟨o,e,ex⟩
   obtain⟨o,e,ex⟩:=z
   refine⟨⟨o,e,ex.1⟩,fun a e2=>?_⟩
   cases e2
   exact⟨o,e,ex.2.1⟩
  ·obtain⟨o,_,_,_,e,ex,_⟩:=I.hok p _ hk
   refine⟨⟨o,e,ex.1⟩,fun a e2=>?_⟩
   cases e2
   exact⟨o,e,ex.2.1⟩
 | _=>exact False.elim ty
def XW (K:PySem.W.Frag)(T:String)(r:V→List V→Hp→VK→Prop)(to:TE):TE:=fun σ H Q=>to σ H fun x H1=>XV K T x H1∧r x [] H1 Q
def Yh (K:PySem.W.Frag)(T:String)(r:V→List V→Hp→VK→Prop)(to:TE)(t:TA):TE:=fun σ H Q=>to σ H fun x H1=>XV K T x H1∧t σ H1 fun xs H2=>r x xs H2 Q
variable {o e:Expr}{es:List Expr}{to:TE}{t:TA}{name:Str}{apos cpos:Pos}{T id:String}{r:V→List V→Hp→VK→Prop}
theorem To (pa:PlainAttrs T)(slot:Slot T name id)(hty:typeOf (.builtin id)=pure (.type "method_descriptor"))(hm:XR X id r)(ho:PE X o to)
 (hbase:attributeBase o name X.env (eval o X.env)=eval o X.env:=by rfl) (hline:(apos.endLine==cpos.line)=true:=by rfl):PE X (.Call (.Attribute o name apos) [] [] cpos) (XW X.K T r to):=by
 intro pins s σ H Q I h
 refine wpAny_Call_method0_late hbase hline (Bq (ho pins s σ H _ I h) fun v s1 zq=>?_)
 obtain⟨x,H1,I1,r1,ty,q1⟩:=zq
 obtain⟨h1,h2⟩:=PR I1 r1 ty
 exact⟨T,id,pa,slot,hty,h1,h2,Calls.callWith_builtin rfl (PySem.evalArgs_none (hm pins s1 σ H1 x [] v [] Q I1 r1 .nil q1))⟩
theorem NU (pa:PlainAttrs T)(slot:Slot T name id)(hty:typeOf (.builtin id)=pure (.type "method_descriptor"))(hm:XR X id r)(ho:PE X o to)(ha:PA X (e::es) t)
 (hbase:attributeBase o name X.env (eval o X.env)=eval o X.env:=by rfl)
 (hfew:((backTo cpos (starEach (e::es) X.env)).all (fun x=>!x.1)&&(backToKw cpos (keywordEach [] X.env)).all (fun x=>x.1.isSome)
  && decide ((e::es).length+([]:List Keyword).length+(if([]:List Keyword).isEmpty then 0 else 1)<30))=true:=by rfl)
 (hline:(apos.endLine==cpos.line)=true:=by rfl) (hs:starEach (e::es) X.env=(false,eval e X.env)::starEach es X.env:=by rfl) (hplain:(backTo cpos (starEach es X.env)).any (·.1)=false:=by rfl):
 PE X (.Call (.Attribute o name apos) (e::es) [] cpos) (Yh X.K T r to t):=by
 intro pins s σ H Q I h
 refine wpAny_Call_method_late hbase hfew hline rfl (Bq (ho pins s σ H _ I h) fun v s1 zq=>?_)
 obtain⟨x,H1,I1,r1,ty,q1⟩:=zq
 obtain⟨h1,h2⟩:=PR I1 r1 ty
 refine⟨T,id,pa,slot,hty,h1,h2,?_⟩
 have hA:=ha cpos pins s1 σ H1 _ I1 q1
 rw[hs]at hA ⊢
 refine Calls.callWith_builtin (by show(false||(backTo cpos (starEach es X.env)).any (·.1))=false;rw[hplain] <;> rfl) (Calls.evalArgs_plain ?_)
 exact Bq hA fun us s2 ⟨vs,H2,I2,r2,q2⟩=>hm pins s2 σ H2 x vs v us Q I2 r1 r2 q2
/- xs.append(e),list.index on a module's tuple .. are XR facts of 06m -/
end
def XX (X:Cx)(id:String)(r:V→List V→Hp→VK→Prop):Prop:=
 ∀(pins:List (Addr×Obj)) (s:Shared) (σ:St) (H:Hp) (x:V) (xs:List V) (v:Value) (us:List Value) (Q:VK),Ap X pins σ H s→Aw x v→A3 xs us→r x xs H Q→
  wpAny (model X.prog X.w) X.A (call (.builtin id) (v::us)) (EP X pins σ Q) X.xe s
theorem A3.one {x:V}{us:List Value}(h:A3 [x] us):∃ u,us=[u]∧Aw x u:=by
 cases h with
 | cons r t=>
  cases t
  exact⟨_,rfl,r⟩
theorem A3.zero:∀{us:List Value},A3 [] us→us=[]
 | _,.nil=>rfl
theorem A3.dropLast {xs:List V}{us:List Value}(h:A3 xs us):A3 xs.dropLast us.dropLast:=by
 induction h with
 | nil=>exact .nil
 | cons r t ih=>
  cases t with
  | nil=>exact .nil
  | cons q t'=>exact .cons r ih
theorem MW {α:Type}(l:List α):l.eraseIdx (l.length-1)=l.dropLast:=by
 induction l with
 | nil=>rfl
 | cons a r ih=>
  cases r with
  | nil=>rfl
  | cons b r=>
   have e:(a::b::r).length-1=((b::r).length-1)+1:=by
    have h1:(a::b::r).length=r.length+2:=rfl
    have h2:(b::r).length=r.length+1:=rfl
    omega
   rw[e,List.eraseIdx_cons_succ,ih]
   all_goals rfl
section
variable {X:Cx}{pins:List (Addr×Obj)}{σ:St}{H:Hp}{s:Shared}{l b:Addr}{xs ys zs:List V}
theorem Ap.lset {its its':List Value}{n:Nat}{f:Array Value→Array Value}{t':Nat}(I:Ap X pins σ H s)(hH:H l=some (.lst xs))
 (e:s.heap.get? l=some { cls:=.type "list",data:=.seq its.toArray n }) (hf:f its.toArray=its'.toArray) (hv:A3 ys its') (hz:ys.length≤sizeLine):
 Ap X pins σ (upd H l (.lst ys)) { s with heap:=s.heap.update l (Obj.mapSeq f),toks:=t' }:=by
 have q:=PySem.IsL.update e f
 rw[hf]at q
 refine I.write (x:=l) (e:=l) (by rw[hH];exact trivial) (.inl rfl) (fun b' u hb hu=>(Heap.get?_update_other s.heap (Obj.mapSeq f) (Ne.symm hb)).trans hu) ⟨_,q⟩ ?_
 exact⟨hz,its',_,hv,q⟩
theorem Ap.lnew {its:List Value}{t':Nat}(I:Ap X pins σ H s)(hv:A3 ys its)(hz:ys.length≤sizeLine):
 Ap X pins σ (upd H s.heap.objs.size (.lst ys)) { s with heap:=s.heap.push { cls:=.type "list",data:=.seq its.toArray },toks:=t' }:=
 I.laid (fun _ _ q=>Heap.get?_push_of_some _ q) (Nat.le_refl _) ⟨hz,its,0,hv,Heap.get?_push_size _ rfl⟩
theorem Ap.fresh (I:Ap X pins σ H s):H s.heap.objs.size=none:=I.hok.fresh (Nat.le_refl _)
theorem Ap.lstM (I:Ap X pins σ H s)(hH:H l=some (.lst xs)):xs.length≤sizeLine∧∃(its:List Value) (n:Nat),A3 xs its∧xs.length=its.length∧s.heap.get? l=some { cls:=.type "list",data:=.seq its.toArray n }:=by
 obtain⟨z,its,n,r,e⟩:=I.hok l _ hH
 exact⟨z,its,n,r,r.length,e⟩
theorem PU {n:Nat}(h:n≤sizeLine):Builtin.List.listTooLong n=false:=by
 unfold Builtin.List.listTooLong
 exact decide_eq_false (by omega)
end
section
variable {X:Cx}
def RV:V→List V→Hp→VK→Prop:=fun x vs H Q=>∃ l xs y,x=.ref l∧vs=[y]∧H l=some (.lst xs)∧xs.length<sizeLine∧Q .non (upd H l (.lst (xs++[y])))
theorem E9:XX X "list.append" RV:=by
 intro pins s σ H x vs v us Q I rx rv h
 obtain⟨l,xs,y,rfl,rfl,hH,hz,q⟩:=h
 cases rx
 obtain⟨u,rfl,ru⟩:=rv.one
 obtain⟨z,its,n,r,hl,e⟩:=I.lstM hH
 refine call_meets F.slot_list_append ⟨_,e,rfl⟩ F.entry_list_append (F.args_list_append_2 _ _) (PySem.list_append l its.toArray n u (by rw[List.size_toArray];omega)) ⟨e,?_⟩
 refine⟨.non,_,I.lset (its':=its++[u]) hH e (by simp) (r.append (.cons ru .nil)) ?_,rfl,q⟩
 rw[List.length_append,List.length_singleton]
 omega
def RW:V→List V→Hp→VK→Prop:=fun x vs H Q=>∃ l b xs zs,x=.ref l∧vs=[.ref b]∧H l=some (.lst xs)∧H b=some (.lst zs)∧xs.length+zs.length≤sizeLine∧Q .non (upd H l (.lst (xs++zs)))
theorem OP:XX X "list.extend" RW:=by
 intro pins s σ H x vs v us Q I rx rv h
 obtain⟨l,b,xs,zs,rfl,rfl,hH,hB,hz,q⟩:=h
 cases rx
 obtain⟨u,rfl,ru⟩:=rv.one
 cases ru
 obtain⟨z,its,n,r,hl,e⟩:=I.lstM hH
 obtain⟨z2,its2,n2,r2,hl2,e2⟩:=I.lstM hB
 have hsz:its.toArray.size+its2.toArray.size≤sizeLine:=by rw[List.size_toArray,List.size_toArray];omega
 have hlong:¬ (!its.toArray.isEmpty&&Builtin.List.listTooLong (its.toArray.size+its2.toArray.size))=true:=by
  rw[PU hsz,Bool.and_false]
  exact Bool.false_ne_true
 refine call_meets F.slot_list_extend ⟨_,e,rfl⟩ F.entry_list_extend (F.args_list_extend_2 _ _)
  (AutoSeq1.list_extend_list_list_0 l its.toArray n b its2.toArray n2 hlong (by rw[List.size_toArray];omega) (by omega)) ⟨e,e2,?_⟩
 refine⟨.non,_,I.lset (its':=its++its2) hH e (by simp) (r.append r2) ?_,rfl,q⟩
 rw[List.length_append]
 omega
def XY:V→List V→Hp→VK→Prop:=fun x vs H Q=>∃ l xs y,x=.ref l∧vs=[]∧H l=some (.lst xs)∧xs[xs.length-1]?=some y∧Q y (upd H l (.lst xs.dropLast))
theorem Tp:XX X "list.pop" XY:=by
 intro pins s σ H x vs v us Q I rx rv h
 obtain⟨l,xs,y,rfl,rfl,hH,hy,q⟩:=h
 cases rx
 have hus:=rv.zero
 subst hus
 obtain⟨z,its,n,r,hl,e⟩:=I.lstM hH
 obtain⟨u,hu,ru⟩:=r.get hy
 have hy':its.toArray[its.toArray.size-1]?=some u:=by
  show its.toArray[its.length-1]?=some u
  rw[← Array.getElem?_toList,← hl]
  exact hu
 refine call_meets F.slot_list_pop ⟨_,e,rfl⟩ F.entry_list_pop (F.args_list_pop_1 _) (MeetsSeq.list_pop_last l its.toArray n u hy' (by rw[List.size_toArray];omega)) ⟨e,?_⟩
 refine⟨y,_,I.lset (its':=its.dropLast) hH e ?_ r.dropLast ?_,ru,q⟩
 ·show its.toArray.eraseIdxIfInBounds (its.toArray.size-1)=its.dropLast.toArray
  rw[List.size_toArray,List.eraseIdxIfInBounds_toArray,MW]
 ·rw[List.length_dropLast]
  omega
def VW:R2:=fun x y H Q=>∃ l b xs zs,x=.ref l∧y=.ref b∧H l=some (.lst xs)∧H b=some (.lst zs)∧xs.length+zs.length≤sizeLine∧∀ p,H p=none→Q (.ref p) (upd H p (.lst (xs++zs)))
theorem A7:FS X (binaryOp .Add) VW:=by
 intro pins s σ H x y v u Q I rx ry h
 obtain⟨l,b,xs,zs,rfl,rfl,hH,hB,hz,q⟩:=h
 cases rx
 cases ry
 obtain⟨z,its,n,r,hl,e⟩:=I.lstM hH
 obtain⟨z2,its2,n2,r2,hl2,e2⟩:=I.lstM hB
 refine PySem.P.add_list e e2 ?_ (by rw[List.size_toArray,List.size_toArray];omega)
 have ea:its.toArray++its2.toArray=(its++its2).toArray:=by simp
 rw[ea]
 exact⟨.ref _,_,I.lnew (t':=s.toks) (r.append r2) (by rw[List.length_append];omega),rfl,q _ I.fresh⟩
end
end L2
namespace Att
open PySem PySem.W PySem.Calls PyProof.Rows
theorem HI {P:Params}{h:Heap}:∀(ns:List Int) (vs:List Value),WellAll P h vs (ns.map WData.int)→IntsAre vs ns:=by
 intro ns
 induction ns with
 | nil=>
  intro vs w
  rw[List.map_nil]at w
  cases w
  exact .nil
 | cons n ns ih=>
  intro vs w
  rw[List.map_cons]at w
  cases w with
  | cons a b=>
   cases a
   exact .cons _ _ (ih _ b)
theorem OQ {l:OpenLaw}{n:Nat}(hn:l.most=some n){P:Params}{h:Heap}{args:List WData}{vals:List Value}
 (hpre:l.row.toRowW.claim.pre args=true) (hwl:WellAll P h vals args):
 ∃ a vs ns,vals=[Value.ref a]∧args=[WData.list (ns.map WData.int)]∧h.get? a=some { cls:=.type "list",data:=.seq vs.toArray }∧IntsAre vs ns∧ns.length≤n:=by
 have hsh:WShape.hasAll [] args [.list .int]=true:=(pre_splitW hpre).1
 have hc:l.pre.holds [] { args:=args }=true:=(pre_splitW hpre).2
 obtain⟨d,r,rfl,h1,h2⟩:=hasAllW_cons hsh
 obtain rfl:=hasAllW_nil h2
 obtain⟨xs,rfl,h3⟩:=hasW_list h1
 obtain⟨ns,rfl⟩:=items_int h3
 have hlen:ns.length≤n:=by
  unfold OpenLaw.pre at hc
  have h4:(WTm.not (.lt (.lit (.int (n:Int))) (.len (.arg 0)))).holds [] { args:=[.list (ns.map .int)] }=true:=by
   have h4:=(holds_andW hc).1
   rw[hn]at h4
   exact h4
  have h5:=condW_of h4 (w_not (w_lt w_lit (w_len_list (w_arg rfl))))
  rw[List.length_map]at h5
  refine Nat.le_of_not_lt fun q=>?_
  have q':(n:Int)<((ns.length:Nat):Int):=by omega
  first
   | (rw[decide_eq_true q']at h5;exact absurd h5 (by decide))
   | (simp at h5;omega)
 cases hwl with
 | cons w1 w2=>
  cases w2
  cases w1 with
  | list ho hall=>exact⟨_,_,ns,rfl,rfl,ho,HI ns _ hall,hlen⟩
theorem OR (l:OpenLaw)(args:List WData):l.row.toRowW.claim.post args (.bool true) args=true:=
 postW_of (r:=l.row.toRowW) (X:=(true==true))
  (show WShape.has [] (.bool true) .bool=true by first | rfl | decide | simp[WShape.has,WShape.arms,WShape.armsAll])
  (show(WTm.eq .res (.lit (.bool true))).value [] { args:=args,res:=some (.bool true),after:=args }=some (.bool (true==true))from w_eq_bool (w_res rfl) w_lit) rfl
theorem Kz {l:OpenLaw}{n:Nat}{q:Program}{loose:List Str}{XP:(Str→Option Value)→Heap→Prop}{YP:World→Heap→Prop}{d:DefRec}
 (hn:l.most=some n) (hdf:d.params.defaults=[])
 (call:∀(w:World) (s₀ s₁:Shared) (mg mb:Str→Option Value) (fa:Addr) (o:Obj) (pm cd doc:Value) (a:Addr) (vs:List Value) (ns:List Int),
  Ground q loose [] XP w s₀ mg mb s₁.heap→YP w s₁.heap→
  s₁.heap.get? fa=some o→o.data=.func (docDef d.name d.params d.body d.scope pm cd doc)→s₁.heap.CodeRec cd d.name→mg d.name=some (.ref fa)→
  s₁.heap.get? a=some { cls:=.type "list",data:=.seq vs.toArray }→IntsAre vs ns→ns.length≤n→s₁.gens=#[]→
  codeAny (model l.prog w) callerA (.call (.ref fa) ⟨[.ref a],[]⟩) (fun r s'=>r=.ok (.ret (.bool true))∧OldK s₁.heap s'.heap∧s'.os=s₁.os∧AllBare s'.gens) s₁):
 WalkO q loose XP YP l.row.toRowW d [] (fun f vs=>PySem.call f vs):=by
 intro w s₀ s₁ mg mb G Y fa o pm cd doc dV kV ho hd hcd hD hmg hg args vals as hpre hlay hrd hwl hlo
 obtain rfl:dV=.none:=Dflts.none hD hdf
 obtain rfl:kV=.none:=Dflts.noKw hD
 obtain⟨a,vs,ns,rfl,rfl,hobj,hints,hlen⟩:=OQ hn hpre hwl
 refine enter_call (codeAny_mono (call w s₀ s₁ mg mb fa o pm cd doc a vs ns G Y ho (fd_plain hd) hcd hmg hobj hints hlen hg) fun r s' hq=>?_)
 obtain⟨rfl,h2,h3,h4⟩:=hq
 exact⟨.inl ⟨.bool true,.bool true,[],rfl,fun _=>rfl,.bool true,OR l _,fun _=>⟨List.Pairwise.nil,fun _ hm=>(nomatch hm)⟩⟩,h2,h3,h4⟩
end Att
namespace L2
open PySem PySem.Spec PyProof.Rows
theorem Jc:∀{vs:List Value} {ns:List Int},IntsAre vs ns→A3 (ns.map V.int) vs
 | _,_,.nil=>.nil
 | _,_,.cons n t h=>.cons ⟨t,rfl⟩ (Jc h)
end L2
/- THE LAST THEOREM (shape;LID,My.* are yours):
 My.Adr: a structure of the addresses that your layer names (classes,functions);My.Txt K t: a structure (Prop) of the equations over K;
 My.txt_mk:{K} {implicit addresses ..} (e1:nsIn K mainGlobals "law"=some (some (.ref f))) (e2:K.lookup f=some ⟨oc,od,.func (fnOf "law" "law" params body scope dV kV doc pm an cdv ct),sl⟩) (e3:codeIn K cdv "law"=true) ..:∃ t,My.Txt K t
set_option maxRecDepth 100000 in
set_option maxHeartbeats 0 in
theorem PySem.Challenge.cw_LID_holds : PySem.Challenge.rw_LID.Holds := by
 w_on;o_law;k_head;(case hw=>w_witness2)
 k_fill
 refine L2.walk_of (l:=PySem.Challenge.rw_LID) (n:=63) (k:=40) (x:="script") (CX:=fun w=>..) (sp:=fun _=>My.sp_law) rfl (by decide) rfl ⟨rfl,by decide,by decide⟩ (fun w h Y=>PySem.W.kIn_of Y) ?F ?S ?C
 case F=>
  intro w mg fa h KX G hmg
  have T:∃ t,My.Txt (L2.KOf KX) t:=by
   dsimp only[L2.KOf]                          -- K must stand as «<heap const> w.params» for k_is
   refine' My.txt_mk ?e1 ?e2 ?e3 ..
   (case e1=>PySem.W.k_is)                    -- in the order: a name -> its address -> its object -> its parts
   (case e2=>PySem.W.k_is)
   ..
  obtain⟨t,T⟩:=T
  have e0:=hmg.symm.trans (PySem.W.mg_of KX G T.law)
  cases e0                                       -- fa is the law's own address
  exact⟨_,fun s u=>.of_eq rfl,fun base kb nb=>My.law_fn T kb nb⟩     -- if «.of_eq rfl» comes too early: refine' ⟨_,?b,fun base kb nb=>My.law_fn T kb nb⟩;exact fun s u=>.of_eq rfl
 case S=>exact fun w H a ns hl hO hS=>..
 case C=>exact ..
(the tactic k_is has no namespace: write k_is) -/
namespace L2
open PySem PySem.Spec PyProof.Rows
def EC (s:Stmt):Arguments:=match s with
 | .FunctionDef _ a _ _ _ _ _ _ _ _=>a
 | _=>{ posonlyargs:=[],args:=[],vararg:=none,kwonlyargs:=[],kw_defaults:=[],kwarg:=none,defaults:=[] }
def B8 (s:Stmt):List Stmt:=match s with
 | .FunctionDef _ _ b _ _ _ _ _ _ _=>b
 | _=>[]
def AO (s:Stmt):Scope:=match s with
 | .FunctionDef _ _ _ _ _ _ sc _ _ _=>sc
 | _=>{ kind:=.function,names:=[],isGenerator:=false,isCoroutine:=false }
abbrev Bo:O6:=fun _ _ _ _ _ _=>False
abbrev E0:XK:=fun _ _ _=>False
theorem VX {X:Cx}:J0 Bo X E0:=fun _ _ _ _ _ _ _ h=>h.elim
structure Fun (K:PySem.W.Frag)(x qual:Str)(st:Stmt)(f:Addr)(fd:FuncData):Prop where
 ex:∃(oc:Value) (od:Option Addr) (kV doc pm:Value) (an:Option Addr) (cdv ct:Value) (osl:Array (Option Value)),
  fd=PySem.W.fnOf x qual (EC st) (B8 st) (AO st) .none kV doc pm an cdv ct∧K.lookup f=some ⟨oc,od,.func fd,osl⟩∧PySem.W.codeIn K cdv qual=true
 kp:PySem.W.keepIn K (.ref f)=true
section
variable {P:Program}{w:World}{K:PySem.W.Frag}{mg:Str→Option Value}{base:Heap}
theorem Fun.ok {x qual:Str}{st:Stmt}{f:Addr}{fd:FuncData}{N ps:List Str}{k:Nat}{sp:Sp}(F:Fun K x qual st f fd)(S:AZ N ps (AO st))(len:∀ vs H Q E,sp vs H Q E→vs.length=ps.length)
 (hbody:∀(cdv:Value) (A:Around) (outer:List Env) (s:Shared) (H:Hp) (vs:List V) (Q:VK) (E:XK),Bx k (A.deeper (envOfC qual (AO st) s.heap.objs.size f cdv))→sp vs H Q E→
  ∃ t,Jv (Do Bo P w K mg base N qual (AO st) f cdv A outer s H E).nox (B8 st) t∧t { nx:=fun _ H'=>Q .non H',rt:=Q } (EW N vs) H):A1 P w K mg base Bo (k+1) f fd ps sp:=by
 obtain⟨oc,od,kV,doc,pm,an,cdv,ct,osl,rfl,lk,hcd⟩:=F.ex
 refine PP lk hcd S len fun A outer s H vs Q E hr hsp=>?_
 obtain⟨t,h,q⟩:=hbody cdv A outer s H vs Q E hr hsp
 exact⟨t,h.nox,q⟩
theorem Fun.binds {x qual:Str}{st:Stmt}{f:Addr}{fd:FuncData}{ps:List Str}(F:Fun K x qual st f fd)
 (h:∀(kV doc pm:Value) (an:Option Addr) (cdv ct:Value) (us:List Value),us.length=ps.length→bindArgs (PySem.W.fnOf x qual (EC st) (B8 st) (AO st) .none kV doc pm an cdv ct) ⟨us,[]⟩=pure (ps.zip us)):IA K fd ps []:=by
 obtain⟨oc,od,kV,doc,pm,an,cdv,ct,osl,rfl,lk,hcd⟩:=F.ex
 exact .all (h kV doc pm an cdv ct)
theorem Tq {x qual:Str}{st:Stmt}{f:Addr}{oc:Value}{od an:Option Addr}{osl:Array (Option Value)}{kV doc pm cdv ct:Value}(l:K.lookup f=some ⟨oc,od,.func (PySem.W.fnOf x qual (EC st) (B8 st) (AO st) .none kV doc pm an cdv ct),osl⟩)
 (c:PySem.W.codeIn K cdv qual=true) (k:PySem.W.keepIn K (.ref f)=true):Fun K x qual st f (PySem.W.fnOf x qual (EC st) (B8 st) (AO st) .none kV doc pm an cdv ct):=⟨⟨oc,od,kV,doc,pm,an,cdv,ct,osl,rfl,l,c⟩,k⟩
end
theorem So {A:Around}{k:Nat}(hr:Bx k A):A.units+1<cLine:=Nat.lt_of_le_of_lt (Nat.add_le_add_left (by decide:1≤64) _) hr.units
theorem Jd {n:Nat}(h:n≤1000):n<sizeLine:=Nat.lt_of_le_of_lt h (by decide)
section
variable {X:Cx}
theorem pv (i:Nat){x:Str}{pos:Pos}(hN:X.N[i]?=some x:=by rfl)(hv:W8 X.env.scope x:=by first | exact Or.inl rfl | exact Or.inr (Or.inl rfl) | exact Or.inr (Or.inr rfl))(hd:(x==("__debug__":Str))=false:=by decide)
 (hcd:(x==("__classdict__":Str))=false:=by decide):PE X (.Name x pos) (O9 i):=PB hN hv hd hcd
end
theorem AY {A B:Prop}(h:B):if false=true then A else B:=by
 rw[if_neg Bool.false_ne_true]
 exact h
theorem AU {A B:Prop}(h:A):if true=true then A else B:=by
 rw[if_pos rfl]
 exact h
theorem Bn {c A B:Prop}[Decidable c](h1:c→A)(h2:¬ c→B):if c then A else B:=by
 by_cases h:c
 ·rw[if_pos h]
  exact h1 h
 ·rw[if_neg h]
  exact h2 h
def AF (H H':Hp):Prop:=∀ b o,H b=some o→H' b=some o
theorem AF.refl (H:Hp):AF H H:=fun _ _ h=>h
theorem AF.trans {H H1 H2:Hp}(a:AF H H1)(b:AF H1 H2):AF H H2:=fun c o h=>b c o (a c o h)
theorem AF.seq {K:PySem.W.Frag}{H H':Hp}{a:Addr}{xs:List V}(e:AF H H')(h:As K H a xs):As K H' a xs:=by
 rcases h with(h | ⟨o,h⟩) | h
 ·exact .inl (.inl (e _ _ h))
 ·exact .inl (.inr ⟨o,e _ _ h⟩)
 ·exact .inr h
def Sz (n:Nat)(x:Int):Prop:=x.natAbs<2 ^ n
theorem Sz.mono {m n:Nat}{x:Int}(h:Sz m x)(hn:m≤n):Sz n x:=Nat.lt_of_lt_of_le h (Nat.pow_le_pow_right (by decide) hn)
section
variable {X:Cx}
def PV (i j:Int):Prop:=Sz 4000 i∧Sz 4000 j
theorem PV.ok {i j:Int}(h:PV i j):IntMulOk i j:=IntMulOk.of_le (m:=4000) (n:=4000) (intBits_le_iff.mpr h.1) (intBits_le_iff.mpr h.2) (by decide)
theorem F6:FS X (binaryOp .Mult) (rI PV fun i j=>.int (i*j)):=HH fun _ _ _ _ _ _ _ hc q=>mul_int q hc.ok
def PX (_ j:Int):Prop:=j≠0∧Sz 4000 j
theorem PX.ok {i j:Int}(h:PX i j):Builtin.divisionGoesByPylong i j=false:=by
 refine PyProof.noPylong_of_log2 ?_
 have h0:j.natAbs≠0:=by have:=h.1;omega
 exact Nat.lt_trans ((Nat.log2_lt h0).mpr h.2) (by decide)
theorem PY:FS X (binaryOp .FloorDiv) (rI PX fun i j=>.int (i.fdiv j)):=HH fun _ _ _ _ _ _ _ hc q=>floordiv_int hc.1 q (.inl hc.ok)
def MX:List V→List V→Bool
 | [],[]=>true
 | x::xs,y::ys=>J6 x y&&MX xs ys
 | _,_=>false
theorem IB (n:Nat)(e:Nat→Bool):(List.range (n+1)).all e=(e 0&&(List.range n).all fun i=>e (i+1)):=by
 rw[List.range_succ_eq_map,List.all_cons,List.all_map]
 rfl
def FT (xs ys:List V)(j:Nat):Bool:=match xs[j]?,ys[j]? with
 | some x,some y=>J6 x y
 | _,_=>false
theorem IC:∀(xs ys:List V),((List.range (min xs.length ys.length)).all (FT xs ys)&&xs.length==ys.length)=MX xs ys
 | [],[]=>by simp[MX]
 | [],y::ys=>by simp[MX]
 | x::xs,[]=>by simp[MX]
 | x::xs,y::ys=>by
  have ih:=IC xs ys
  have e:min (x::xs).length (y::ys).length=min xs.length ys.length+1:=by simp only[List.length_cons];omega
  rw[e,IB]
  have e2:(fun i=>FT (x::xs) (y::ys) (i+1))=FT xs ys:=by
   funext i;simp[FT]
  rw[e2]
  have e3:((x::xs).length==(y::ys).length)=(xs.length==ys.length):=by simp
  have e4:FT (x::xs) (y::ys) 0=J6 x y:=by simp[FT]
  rw[e3,e4,Bool.and_assoc,ih,MX]
theorem PZ {pins:List (Addr×Obj)}{σ:St}{H:Hp}{s:Shared}{A:Around}{xs ys:List V}{us vs:List Value}(r1:A3 xs us)(r2:A3 ys vs)(f1:xs.all B3=true)(f2:ys.all B3=true):
 ∀ j (h1:j<us.toArray.size) (h2:j<vs.toArray.size),SeqAt.EqAt A s us.toArray[j] vs.toArray[j] (FT xs ys j):=by
 intro j h1 h2
 have l1:=r1.length
 have l2:=r2.length
 rw[List.size_toArray]at h1 h2
 have hx:xs[j]?=some (xs[j]'(by omega)):=List.getElem?_eq_getElem _
 have hy:ys[j]?=some (ys[j]'(by omega)):=List.getElem?_eq_getElem _
 obtain⟨u,hu,ru⟩:=r1.get hx
 obtain⟨v,hv,rv⟩:=r2.get hy
 have eu:us.toArray[j]'(by simpa using h1)=u:=by
  rw[List.getElem?_eq_getElem h1]at hu
  simpa using Option.some.inj hu
 have ev:vs.toArray[j]'(by simpa using h2)=v:=by
  rw[List.getElem?_eq_getElem h2]at hv
  simpa using Option.some.inj hv
 rw[eu,ev]
 have e:FT xs ys j=J6 (xs[j]'(by omega)) (ys[j]'(by omega)):=by unfold FT;rw[hx,hy]
 rw[e]
 exact MU ru rv (List.all_eq_true.mp f1 _ (List.getElem_mem _)) (List.all_eq_true.mp f2 _ (List.getElem_mem _))
def XZ (K:PySem.W.Frag)(n:Nat)(t:Ta):TG:=fun v σ H Q=>∃ a xs,v=.ref a∧As K H a xs∧xs.length=n∧t xs σ H Q
theorem Tr {es:List Expr}{k:Nat}{t:Ta}{n:Nat}{pos:Pos}(hc:X.calm=true)(h:VG X es t)
 (hn:(assignEach es X.env).length=n:=by rfl) (hst:(assignEach es X.env).findIdx? (·.1)=none:=by rfl):PG X (.Tuple es k pos) (XZ X.K n t):=by
 intro pins s σ H v u Q I r hw
 obtain⟨a,xs,e1,hq,hl,hw⟩:=hw
 subst e1
 cases r
 obtain⟨its,rv,ht,hz⟩:=I.list hq
 rw[assign_Tuple]
 refine wpAny_bind (wpAny_standAt ?_)
 unfold unpack
 have e:(assignEach es X.env).length=its.toArray.size:=by rw[hn,← hl,rv.length,List.size_toArray]
 rw[e,hst]
 refine wpAny_bind (wpAny_holding (PySem.W.kun_itemsOf (I.ok.hd hc) ht.isList fun h' hx=>?_))
 have I1:Ap X pins σ H { s with heap:=h' }:=I.kept (t':=s.toks) fun b o e=>hx b o (Nat.ne_of_lt (Heap.lt_size e)) e
 exact h pins _ σ H xs _ Q I1 (by simpa using rv) hw
def Yi (K:PySem.W.Frag):List V→Hp→VK→Prop:=fun xs H Q=>∃ x c t u b,xs=[x,c]∧Fb K H x t∧Aw c u∧(∀ p,c≠.ref p∨True)∧PySem.W.kitOne K t u=some b∧Q (.bl b) H
theorem Az:DD X (.builtin "isinstance") (Yi X.K):=by
 intro pins s σ H xs us Q I r h
 obtain⟨x,c,t,u',b,rfl,ty,rc,_,hk,q⟩:=h
 obtain⟨u,w',rfl,r1,r2⟩:=NS r
 have e:w'=u'∨∃ T,c=.ty T:=by
  cases c with
  | non=>left;cases rc;cases r2;rfl
  | bl _=>left;cases rc;cases r2;rfl
  | int i=>obtain⟨z,rfl⟩:=rc;exact absurd hk (by simp[PySem.W.kitOne,PySem.W.kitCls];cases ty <;> simp)
  | str i=>obtain⟨z,rfl⟩:=rc;exact absurd hk (by simp[PySem.W.kitOne,PySem.W.kitCls];cases ty <;> simp)
  | byt i=>obtain⟨z,rfl⟩:=rc;exact absurd hk (by simp[PySem.W.kitOne,PySem.W.kitCls];cases ty <;> simp)
  | flt i=>obtain⟨z,rfl⟩:=rc;exact absurd hk (by simp[PySem.W.kitOne,PySem.W.kitCls];cases ty <;> simp)
  | ref _=>left;cases rc;cases r2;rfl
  | ty _=>left;cases rc;cases r2;rfl
 rcases e with rfl | ⟨T,rfl⟩
 ·exact JX I r1 ty hk fun tk=>⟨.bl b,H,I.tok tk,rfl,q⟩
 ·cases rc;cases r2
  exact JX I r1 ty hk fun tk=>⟨.bl b,H,I.tok tk,rfl,q⟩
end
def B5 (X:Cx)(scope:Scope)(cl:List (Str×Addr))(C:Addr)(N:List Str)(s₀:Shared)(H₀:Hp)(ex:List Addr)(pn:List (Addr×Obj)):Cx where
 prog:=X.prog
 w:=X.w
 K:=X.K
 mg:=X.mg
 base:=X.base
 A:=X.A
 N:=N
 s₀:=s₀
 H₀:=H₀
 env:=compEnvC scope cl C X.env
 outer:=X.stack
 stack:=X.stack
 ex:=ex
 fn:=fun y=>(cl.lookup y).any fun c=>decide (C<c)
 calm:=X.calm
 pn:=pn
 xe:=fun _ _=>False
structure CH (X:Cx)(scope:Scope)(cl:List (Str×Addr))(x:Str)(fv:List Str)(js:List Nat):Prop where
 kind:scope.kind=.function
 nc:∀ y∈scope.names,y.2≠.cell
 nm:∀ y∈scope.names,y.2=.local→scope.names.lookup y.1=some .local
 hx:scope.names.lookup x=some .local
 fr:∀ y∈scope.names,y.2=.free→y.1∈fv
 nd:(x::fv).Nodup
 vis:∀ y∈fv,scope.names.lookup y=some .free∧X.env.scope.names.lookup y=some .cell∧(cl.lookup y).isSome=true
 cls:∀ p∈cl,X.env.cells.lookup p.1=some p.2
 sl:Paired (fun y j=>X.N[j]?=some y) fv js
def Kj (js:List Nat)(σ:St):St:=js.map fun j=>(σ[j]?).getD none
theorem Cu {env:Env}(hk:env.scope.kind=.function):∀{names:List (Str×NameKind)} {y:Str},names.lookup y=some .free→env.kindOf y=some .cell→
 (names.map fun(n,k)=>if(k==NameKind.free&&env.scope.kind==.function&&env.kindOf n==some .cell)then(n,NameKind.cell)else(n,k)).lookup y=some .cell
 | [],_,h,_=>by simp at h
 | (n,k)::r,y,h,hy=>by
  have ih:=@Cu env hk r y
  show List.lookup y ((if(k==NameKind.free&&env.scope.kind==.function&&env.kindOf n==some .cell)=true then(n,NameKind.cell)else(n,k))::_)=_
  cases hx:y==n with
  | true=>
   have e:y=n:=eq_of_beq hx
   subst e
   simp only[List.lookup_cons,hx]at h
   cases h
   rw[if_pos (by rw[hk,hy];rfl)]
   simp[List.lookup_cons]
  | false=>
   simp only[List.lookup_cons,hx]at h
   split
   ·simp only[List.lookup_cons,hx];exact ih h hy
   ·simp only[List.lookup_cons,hx];exact ih h hy
theorem Cv {env:Env}:∀{names:List (Str×NameKind)} {y:Str} {k':NameKind},
 (names.map fun(n,k)=>if(k==NameKind.free&&env.scope.kind==.function&&env.kindOf n==some .cell)then(n,NameKind.cell)else(n,k)).lookup y=some k'→
 names.lookup y=some k'∨(names.lookup y=some .free∧k'=.cell)
 | [],_,_,h=>by simp at h
 | (n,k)::r,y,k',h=>by
  have ih:=@Cv env r y k'
  have h:List.lookup y ((if(k==NameKind.free&&env.scope.kind==.function&&env.kindOf n==some .cell)=true then(n,NameKind.cell)else(n,k))::(r.map fun(n,k)=>if(k==NameKind.free&&env.scope.kind==.function&&env.kindOf n==some .cell)then(n,NameKind.cell)else(n,k)))=some k':=h
  cases hx:y==n with
  | true=>
   by_cases hc:(k==NameKind.free&&env.scope.kind==.function&&env.kindOf n==some .cell)=true
   ·rw[if_pos hc]at h
    simp only[List.lookup_cons,hx]at h
    cases h
    right
    have hk:k=.free:=by
     rw[Bool.and_eq_true,Bool.and_eq_true]at hc
     exact eq_of_beq hc.1.1
    subst hk
    exact⟨by simp[List.lookup_cons,hx],rfl⟩
   ·rw[if_neg hc]at h
    simp only[List.lookup_cons,hx]at h
    left
    simp only[List.lookup_cons,hx]
    exact h
  | false=>
   have h':(r.map fun(n,k)=>if(k==NameKind.free&&env.scope.kind==.function&&env.kindOf n==some .cell)then(n,NameKind.cell)else(n,k)).lookup y=some k':=by
    by_cases hc:(k==NameKind.free&&env.scope.kind==.function&&env.kindOf n==some .cell)=true
    ·rw[if_pos hc]at h
     simp only[List.lookup_cons,hx]at h
     exact h
    ·rw[if_neg hc]at h
     simp only[List.lookup_cons,hx]at h
     exact h
   simp only[List.lookup_cons,hx]
   exact ih h'
section
variable {X:Cx}{scope:Scope}{cl:List (Str×Addr)}{x:Str}{fv:List Str}{js:List Nat}
theorem CH.cell_of (S:CH X scope cl x fv js){y:Str}{c:Addr}(h:cl.lookup y=some c):X.env.cells.lookup y=some c:=S.cls (y,c) (PySem.mem_of_lookup h)
theorem CH.own (S:CH X scope cl x fv js){C:Addr}{y:Str}{k:NameKind}(h:(compEnvC scope cl C X.env).kindOf y=some k)(hk:k=.cell∨k=.free):y∈fv:=by
 have h':(scope.names.map fun(n,k)=>if(k==NameKind.free&&X.env.scope.kind==.function&&X.env.kindOf n==some .cell)then(n,NameKind.cell)else(n,k)).lookup y=some k:=h
 rcases Cv h' with q | ⟨q,_⟩
 ·rcases hk with rfl | rfl
  ·exact absurd rfl (S.nc _ (PySem.mem_of_lookup q))
  ·exact S.fr _ (PySem.mem_of_lookup q) rfl
 ·exact S.fr _ (PySem.mem_of_lookup q) rfl
theorem ID {F:Str→Nat→Prop}:∀{ys:List Str} {js:List Nat} {i:Nat} {y:Str},Paired F ys js→ys[i]?=some y→∃ j,js[i]?=some j∧F y j:=by
 intro A B j x h
 induction h generalizing j with
 | nil=>
  intro e
  simp at e
 | cons r t ih=>
  intro e
  cases j with
  | zero=>
   simp at e
   subst e
   exact⟨_,rfl,r⟩
  | succ j=>
   obtain⟨y,h1,h2⟩:=ih (by simpa using e)
   exact⟨y,by simpa using h1,h2⟩
theorem MY {pins:List (Addr×Obj)}{σ:St}{H:Hp}{s:Shared}{h₁:Heap}{ex:List Addr}{tk:Nat}(S:CH X scope cl x fv js)(I:Ap X pins σ H s)
 (hf:∀ b∈ex,FI X pins H b) (hlt:∀ b∈ex,b<s.heap.objs.size) (hns:h₁.Ns s.heap.objs.size (fun _=>none)) (hk:∀ b o,s.heap.get? b=some o→h₁.get? b=some o):
 Ap (B5 X scope cl s.heap.objs.size (x::fv) s H ex (X.pn++pins)) [] (none::Kj js σ) H { s with heap:=h₁,toks:=tk }:=by
 have nstk:∀ b∈ex,b∉Dy X.stack:=fun b hb z=>by
  rcases List.mem_cons.mp (I.stkSub b z)with e | e
  ·exact(hf b hb).2.1 e
  ·exact(hf b hb).2.2.1 e
 have ok:(B5 X scope cl s.heap.objs.size (x::fv) s H ex (X.pn++pins)).Ok:=by
  refine⟨I.ok.mod,S.kind,I.ok.glob,I.ok.blt,Nat.le_refl _,fun y z c h1 h2=>I.ok.inj y z c (S.cell_of h1) (S.cell_of h2),fun y hy=>?_,(fun y c h hc=>by
   have h':((cl.lookup y).any fun c=>decide (s.heap.objs.size<c))=true:=h
   rw[show cl.lookup y=some c from hc]at h'
   exact Nat.le_of_lt (of_decide_eq_true h')),I.ok.hd,I.ok.frames,.inl rfl,
   fun b hb=>⟨Nat.ne_of_lt (hlt b hb),fun y c h=>(hf b hb).2.2.2.2.1 y c (S.cell_of h)⟩,I.bs,Nat.le_trans I.ok.bsz I.sz,fun b o e hb=>?_,nstk,I.stack,I.stkFree⟩
  ·have hm:y∈fv:=by
    rcases hy with hy | hy
    ·exact S.own hy (.inl rfl)
    ·exact S.own hy (.inr rfl)
   exact Option.isSome_iff_exists.mp (S.vis y hm).2.2
  ·obtain⟨f0,f1,f2,f3,f4,f5⟩:=hf b hb
   rcases f3 with z | z
   ·exact I.ok.noex b o e z
   ·exact absurd (Nat.lt_of_lt_of_le (Heap.lt_size e) (Nat.le_trans I.ok.bsz z)) (Nat.lt_irrefl _)
 refine⟨ok,rfl,I.bare,Un.kept hk,⟨_,hns,fun i y v e1 e2 e3=>?_⟩,fun y c h=>?_,I.hok.fresh (Nat.le_refl _),fun y c h=>I.freeC y c (S.cell_of h),fun p hp=>?_,I.hok.kept hk,?_⟩
 ·cases i with
  | zero=>have z:(some (none:Option V))=some (some v):=e2;cases z
  | succ i=>
   have hy:fv[i]?=some y:=by simpa [B5]using e1
   obtain⟨j,hj,hN⟩:=ID S.sl hy
   have hv:σ[j]?=some (some v):=by
    have z:(Kj js σ)[i]?=some (some v):=by simpa using e2
    unfold Kj at z
    rw[List.getElem?_map,hj]at z
    have z':(σ[j]?).getD none=some v:=Option.some.inj z
    cases q:σ[j]? with
    | none=>rw[q]at z';cases z'
    | some o=>rw[q]at z';exact congrArg some z'
   obtain⟨hfree,hcell,hsome⟩:=S.vis y (List.mem_of_getElem? hy)
   obtain⟨m,hn,hl⟩:=I.loc
   obtain⟨u,ru,look⟩:=hl j y v hN hv (.inr (.inl hcell))
   refine⟨u,ru,.inr ⟨.inl (Cu I.ok.kind hfree hcell),?_⟩⟩
   obtain⟨c',hc'⟩:=Option.isSome_iff_exists.mp hsome
   rcases look with⟨k,_⟩ | ⟨_,c,ec,z⟩
   ·have k':X.env.scope.names.lookup y=some .local:=k
    rw[hcell]at k';cases k'
   ·have e:=S.cell_of hc'
    rw[ec]at e
    cases e
    exact⟨_,hc',by obtain⟨o,ho,hd⟩:=z;exact⟨o,hk _ _ ho,hd⟩⟩
 ·obtain⟨v,o,ho,hd⟩:=I.cell y c (S.cell_of h)
  exact⟨v,o,hk _ _ ho,hd⟩
 ·have hp':p∈X.pn++pins:=by simpa [B5]using hp
  obtain⟨e,n,ne,nf,d⟩:=I.pin p hp'
  refine⟨hk _ _ e,n,Nat.ne_of_lt (Heap.lt_size e),fun z=>?_,d⟩
  rcases List.mem_cons.mp (I.stkSub p.1 z)with q | q
  ·exact ne q
  ·exact nf q
 ·show(none::Kj js σ).length=(x::fv).length
  have:fv.length=js.length:=Paired.length S.sl
  simp[Kj,this]
theorem K0 {pins pins':List (Addr×Obj)}{σ σ':St}{H H':Hp}{s s':Shared}{h'':Heap}{ex:List Addr}{N:List Str}{pn:List (Addr×Obj)}(I:Ap X pins σ H s)(hf:∀ b∈ex,FI X pins H b)
 (J:Ap (B5 X scope cl s.heap.objs.size N s H ex pn) pins' σ' H' s') (sb:Heap.SameBut s.heap.objs.size s'.heap h''):Ap X pins σ H' { s' with heap:=h'' }:=by
 have neC:∀ b o,s.heap.get? b=some o→b≠s.heap.objs.size:=fun b o e=>Nat.ne_of_lt (Heap.lt_size e)
 have u:Un (Dy X.stack) ex H H' s.heap s'.heap:=J.base
 have fr:H' s.heap.objs.size=none:=J.free
 refine I.call' (s':={ s' with heap:=h'' }) (ch:=ex) J.os ⟨fun b o e n hb hx=>?_,fun b o e n hb hx=>?_,u.free,fun b o e hx=>?_,u.tups,u.frzs,u.tbls⟩ (fun b o e=>?_) J.bare (fun b hb=>?_)
 ·exact(sb.2 b (neC b o e)).trans (u.keep b o e n hb hx)
 ·obtain⟨sl,q⟩:=u.slot b o e n hb hx
  exact⟨sl,(sb.2 b (neC b o e)).trans q⟩
 ·obtain⟨o',q⟩:=u.there b o e hx
  exact⟨o',(sb.2 b (neC b o e)).trans q⟩
 ·refine(J.hok b o e).stay (fun c v hc q=>(sb.2 c ?_).trans q) (fun _ q=>q) fun _ _ q=>q
  rcases hc with rfl | hc
  ·intro z;rw[z,fr]at e;cases e
  ·intro z;rw[z,fr]at hc;cases hc
 ·obtain⟨f0,f1,f2,f3,f4,f5⟩:=hf b hb
  exact⟨f3,f1,f4,f5⟩
end
def PF (X:Cx)(ifs:List Expr)(t:TT):Prop:=
 ∀(pins:List (Addr×Obj)) (s:Shared) (σ:St) (H:Hp) (Q:Bool→Hp→Prop),Ap X pins σ H s→t σ H Q→
  wpAny (model X.prog X.w) X.A (forIn ifs true fun c r=>if r=true then do let ok ← isTrue c X.env (eval c X.env);pure (ForInStep.yield ok)else pure (ForInStep.yield r)) (TP X pins σ Q) X.xe s
def Ts:TT:=fun _ H Q=>Q true H
theorem CO {X:Cx}:PF X [] Ts:=by
 intro pins s σ H Q I h
 rw[List.forIn_nil]
 exact wpAny_pure ⟨H,I,h⟩
theorem Tt {X:Cx}{c:Expr}{t:TT}(h:PT X c t):PF X [c] t:=by
 intro pins s σ H Q I hq
 rw[List.forIn_cons]
 refine wpAny_bind ?_
 rw[if_pos rfl]
 refine wpAny_bind (Bq (h pins s σ H Q I hq) fun b s1 q=>wpAny_pure ?_)
 dsimp only
 rw[List.forIn_nil]
 exact wpAny_pure q
section
variable {prog:Program}{w:World}{A:Around}{R:Result→Shared→Prop}{s:Shared}
theorem K1 {elt target iter:Expr}{ifs:List Expr}{scope:Scope}{pos:Pos}{it acc:Value}{env:Env}(I:Nat→Shared→Prop)
 (turn:∀ n s,I n s→wpAny (model prog w) A (pyNext it) (fun r s₁=>match r with
  | none=>R (.ok .next) s₁
  | some v=>wpAny (model prog w) A (letOwnedTupleGo target it v) (fun _ s₁'=>wpAny (model prog w) A (assign target env v) (fun _ s₂=>
   wpAny (model prog w) A (forIn ifs true fun c r=>if r=true then do let ok ← isTrue c env (eval c env);pure (ForInStep.yield ok)else pure (ForInStep.yield r)) (fun ok s₃=>
    if ok=true then wpAny (model prog w) A (eval elt env) (fun x s₄=>
     wpAny (model prog w) A (call (.builtin "list.append") [acc,x]) (fun _ s₅=>∃ m,m<n∧I m s₅) (fun _ _=>False) s₄) (fun _ _=>False) s₃
    else ∃ m,m<n∧I m s₃) (fun _ _=>False) s₂) (fun _ _=>False) s₁') (fun _ _=>False) s₁) (fun _ _=>False) s)
 (n:Nat) (h:I n s):
 codeAny (model prog w) A (.compLoop (.ListComp elt [⟨target,iter,ifs,0⟩] scope pos) 0 it acc env) R s:=by
 refine codeAny_loop rfl I (fun n s hI=>?_) n h
 show wpAny _ A ((compTurn (.ListComp elt [⟨target,iter,ifs,0⟩] scope pos) 0 it acc env).onRaise (fun x=>do noteFrame x env;theTreesLotGoes x)) _ _ s
 refine wpAny_noted ?_
 rw[compTurn_list]
 refine wpAny_bind (wpAny_standAt (wpAny_bind (wpAny_mono (turn n s hI) (fun r s₁ h₁=>?_) fun _ _ h'=>h'.elim)))
 cases r with
 | none=>exact wpAny_pure h₁
 | some v=>
  refine wpAny_bind (wpAny_mono h₁ (fun _ s₁' h₁'=>?_) fun _ _ h'=>h'.elim)
  refine wpAny_bind (wpAny_mono h₁' (fun _ s₂ h₂=>wpAny_bind (wpAny_mono h₂ (fun ok s₃ h₃=>?_) fun _ _ h'=>h'.elim)) fun _ _ h'=>h'.elim)
  cases ok with
  | false=>exact wpAny_pure ⟨rfl,h₃⟩
  | true=>
   exact wpAny_bind (wpAny_bind (wpAny_mono h₃ (fun x s₄ h₄=>wpAny_bind (wpAny_mono h₄ (fun _ s₅ h₅=>wpAny_pure (wpAny_pure ⟨rfl,h₅⟩)) fun _ _ h'=>h'.elim)) fun _ _ h'=>h'.elim))
end
def Pa (wi:TI)(js:List Nat)(tt:TT)(te:TE):TE:=fun σ H Q=>wi σ H fun J H1=>∀ D,H1 D=none→∃ W:Nat→Nat→Hp→Prop,(∃ m,W 0 m (upd H1 D (.lst [])))∧∀ i m H,W i m H→
 (J.stop i H∧Q (.ref D) H)∨(J.go i H∧∀ x H',J.yld i H x H'→tt (some x::Kj js σ) H' fun b H2=>
  if b=true then te (some x::Kj js σ) H2 fun v H3=>∃ xs,H3 D=some (.lst xs)∧xs.length<sizeLine∧∃ m',m'<m∧W (i+1) m' (upd H3 D (.lst (xs++[v])))
  else ∃ m',m'<m∧W (i+1) m' H2)
section
variable {P:Program}{w:World}{H:Hp}{h:Heap}{a:Addr}{o:HO}
theorem BI.there (x:BI P w H h a o):∃ ob,h.get? a=some ob:=by
 cases o with
 | lst xs=>obtain⟨_,_,_,_,e⟩:=x;exact⟨_,e⟩
 | tup xs=>obtain⟨_,_,_,ob,e,_⟩:=x;exact⟨_,e⟩
 | dK kvs=>obtain⟨_,_,_,_,o,_,_,e,_⟩:=x;exact⟨_,e⟩
 | dT kvs=>obtain⟨_,_,_,_,o,_,_,e,_⟩:=x;exact⟨_,e⟩
 | set S n=>obtain⟨o,_,_,_,e,_⟩:=x;exact⟨_,e⟩
 | ins C dx fs=>obtain⟨_,_,_,e,_⟩:=x;exact⟨_,e⟩
 | own y=>exact x
 | xd fs=>obtain⟨_,⟨_,_,_,e,_⟩,_⟩:=x;exact⟨_,e⟩
 | rng lo hi=>obtain⟨_,_,_,e⟩:=x;exact⟨_,e⟩
 | frz ob u=>obtain⟨e,_⟩:=x;exact⟨_,e⟩
 | tbl ps=>exact⟨_,(show h.get? a=some _ from x)⟩
 | met f y=>exact⟨_,(show h.get? a=some _ from x)⟩
 | ext φ=>obtain⟨_,e,_⟩:=x;exact e
end
structure Fd (P:Program)(w:World)(l:List Env)(H H':Hp)(h h' B:Heap):Prop where
 inB:∀ b o,h.get? b=some o→b∉Dy l→∃ o1,B.get? b=some o1∧(H b=none→o1=o)
 trk:∀ b u,H' b=some u→∃ o,B.get? b=some o
 st:B.StaysIn h'
 fr:∀ b∈Dy l,H b=none∧∃ o,h.get? b=some o∧∀ vs,o.data≠.fields vs
 slot:∀ b o,h.get? b=some o→b∈Dy l→∃ sl,h'.get? b=some { o with slots:=sl }
 free:∀ b o,h.get? b=some o→H b=none→H' b=none
 tups:∀ b xs,H b=some (.tup xs)→H' b=some (.tup xs)
 frzs:∀ b o u,H b=some (.frz o u)→H' b=some (.frz o u)
 tbls:∀ b ps,H b=some (.tbl ps)→∃ more,H' b=some (.tbl (ps++more))
 hok:FH P w H' h'
section
variable {P:Program}{w:World}{l:List Env}{H H':Hp}{h h' h'' B:Heap}
theorem Fd.step (F:Fd P w l H H' h h' B)(st:B.StaysIn h'')(up:h'.UpToSlots h''):Fd P w l H H' h h'' B:=by
 refine⟨F.inB,F.trk,st,F.fr,fun b o e hb=>?_,F.free,F.tups,F.frzs,F.tbls,fun b u e=>?_⟩
 ·obtain⟨sl,e1⟩:=F.slot b o e hb
  obtain⟨_,o',e',nd⟩:=F.fr b hb
  rw[e]at e'
  cases e'
  obtain⟨sl2,e2⟩:=up b _ e1 nd
  exact⟨sl2,e2⟩
 ·refine(F.hok b u e).stay (fun c v hc q=>?_) (fun _ q=>q) fun _ _ q=>q
  obtain⟨u',hu'⟩:∃ u',H' c=some u':=by
   rcases hc with z | z
   ·rw[z];exact⟨u,e⟩
   ·exact⟨_,z⟩
  obtain⟨o2,e2⟩:=F.trk c u' hu'
  have e3:=F.st c o2 e2
  rw[q]at e3
  cases e3
  exact st c _ e2
theorem Fd.un (F:Fd P w l H H' h h' B):Un (Dy l) [] H H' h h' where
 keep:=fun b o e n hb _=>by
  obtain⟨o1,e1,z⟩:=F.inB b o e hb
  rw[z n]at e1
  exact F.st b o e1
 slot:=fun b o e _ hb _=>F.slot b o e hb
 free:=fun b o e n _=>F.free b o e n
 there:=fun b o e _=>by
  by_cases hb:b∈Dy l
  ·obtain⟨sl,e1⟩:=F.slot b o e hb
   exact⟨_,e1⟩
  ·obtain⟨o1,e1,_⟩:=F.inB b o e hb
   exact⟨o1,F.st b o1 e1⟩
 tups:=F.tups
 frzs:=F.frzs
 tbls:=F.tbls
end
def NV (P:Program)(w:World):O6:=fun outer H s E e s'=>∃(a:Addr) (cls:Value) (H':Hp) (B:Heap) (a0:Value),e=.ref a∧s'.os=s.os∧AllBare s'.gens∧s.heap.get? a=none∧H' a=none∧
 Fd P w outer H H' s.heap s'.heap B∧Heap.FlyingW B outer a cls a0 s'.heap∧E cls none H'
theorem A1.toE {P:Program}{w:World}{K:PySem.W.Frag}{mg:Str→Option Value}{base:Heap}{k:Nat}{f:Addr}{fd:FuncData}{ps:List Str}{sp:Sp}(F:A1 P w K mg base Bo k f fd ps sp):A1 P w K mg base (NV P w) k f fd ps sp:=
 ⟨F.len,fun A outer s H args us vs Q E hr he hb hv hs=>codeAny_mono (F.run A outer s H args us vs Q E hr he hb hv hs) fun r s' hq=>by
  cases r with
  | error e=>exact False.elim hq
  | ok fl=>cases fl <;> exact hq⟩
section
variable {P:Program}{w:World}{K:PySem.W.Frag}{mg:Str→Option Value}{base:Heap}
theorem Fun.okE {x qual:Str}{st:Stmt}{f:Addr}{fd:FuncData}{N ps:List Str}{k:Nat}{sp:Sp}(F:Fun K x qual st f fd)(S:AZ N ps (AO st))(len:∀ vs H Q E,sp vs H Q E→vs.length=ps.length)
 (hbody:∀(cdv:Value) (A:Around) (outer:List Env) (s:Shared) (H:Hp) (vs:List V) (Q:VK) (E:XK),Bx k (A.deeper (envOfC qual (AO st) s.heap.objs.size f cdv))→sp vs H Q E→
  ∃ t,Jv (Do (NV P w) P w K mg base N qual (AO st) f cdv A outer s H E) (B8 st) t∧t { nx:=fun _ H'=>Q .non H',rt:=Q } (EW N vs) H):A1 P w K mg base (NV P w) (k+1) f fd ps sp:=by
 obtain⟨oc,od,kV,doc,pm,an,cdv,ct,osl,rfl,lk,hcd⟩:=F.ex
 exact PP lk hcd S len fun A outer s H vs Q E hr hsp=>hbody cdv A outer s H vs Q E hr hsp
end
section
variable {P:Program}{w:World}{K:PySem.W.Frag}{mg:Str→Option Value}{base:Heap}{N:List Str}{qual:Str}{scope:Scope}{f:Addr}{cd:Value}{A:Around}{outer:List Env}{s:Shared}{H:Hp}{E:XK}
theorem K2 {env:Env}{L:Addr}{l:List Env}(h:env.frame=some L):Dy (env::l)=L::Dy l:=by
 unfold Dy;rw[List.filterMap_cons,h]
theorem K3 {E':XK}(hE:∀ c d H',E' c d H'→E c d H'):J0 (NV P w) (Do (NV P w) P w K mg base N qual scope f cd A outer s H E) E':=by
 intro pins σ H1 s1 e s' I hx
 obtain⟨a,cls,H',B,a0,rfl,os,bare,new,na,F,fly,q⟩:=hx
 show wpAny (model P w) (A.deeper (envOfC qual scope s.heap.objs.size f cd)) (leaving (envOfC qual scope s.heap.objs.size f cd) (.ref a)) _ _ s'
 have hfr:(A.deeper (envOfC qual scope s.heap.objs.size f cd)).frames=some (envOfC qual scope s.heap.objs.size f cd::outer):=I.ok.frames
 have hL:Dy (envOfC qual scope s.heap.objs.size f cd::outer)=s.heap.objs.size::Dy outer:=K2 rfl
 refine wpAny_leaves_onW hfr rfl fly fun h'' fly2 up=>?_
 have F2:=F.step fly2.1 up
 have nb:∀ b o,s.heap.get? b=some o→b≠s.heap.objs.size:=fun b o e=>Nat.ne_of_lt (Heap.lt_size e)
 refine⟨a,cls,H',B,a0,rfl,os.trans I.os,bare,?_,na,?_,fly2,hE _ _ _ q⟩
 ·cases z:s.heap.get? a with
  | none=>rfl
  | some o=>
   obtain⟨o',e'⟩:=I.base.there a o z (show a∉[]by simp)
   rw[new]at e';cases e'
 ·have hex:∀ b:Addr,b∉(Do (NV P w) P w K mg base N qual scope f cd A outer s H E).ex:=fun b z=>absurd (show b∈([]:List Addr)from z) (by simp)
  refine⟨fun b o e hb=>?_,F2.trk,F2.st,fun b hb=>?_,fun b o e hb=>?_,fun b o e n=>?_,fun b xs e=>F2.tups b xs (I.base.tups b xs e),fun b o u e=>F2.frzs b o u (I.base.frzs b o u e),fun b ps e=>?_,F2.hok⟩
  ·obtain⟨o1,e1⟩:=I.base.there b o e (hex b)
   have nin:b∉Dy (envOfC qual scope s.heap.objs.size f cd::outer):=by
    rw[hL];intro z
    rcases List.mem_cons.mp z with z | z
    ·exact nb b o e z
    ·exact hb z
   obtain⟨o2,e2,z2⟩:=F2.inB b o1 e1 nin
   refine⟨o2,e2,fun n=>?_⟩
   have k1:=I.base.keep b o e n hb (hex b)
   have k2:=I.base.free b o e n (hex b)
   rw[e1]at k1
   cases k1
   exact z2 k2
  ·obtain⟨_,o,ho,hd⟩:=I.ok.funs.mem hb
   exact⟨I.ok.frf b hb,o,ho,hd⟩
  ·obtain⟨sl,e1⟩:=I.base.slot b o e (I.ok.frf b hb) hb (hex b)
   obtain⟨sl2,e2⟩:=F2.slot b _ e1 (by show b∈Dy (envOfC qual scope s.heap.objs.size f cd::outer);rw[hL];exact List.mem_cons_of_mem _ hb)
   exact⟨sl2,e2⟩
  ·obtain⟨o1,e1⟩:=I.base.there b o e (hex b)
   exact F2.free b o1 e1 (I.base.free b o e n (hex b))
  ·obtain⟨m1,e1⟩:=I.base.tbls b ps e
   obtain⟨m2,e2⟩:=F2.tbls b _ e1
   exact⟨m1++m2,by rw[e2,Array.append_assoc]⟩
theorem J8 {pins:List (Addr×Obj)}{σ:St}{H2:Hp}{s2:Shared}{h':Heap}{e0 C:Addr}{vs:List Value}(I:Ap (Do (NV P w) P w K mg base N qual scope f cd A outer s H E) pins σ H2 s2)
 (hm:Heap.MadeExcOf s2.heap h' e0 (.ref C) vs) (q:E (.ref C) none H2):(Do (NV P w) P w K mg base N qual scope f cd A outer s H E).xe (.ref e0) { s2 with heap:=h' }:=by
 show wpAny (model P w) (A.deeper (envOfC qual scope s.heap.objs.size f cd)) (leaving (envOfC qual scope s.heap.objs.size f cd) (.ref e0)) _ _ { s2 with heap:=h' }
 have hfr:(A.deeper (envOfC qual scope s.heap.objs.size f cd)).frames=some (envOfC qual scope s.heap.objs.size f cd::outer):=I.ok.frames
 have hL:Dy (envOfC qual scope s.heap.objs.size f cd::outer)=s.heap.objs.size::Dy outer:=K2 rfl
 have hstk:s2.heap.FunFrames base (envOfC qual scope s.heap.objs.size f cd::outer):=I.stack
 have hfree:∀ b∈Dy (envOfC qual scope s.heap.objs.size f cd::outer),H2 b=none:=I.stkFree
 have hex:∀ b:Addr,b∉(Do (NV P w) P w K mg base N qual scope f cd A outer s H E).ex:=fun b z=>absurd (show b∈([]:List Addr)from z) (by simp)
 have nb:∀ b o,s.heap.get? b=some o→b≠s.heap.objs.size:=fun b o e=>Nat.ne_of_lt (Heap.lt_size e)
 have inB:∀ b o,s2.heap.get? b=some o→b∉Dy (envOfC qual scope s.heap.objs.size f cd::outer)→(PySem.W.hideAll s2.heap (Dy (envOfC qual scope s.heap.objs.size f cd::outer))).get? b=some o:=fun b o e hb=>PySem.W.hideAll_get _ e hb
 refine wpAny_leaves_madeW (base:=PySem.W.hideAll s2.heap (Dy (envOfC qual scope s.heap.objs.size f cd::outer))) hfr rfl (fun b o z=>PySem.W.of_hideAll _ z)
  (PySem.W.funFrames_hide hstk fun env he a ha=>List.mem_filterMap.mpr ⟨env,he,ha⟩) hm fun h'' t fly _ _ up=>?_
 have trk:∀ b u,H2 b=some u→∃ o,s2.heap.get? b=some o∧(PySem.W.hideAll s2.heap (Dy (envOfC qual scope s.heap.objs.size f cd::outer))).get? b=some o:=fun b u e=>by
  obtain⟨o,eo⟩:=(I.hok b u e).there
  exact⟨o,eo,inB b o eo fun z=>by rw[hfree b z]at e;cases e⟩
 refine⟨e0,.ref C,H2,_,.ref t,rfl,I.os,I.bare,?_,?_,?_,fly,q⟩
 ·cases z:s.heap.get? e0 with
  | none=>rfl
  | some o=>
   obtain⟨o',e'⟩:=I.base.there e0 o z (hex e0)
   rw[hm.new]at e';cases e'
 ·cases z:H2 e0 with
  | none=>rfl
  | some u=>
   obtain⟨o,eo,_⟩:=trk e0 u z
   rw[hm.new]at eo;cases eo
 ·refine⟨fun b o e hb=>?_,fun b u e=>let ⟨o,_,z⟩:=trk b u e;⟨o,z⟩,fly.1,fun b hb=>?_,fun b o e hb=>?_,fun b o e n=>I.base.free b o e n (hex b),I.base.tups,I.base.frzs,I.base.tbls,fun b u e=>?_⟩
  ·obtain⟨o1,e1⟩:=I.base.there b o e (hex b)
   refine⟨o1,inB b o1 e1 (by
    rw[hL];intro z
    rcases List.mem_cons.mp z with z | z
    ·exact nb b o e z
    ·exact hb z),fun n=>?_⟩
   have k1:=I.base.keep b o e n hb (hex b)
   rw[e1]at k1
   exact Option.some.inj k1
  ·obtain⟨_,o,ho,hd⟩:=I.ok.funs.mem hb
   exact⟨I.ok.frf b hb,o,ho,hd⟩
  ·obtain⟨_,o',ho,hd⟩:=I.ok.funs.mem hb
   have ho:s.heap.get? b=some o':=ho
   rw[e]at ho
   cases ho
   obtain⟨sl,e1⟩:=I.base.slot b o e (I.ok.frf b hb) hb (hex b)
   obtain⟨sl2,e2⟩:=up b _ (hm.keeps _ _ e1) hd
   exact⟨sl2,e2⟩
  ·refine(I.hok b u e).stay (fun c v hc q=>?_) (fun _ q=>q) fun _ _ q=>q
   obtain⟨u',hu'⟩:∃ u',H2 c=some u':=by
    rcases hc with z | z
    ·rw[z];exact⟨u,e⟩
    ·exact⟨_,z⟩
   obtain⟨o2,e2,e3⟩:=trk c u' hu'
   rw[q]at e2
   cases e2
   exact fly.1 c _ e3
structure Tu (K:PySem.W.Frag)(x:Str)(C:Addr):Prop where
 ns:PySem.W.nsIn K mainGlobals x=some (some (.ref C))
 ex:PySem.W.excIn K C [.type "ValueError",.type "Exception",.type "BaseException",.type "object"] "ValueError.__new__"=true
theorem MZ {x:Str}{C:Addr}(M:Mod K mg base)(c:Tu K x C):OwnCls x C [.type "ValueError",.type "Exception",.type "BaseException",.type "object"] "ValueError.__new__" mg base:=by
 have X:=M.kin
 refine⟨PySem.W.mg_of X M.glob c.ns,?_⟩
 have q:=c.ex
 unfold PySem.W.excIn at q
 split at q
 ·rename_i dd cd sl ho
  split at q
  ·rename_i C' bm k0 k1 k2 k3 n k5 hm hs
   simp only[Bool.and_eq_true,beq_iff_eq,Bool.not_eq_true']at q
   obtain⟨⟨⟨⟨⟨rfl,rfl⟩,hdel⟩,ht⟩,hok⟩,hni⟩:=q
   obtain⟨nm,bs,mro,ns,qn,hd,sn,sub,ab,col,Jj⟩:=cd
   dsimp only at hm hdel hok hni
   subst hm hdel
   have hsl:sl=#[k0,k1,k2,k3,some (.builtin "ValueError.__new__"),k5]:=by
    obtain⟨l⟩:=sl
    simp only at hs
    rw[hs]
   subst hsl
   exact⟨bm,ns,nm,qn,bs,hd,sn,sub,ab,col,dd,k0,k1,k2,k3,k5,_,X _ _ ho,.of_isNs (PySem.W.isNs_of_in X hok),PySem.W.nsMap_none_of_in X hok hni,PySem.W.tail_of_in X ht⟩
  ·cases q
 ·cases q
def Tv (C:Addr)(E:XK)(te:TE):TS:=fun _ σ H=>te σ H fun _ H1=>E (.ref C) none H1
theorem Ee {x:Str}{C:Addr}{e:Expr}{te:TE}{np cpos pos:Pos}(c:Tu K x C)(hd:A.handled=none)(he:PE (Do (NV P w) P w K mg base N qual scope f cd A outer s H E) e te)
 (hg:Gl (Do (NV P w) P w K mg base N qual scope f cd A outer s H E) x:=by rfl) (hdb:(x==("__debug__":Str))=false:=by decide)
 (hst:starEach [e] (envOfC qual scope s.heap.objs.size f cd)=[(false,eval e (envOfC qual scope s.heap.objs.size f cd))]:=by rfl):
 PS (Do (NV P w) P w K mg base N qual scope f cd A outer s H E) (.Raise (some (.Call (.Name x np) [e] [] cpos)) none pos) (Tv C E te):=by
 intro pins s1 σ H1 D I h
 have O:=MZ I.ok.mod c
 obtain⟨tl,Nm,nm,q,bs,hdct,sn,sub,ab,col,dd,k0,k1,k2,k3,k5,mN,hC,hN,hni,T⟩:=O.obj
 show wpAny (model P w) (A.deeper (envOfC qual scope s.heap.objs.size f cd)) (exec _ (envOfC qual scope s.heap.objs.size f cd)) _ _ s1
 refine wpAny_Raise_call_subT (C:=C) (nm:=nm) (q:=q) (N:=Nm) (bs:=bs) (bm:=tl) (hdct:=hdct) (sn:=sn) (sub:=sub) (ab:=ab) (col:=col) (dd:=dd) (k0:=k0) (k1:=k1) (k2:=k2) (k3:=k3) (k5:=k5)
  F.excBase_ValueError (mN:=mN) (T.hasType F.excBase_ValueError.hasBase) hd (by rw[hst];rfl) hni (DQ I hg O.bound ⟨rfl,?_⟩ hdb)
 rw[hst]
 refine Calls.evalArgs_plain ?_
 show wpAny _ _ (spliced ((false,eval e (envOfC qual scope s.heap.objs.size f cd))::backTo cpos [])) _ _ s1
 refine Calls.spliced_cons (Bq (he pins s1 σ H1 _ I h) fun u s2 ⟨x2,H2,I2,r2,q2⟩=>Calls.spliced_nil ?_)
 refine⟨rfl,(by show 1≤sizeLine;decide),I2.bk _ _ hC,hN.keeps I2.bk,T.keeps I2.bk,fun h' e0 hm=>?_⟩
 exact J8 I2 hm q2
end
def IE (X:Cx)(a:Addr):Cx:={ X with A:=X.A.mark (some (.ref a)),calm:=false,xe:=fun _ _=>False }
def IF (a:Addr)(cls:Value)(h:Heap):Prop:=∃ o vs,h.get? a=some o∧o.cls=cls∧o.data=.fields vs
def J9 (a:Addr)(cls:Value):HO:=.ext (IF a cls)
section
variable {X:Cx}{pins:List (Addr×Obj)}{σ:St}{H:Hp}{s:Shared}{a:Addr}
theorem Cx.Ok.mark (ok:X.Ok)(a:Addr):(IE X a).Ok:=
 ⟨ok.mod,ok.kind,ok.glob,ok.blt,ok.above,ok.inj,ok.has,ok.cab,fun z=>absurd (show false=true from z) Bool.false_ne_true,ok.frames,ok.stk,ok.exf,ok.bs,ok.bsz,ok.noex,ok.exfs,ok.funs,ok.frf⟩
theorem Ap.mark (I:Ap X pins σ H s)(a:Addr):Ap (IE X a) pins σ H s:=⟨I.ok.mark a,I.os,I.bare,I.base,I.loc,I.cell,I.free,I.freeC,I.pin,I.hok,I.len⟩
theorem Ap.unmark (I:Ap (IE X a) pins σ H s)(ok:X.Ok):Ap X pins σ H s:=⟨ok,I.os,I.bare,I.base,I.loc,I.cell,I.free,I.freeC,I.pin,I.hok,I.len⟩
theorem IG {H1 H':Hp}{s1 s':Shared}{cls:Value}{B:Heap}(I:Ap X pins σ H1 s1)(F:Fd X.prog X.w X.stack H1 H' s1.heap s'.heap B)(na:H' a=none)(new:s1.heap.get? a=none)
 (ho:IF a cls s'.heap) (os:s'.os=s1.os) (bare:AllBare s'.gens):Ap X pins σ (upd H' a (J9 a cls)) s':=by
 have u:=F.un
 have nea:∀ b o,s1.heap.get? b=some o→b≠a:=fun b o e z=>by rw[z,new]at e;cases e
 have neT:∀ b u,H' b=some u→b≠a:=fun b u e=>Am e na
 refine I.call' (ch:=[]) os ⟨u.keep,u.slot,fun b o e n hx=>by rw[Ab (nea b o e)];exact u.free b o e n hx,u.there,fun b xs e=>?_,fun b o v e=>?_,fun b ps e=>?_⟩ (fun b v e=>?_) bare (fun b z=>absurd z (by simp))
 ·have z:=u.tups b xs e
  rw[Ab (neT _ _ z)];exact z
 ·have z:=u.frzs b o v e
  rw[Ab (neT _ _ z)];exact z
 ·obtain⟨m,z⟩:=u.tbls b ps e
  exact⟨m,by rw[Ab (neT _ _ z)];exact z⟩
 ·by_cases hb:b=a
  ·subst hb
   rw[AE]at e
   cases e
   obtain⟨o,vs,h1,h2,h3⟩:=id ho
   exact⟨ho,⟨o,h1⟩,fun g1 g2 ⟨o',vs',p1,p2,p3⟩ k=>⟨o',vs',k o' p1,p2,p3⟩⟩
  ·rw[Ab hb]at e
   exact(F.hok b v e).stay (fun _ _ _ q=>q) (fun c q=>by rw[Ab (neT _ _ q)];exact q) fun c xs q=>by rw[Ab (neT _ _ q)];exact q
theorem OS {M:Model}{A:Around}{E:Value→Shared→Prop}{i:Nat}{n:Str}{pos:Pos}{Q:Unit→Shared→Prop}(I:Ap X pins σ H s)(hN:X.N.Nodup)(hi:X.N[i]?=some n)(hl:X.env.scope.names.lookup n=some .local)
 (h:∀ s',Ap X pins (σ.set i none) H s'→Q () s'):wpAny M A (do bindName X.env n .none;unbindBehindTheSuite X.env n pos) Q E s:=by
 obtain⟨m,hn,hlk⟩:=id I.loc
 have hcls:(X.env.scope.kind==.class||(X.env.scope.kind==.module&&X.env.locals != X.env.globals))=false:=by rw[I.ok.kind];rfl
 obtain⟨oL,_,_,hoL,_⟩:=id hn
 refine wpAny_nameGoes_keeps hl hn hcls fun h' v hn' hs=>h { s with heap:=h',toks:=s.toks+1 } ?_
 have cne:=I.cne
 have hiσ:i<σ.length:=by rw[I.len];exact(List.getElem?_eq_some_iff.mp hi).1
 refine⟨I.ok,I.os,I.bare,⟨fun b o e n hb hx=>?_,fun b o e n hb hx=>?_,I.base.free,fun b o e hx=>?_,I.base.tups,I.base.frzs,I.base.tbls⟩,⟨_,hn',fun j y v' e1 e2 e3=>?_⟩,fun y c e=>?_,I.free,I.freeC,fun p hp=>?_,fun b ob e=>?_,by simpa using I.len⟩
 ·exact(hs.2 b (Nat.ne_of_lt (Nat.lt_of_lt_of_le (Heap.lt_size e) I.ok.above))).trans (I.base.keep b o e n hb hx)
 ·obtain⟨sl,e1⟩:=I.base.slot b o e n hb hx
  exact⟨sl,(hs.2 b (Nat.ne_of_lt (Nat.lt_of_lt_of_le (Heap.lt_size e) I.ok.above))).trans e1⟩
 ·obtain⟨o',e1⟩:=I.base.there b o e hx
  exact⟨o',(hs.2 b (Nat.ne_of_lt (Nat.lt_of_lt_of_le (Heap.lt_size e) I.ok.above))).trans e1⟩
 ·by_cases hj:j=i
  ·subst hj
   rw[List.getElem?_set_self hiσ]at e2
   cases e2
  ·rw[List.getElem?_set_ne (Ne.symm hj)]at e2
   obtain⟨u',r',q⟩:=hlk j y v' e1 e2 e3
   refine⟨u',r',?_⟩
   rcases q with⟨k,e⟩ | ⟨k,c,e,z⟩
   ·refine .inl ⟨k,?_⟩
    have:y≠n:=fun e=>hj (Ho hN e1 (e▸hi))
    simp[this,e]
   ·exact .inr ⟨k,c,e,z.sameBut hs (cne y c e)⟩
 ·obtain⟨w',z⟩:=I.cell y c e
  exact⟨w',z.sameBut hs (cne y c e)⟩
 ·obtain⟨e,n,ne,nf,d⟩:=I.pin p hp
  exact⟨(hs.2 p.1 ne).trans e,n,ne,nf,d⟩
 ·refine(I.hok b ob e).stay (fun c w' hc q=>(hs.2 c ?_).trans q) (fun _ q=>q) fun _ _ q=>q
  rintro rfl
  rcases hc with hc | hc
  ·rw[← hc,I.free]at e;cases e
  ·rw[I.free]at hc;cases hc
end
theorem VY {X:Cx}{es:List Expr}{t:TA}(ha:∀ E,PA (X.wish E) es t){E:Value→Shared→Prop}{pins:List (Addr×Obj)}{s:Shared}{σ:St}{H:Hp}{Q:List V→Hp→Prop}{pos:Pos}(I:Ap X pins σ H s)(h:t σ H Q):
 wpAny (model X.prog X.w) X.A (spliced (backTo pos (starEach es X.env))) (fun us s'=>∃ vs H',Ap X pins σ H' s'∧A3 vs us∧Q vs H') E s:=
 wpAny_mono (ha E pos pins s σ H Q (I.wish E) h) (fun _ _ ⟨vs,H',I',r,q⟩=>⟨vs,H',I'.unwish,r,q⟩) fun _ _ x=>x
def VZ (K:PySem.W.Frag)(sp:Sp)(t:TA)(Dc:Addr)(i:Nat)(ts:TS):TS:=fun D σ H=>t σ H fun vs H1=>sp (vs++[]) H1 (fun _ H2=>D.nx σ H2) fun cls _ H2=>
 PySem.W.exmOne K cls (.ref Dc)=some true∧∀ a,H2 a=none→ts { nx:=fun σ' H'=>D.nx (σ'.set i none) H',rt:=fun _ _=>False } (σ.set i (some (.ref a))) (upd H2 a (J9 a cls))
theorem RX {X:Cx}{k:Nat}{f Dc:Addr}{fd:FuncData}{ps:List Str}{sp:Sp}{x cx n:Str}{i:Nat}{e:Expr}{es:List Expr}{t:TA}{b₀:Stmt}{suite:List Stmt}{ts:TS}{p cpos epos cp hpos tpos:Pos}
 (F:A1 X.prog X.w X.K X.mg X.base (NV X.prog X.w) k f fd ps sp) (hr:Bx k X.A) (hm:X.mg x=some (.ref f)) (hk:PySem.W.keepIn X.K (.ref f)=true) (hb:IA X.K fd ps [])
 (ha:∀ E,PA (X.wish E) (e::es) t) (hmc:X.mg cx=some (.ref Dc)) (hstk:X.stack=X.env::X.outer) (hfm:X.env.frame=some X.env.locals) (hN:X.N.Nodup) (hi:X.N[i]?=some n) (hl:X.env.scope.names.lookup n=some .local)
 (hsuite:∀ a,Jv (IE X a) (b₀::suite) ts) (hg:Gl X x:=by rfl) (hgc:Gl X cx:=by rfl) (hdb:(x==("__debug__":Str))=false:=by decide) (hdc:(cx==("__debug__":Str))=false:=by decide)
 (he:starEach (e::es) X.env=(false,eval e X.env)::starEach es X.env:=by rfl) (hpl:(backTo cpos (starEach es X.env)).any (·.1)=false:=by rfl) (hsw:swapsWith (.Call (.Name x p) (e::es) [] cpos) none epos.line X.env=pure false:=by rfl):
 PS X (.Try [.Expr (.Call (.Name x p) (e::es) [] cpos) epos] [.ExceptHandler (some (.Name cx cp)) (some n) (b₀::suite) hpos] [] [] tpos) (VZ X.K sp t Dc i ts):=by
 intro pins s σ H D I h
 refine wpAny_Try_except ?_
 refine wpAny_execs_cons (wpAny_Expr_any (wpAny_Call_Name_kw (DQ I hg hm ?_ hdb)) I.quiet hsw)
 refine PySem.W.callWith_K (h₀:=X.base) I.ok.mod.kin hk (Bq (VY ha I h) fun us s1 ⟨vs,H1,J1,r,q⟩=>⟨J1.kIn,?_⟩) he hpl
 have r2:A3 (vs++[]) (us++[]):=r.append .nil
 have hlen:(us++[]).length=ps.length:=by rw[← r2.length];exact F.len _ _ _ _ q
 refine wpAny_call (codeAny_mono (F.run X.A X.stack s1 H1 ⟨us,[]⟩ (us++[]) (vs++[]) _ _ hr J1.env0 (hb s1 us J1.kIn hlen) r2 q) fun res s2 hq=>?_)
 cases res with
 | ok fl=>
  cases fl with
  | ret u=>
   obtain⟨v,H2,I2,_,q2⟩:=J1.after hq
   exact wpAny_execs_nil (wpAny_execs_nil ⟨σ,H2,I2,q2⟩)
  | next=>exact False.elim hq
  | brk=>exact False.elim hq
  | cont=>exact False.elim hq
 | error e2=>
  obtain⟨a,cls,H',B,a0,rfl,os,bare,new,na,FB,fly,hx,hsu⟩:=hq
  rw[hstk]at fly
  have hfr:X.A.frames=some (X.env::X.outer):=by rw[← hstk];exact I.ok.frames
  refine wpAny_looks_onW hfr hfm fly fun h₄ held₄ up₄=>?_
  refine wpAny_landsW held₄ fun h₅ fly₅ up₅=>?_
  have FB5:=FB.step fly₅.1 (up₄.trans up₅)
  have at5:IF a cls h₅:=by obtain⟨o,vs,h1,h2,h3,_⟩:=fly₅.first;exact⟨o,vs,h1,h2,h3⟩
  have I5:Ap X pins σ (upd H' a (J9 a cls)) { s2 with heap:=h₅ }:=IG J1 FB5 na new at5 os bare
  have M5:=I5.mark a
  refine wpAny_handleBy_cons (codeAny_handlers_test (DQ M5 hgc hmc ?_ hdc)) (by intro z;cases z)
  have LT:PySem.W.Looks (model X.prog X.w) h₅ (typeOf (.ref a)) cls:=by
   obtain⟨o,vs,h1,h2,h3⟩:=at5
   subst h2
   exact(PySem.W.Looks.ld h1).andThen .now
  refine(PySem.W.exm_one (M:=model X.prog X.w) I5.kIn LT hx).here ?_
  refine codeAny_handlers_suite_as ?_
  refine lands_againW fly₅ fun h₆ fly₆ up₆=>?_
  have FB6:=FB5.step fly₆.1 up₆
  have at6:IF a cls h₆:=by obtain⟨o,vs,h1,h2,h3,_⟩:=fly₆.first;exact⟨o,vs,h1,h2,h3⟩
  have I6:Ap X pins σ (upd H' a (J9 a cls)) { s2 with heap:=h₆ }:=IG J1 FB6 na new at6 os bare
  have M6:=I6.mark a
  refine Hq (X:=IE X a) M6 hN hi (.inl hl) (v:=.ref a) rfl (fun s7 M7=>?_) (.inr hl)
  refine wpAny_mono (hsuite a pins s7 _ _ _ M7 (hsu a na)) (fun fl s8 q8=>?_) fun _ _ z=>False.elim z
  cases fl with
  | next=>
   obtain⟨σ8,H8,M8,q8⟩:=q8
   exact OS (M8.unmark I.ok) hN hi hl fun s9 I9=>⟨_,H8,I9,q8⟩
  | ret v=>obtain⟨_,_,_,_,_,z⟩:=q8;exact False.elim z
  | brk=>obtain⟨_,_,_,z⟩:=q8;exact False.elim z
  | cont=>obtain⟨_,_,_,z⟩:=q8;exact False.elim z
section
open Builtin Builtin.ObjectAttr Builtin.Getset_descriptor
variable {prog:Program}{w:World}{A:Around}{E:Value→Shared→Prop}{s:Shared}{K:PySem.W.Frag}{a C:Addr}{o:Obj}
structure RY (K:PySem.W.Frag)(C:Addr):Prop where
 cl:(PySem.W.clsIn K C).isSome=true
 ga:PySem.W.findIn K (.ref C) "__getattribute__"=some (some (.builtin "BaseException.__getattribute__"))
 gh:PySem.W.findIn K (.ref C) "__getattr__"=some none
 at_:PySem.W.findIn K (.ref C) "__class__"=some (some (.builtin "object.__class__"))
 ob:PySem.W.mroIn K C (.type "object")=some true
 be:PySem.W.mroIn K C (.type "BaseException")=some true
theorem JG {R:Result→Shared→Prop}{tp:Value}{h:Heap}{g:Array GenState}{d:Drawn}{t:Nat}{os:OsState}(X:K.In h)(L0:PySem.W.Looks (model prog w) h (typeOf (.ref a)) (.ref C))(hm:PySem.W.mroIn K C (.type "object")=some true)
 (hq:R (.ok (.ret (.ref C))) ⟨h,g,d,t,os⟩):codeAny (model prog w) A (.call (.builtin "getset_descriptor.__get__") ⟨[.builtin "object.__class__",.ref a,tp],[]⟩) R ⟨h,g,d,t,os⟩:=by
 have L1:=PySem.W.looks_mroIn (M:=model prog w) X hm
 refine codeAny_call_builtin PySem.W.KF.slot_gs.plain PySem.W.KF.entry_gs (PySem.W.KF.slot_gs.check _ _ _ _ _ _ _ _ PySem.W.KF.type_class (PySem.W.KF.args_gs _ _ _) ?_)
 unfold Builtin.«getset_descriptor.__get__» descrGet
 rw[PySem.W.dga_obj]
 refine wpAny_bind (wpAny_pure ?_)
 unfold descrGetter descrCheckInstance descrNameAndClass isInstance
 simp only[PySem.W.KF.owner_class]
 repeat lk
 refine⟨Code.quiet_builtin _ (by nofun),codeAny_builtin PySem.W.KF.entry_class ?_⟩
 unfold Builtin.«object.__class__» shownTypeOf
 repeat lk
 exact hq
end
section
open Builtin Builtin.ObjectAttr Builtin.Getset_descriptor PySem.W
variable {prog:Program}{w:World}{A:Around}{E:Value→Shared→Prop}{s:Shared}{K:PySem.W.Frag}{a C:Addr}{o:Obj}
theorem OT {M:Model}{nameV:Value}{Q:Unit→Shared→Prop}{h:Heap}{g:Array GenState}{d:Drawn}{t:Nat}{os:OsState}(L0:PySem.W.Looks M h (typeOf (.ref a)) (.ref C))(L5:PySem.W.Looks M h (isSubtype (.ref C) (.type "BaseException")) true)
 (hq:Q () ⟨h,g,d,t,os⟩):wpAny M A (checkBuiltinCall "BaseException.__getattribute__" ⟨[.ref a,nameV],[]⟩) Q E ⟨h,g,d,t,os⟩:=by
 have hk:builtinKind "BaseException.__getattribute__"=some .slot:=by nofun
 have hsplit:splitId "BaseException.__getattribute__"=some ("BaseException","__getattribute__"):=by nofun
 have ha:=F.args_bexc_ga (.ref a) nameV
 simp only[checkBuiltinCall,hk,hsplit]
 refine wpAny_bind ?_
 unfold isInstance
 repeat lk
 repeat (any_goals (first | assumption | wp_step))
theorem OU {Q:Option Value→Shared→Prop}(X:K.In s.heap)(hE:IF a (.ref C) s.heap)(c:RY K C)(h:Q (some (.ref C)) { s with toks:=s.toks+1 }):wpAny (model prog w) A (getAttr? (.ref a) "__class__") Q E s:=by
 obtain⟨hh,g,d,t,os⟩:=s
 obtain⟨o,vs,ho,hc,hd⟩:=hE
 have L0:Looks (model prog w) hh (typeOf (.ref a)) (.ref C):=hc▸(Looks.ld ho).andThen .now
 have L1:=looks_findIn (M:=model prog w) X c.ga
 have L2:=looks_findIn (M:=model prog w) X c.gh
 have L3:=looks_findIn (M:=model prog w) X c.at_
 have L5:=looks_mroIn (M:=model prog w) X c.be
 have hx2:(Value.builtin "BaseException.__getattribute__"==Value.builtin "object.__getattribute__")=false:=by nofun
 have f3:=F.excAttr_ValueError.ga.bind (.ref a)
 unfold getAttr? getAttrBy? getAttrBy
 refine wpAny_bind (wpAny_mkText (wpAny_bind (wpAny_attempt (wpAny_holding (wpAny_bind (L0.at (wpAny_bind (L1.at ?_))))))))
 dsimp only
 rw[hx2,Bool.and_false,if_neg Bool.false_ne_true]
 unfold getAttrByItsOwn hookBefore
 refine wpAny_bind (L2.at ?_)
 refine wpAny_bind (wpAny_attempt (wpAny_holding ?_))
 unfold callGetattribute
 rw[if_neg (by decide)]
 unfold boundAndCalled
 refine wpAny_bind (wpAny_of_eq f3 ?_)
 show wpAny _ _ (call (.builtin "BaseException.__getattribute__") [.ref a,.str "__class__" t]) _ _ _
 refine wpAny_call (codeAny_call_builtin F.excAttr_ValueError.ga.plain F.entry_bexc_ga (OT L0 L5 ?_))
 have f5:typeOf (.builtin "object.__class__")=pure (.type "getset_descriptor"):=by kernel_rfl
 have f6:=F.slot_gs_get.lookup
 have f7:=F.slot_gs_set.lookup
 repeat (any_goals (first | assumption | with_reducible refine Looks.at (by assumption) ?_ | wp_step))
 refine JG X L0 c.ob ?_
 refine wpAny_pure ?_
 refine wpAny_of_eq (a:=Value.ref C) rfl ?_
 exact wpAny_pure h
theorem K4 (c:RY K C):KitX K (.ref a) (.ref C) (IF a (.ref C)) where
 ty:=fun M h X ⟨o,vs,ho,hc,hd⟩=>hc▸(Looks.ld ho).andThen .now
 it:=fun _ _ X _=>by
  obtain⟨cd,hcd⟩:=Option.isSome_iff_exists.mp c.cl
  unfold clsIn at hcd
  split at hcd
  ·rename_i c' d' cd' sl' ho
   intro A' Q' E' s' k q
   unfold isType loadHead
   exact wpAny_bind (wpAny_loadPart (k _ _ (X _ _ ho)) (wpAny_pure q))
  ·cases hcd
 ne:=fun h tp dd its n sl X htp=>by
  obtain⟨cd,hcd⟩:=Option.isSome_iff_exists.mp c.cl
  refine Bool.eq_false_iff.mpr fun q=>?_
  have e:C=tp:=Value.ref.inj (beq_iff_eq.mp q)
  subst e
  unfold clsIn at hcd
  split at hcd
  ·rename_i c' d' cd' sl' ho
   have z:=(X _ _ ho).symm.trans htp
   cases z
  ·cases hcd
 ca:=fun X p k=>OU X p c k
end
section
variable {X:Cx}
def Xa (K:PySem.W.Frag):List V→Hp→VK→Prop:=fun xs H Q=>∃(a C:Addr) (c:V) (b:Bool),xs=[.ref a,c]∧H a=some (J9 a (.ref C))∧RY K C∧Q (.bl b) H∧
 ((∃ u,Aw c u∧(∀ i,c≠.int i)∧(∀ i,c≠.str i)∧(∀ i,c≠.byt i)∧(∀ i,c≠.flt i)∧PySem.W.kitOne K (.ref C) u=some b)∨∃ p cs us,c=.ref p∧H p=some (.tup cs)∧A3 cs us∧(∀ vs,A3 cs vs→vs=us)∧PySem.W.kitAny K (.ref C) us=some b)
theorem ED:DD X (.builtin "isinstance") (Xa X.K):=by
 intro pins s σ H xs us Q I r h
 obtain⟨a,C,c,b,rfl,ha,ek,q,hc⟩:=h
 obtain⟨u,w',rfl,r1,r2⟩:=NS r
 cases r1
 have hE:IF a (.ref C) s.heap:=(I.hok a _ ha).1
 rcases hc with⟨u',rc,n1,n2,n3,n4,hk⟩ | ⟨p,cs,us,rfl,hp,rv,un,hk⟩
 ·have e:w'=u':=by
   cases c with
   | non=>cases rc;cases r2;rfl
   | bl _=>cases rc;cases r2;rfl
   | int i=>exact absurd rfl (n1 i)
   | str i=>exact absurd rfl (n2 i)
   | byt i=>exact absurd rfl (n3 i)
   | flt i=>exact absurd rfl (n4 i)
   | ref _=>cases rc;cases r2;rfl
   | ty _=>cases rc;cases r2;rfl
  subst e
  exact PySem.W.kia_one (K4 ek) I.kIn hE hk (fun z=>nomatch z) fun tk=>⟨.bl b,H,I.tok tk,rfl,q⟩
 ·cases r2
  obtain⟨_,its,rv',ob,ho,hcl,n,hd⟩:=I.hok p _ hp
  have e:=un its rv'
  subst e
  obtain⟨oc,od,oda,osl⟩:=ob
  dsimp only at hcl hd
  subst hcl hd
  exact PySem.W.kia_tup (K4 ek) I.kIn hE ho hk (fun z=>nomatch z) fun tk=>⟨.bl b,H,I.tok tk,rfl,q⟩
end
section
variable {X:Cx}{es:List Expr}{te:TE}{t:TA}{pos:Pos}
theorem AJ {a0:List Expr}{a1:Nat}(ha:PE X (Expr.Tuple a0 a1 pos) te)(hr:PA X es t):PA X ((Expr.Tuple a0 a1 pos)::es) (DT te t):=CN ha hr rfl
theorem Be {a0:List Expr}(ha:PE X (Expr.List a0 pos) te)(hr:PA X es t):PA X ((Expr.List a0 pos)::es) (DT te t):=CN ha hr rfl
theorem BG {a0:Expr}{a1:Operator}{a2:Expr}(ha:PE X (Expr.BinOp a0 a1 a2 pos) te)(hr:PA X es t):PA X ((Expr.BinOp a0 a1 a2 pos)::es) (DT te t):=CN ha hr rfl
theorem BP {a0:Expr}{a1:List Expr}{a2:List Keyword}(ha:PE X (Expr.Call a0 a1 a2 pos) te)(hr:PA X es t):PA X ((Expr.Call a0 a1 a2 pos)::es) (DT te t):=CN ha hr rfl
theorem AA {a0:Str}(ha:PE X (Expr.Name a0 pos) te)(hr:PA X es t):PA X ((Expr.Name a0 pos)::es) (DT te t):=CN ha hr rfl
theorem AB {a0:Const}{a1:Nat}(ha:PE X (Expr.Constant a0 a1 pos) te)(hr:PA X es t):PA X ((Expr.Constant a0 a1 pos)::es) (DT te t):=CN ha hr rfl
theorem AQ {a0:Expr}{a1:Expr}(ha:PE X (Expr.Subscript a0 a1 pos) te)(hr:PA X es t):PA X ((Expr.Subscript a0 a1 pos)::es) (DT te t):=CN ha hr rfl
theorem F7 {a0:UnaryOp}{a1:Expr}(ha:PE X (Expr.UnaryOp a0 a1 pos) te)(hr:PA X es t):PA X ((Expr.UnaryOp a0 a1 pos)::es) (DT te t):=CN ha hr rfl
theorem Ef {a0:Expr}{a1:List CmpOp}{a2:List Expr}(ha:PE X (Expr.Compare a0 a1 a2 pos) te)(hr:PA X es t):PA X ((Expr.Compare a0 a1 a2 pos)::es) (DT te t):=CN ha hr rfl
theorem K5 {a0:List (Option Expr)}{a1:List Expr}(ha:PE X (Expr.Dict a0 a1 pos) te)(hr:PA X es t):PA X ((Expr.Dict a0 a1 pos)::es) (DT te t):=CN ha hr rfl
theorem B6 {a0:Expr}{a1:List Comprehension}{a2:Scope}(ha:PE X (Expr.ListComp a0 a1 a2 pos) te)(hr:PA X es t):PA X ((Expr.ListComp a0 a1 a2 pos)::es) (DT te t):=CN ha hr rfl
end
section
variable {X:Cx}
abbrev Xb:R2:=rI VO fun i j=>.int (i ^ j.toNat)
end
def Va (z:Str):It:=⟨fun i _=>i<z.cps.size,fun i H x H'=>H'=H∧∃ c,z.cps[i]?=some c∧x=.str ⟨#[c]⟩,fun i _=>i=z.cps.size⟩
theorem K6 {P:Program}{w:World}{K:PySem.W.Frag}{tg:Expr}(it:Addr)(x:Str)(t:Tok)(ty:String)
 (hW:∀ A':Around,A'.handled=none→Walks P w A' it [it] [it] x.cps.size (SignAt x) (fun i h=>h.IsStrIter it ty x t i))
 (hn:["enumerate","zip","dict_itemiterator","dict_reverseitemiterator","odict_iterator","itertools.zip_longest","itertools.pairwise"].contains ty=false)
 (hS:∀(A:Around) (i:Nat) (s:Shared) (Q:Value→Shared→Prop) (E:Value→Shared→Prop),s.heap.IsStrIter it ty x t i→Q (.ref it) s→wpAny (model P w) A (pyIter (.ref it)) Q E s):
 PK P w K tg (Va x) [it] it (fun i h=>h.IsStrIter it ty x t i) where
 mem:=by simp
 obj:=fun i h st b hb=>by
  have e:b=it:=by simpa using hb
  subst e
  obtain⟨o,e,c,d⟩:=st
  exact⟨o,e,fun v z=>by rw[d]at z;cases z⟩
 keep:=fun i h h' st k=>let ⟨o,e,r⟩:=st;⟨o,k it (by simp) o e,r⟩
 item:=by
  intro X hP hw hK hc i pins s σ H E I hf st hg
  subst hP hw hK
  obtain⟨f0,f1,f2,f3,f4,f5⟩:=hf it (by simp)
  refine(hW X.A (I.ok.hd hc)).item i s _ _ hg st fun v h' tk hv st' kk=>?_
  obtain⟨c,u,hcu,rfl⟩:=hv
  have I1:Ap X pins σ H { s with heap:=h',toks:=tk }:=I.turned (fun b o hb e=>kk b o (by simpa using hb) e) f0 f1 f3 f4 f5
  obtain⟨o,e,cc,d⟩:=id st'
  exact⟨_,rfl,NN (s:={ s with heap:=h',toks:=tk }) e cc d hn ⟨.str ⟨#[c]⟩,H,I1,⟨u,rfl⟩,⟨rfl,c,hcu,rfl⟩,st',fun b hb=>(hf b hb).1⟩⟩
 done:=by
  intro X hP hw hK hc i pins s σ H E I hf st hg
  subst hP hw hK
  obtain⟨f0,f1,f2,f3,f4,f5⟩:=hf it (by simp)
  have hg:i=x.cps.size:=hg
  subst hg
  exact(hW X.A (I.ok.hd hc)).done s _ _ st fun h' tk kk=>⟨rfl,I.turned (fun b o hb e=>kk b o (by simpa using hb) e) f0 f1 f3 f4 f5⟩
 self:=fun A i s Q E st h=>hS A i s Q E st h
section
variable {X:Cx}{tg:Expr}
def Xc (tl:TE):TI:=fun σ H R=>tl σ H fun x H1=>∃ z,x=.str z∧R (Va z) H1
theorem Pb {l:Expr}{tl:TE}(hl:PE X l tl):PI X tg l (Xc tl):=by
 intro pins s σ H R I h
 refine Bq (hl pins s σ H _ I h) fun v s1 zq=>?_
 obtain⟨x,H1,I1,r1,q1⟩:=zq
 obtain⟨z,e,q⟩:=q1
 subst e
 obtain⟨t,rfl⟩:=r1
 have fp:∀ b∈[s1.heap.objs.size],FI X pins H1 b:=fun b hb=>by
  have e:b=s1.heap.objs.size:=by simpa using hb
  subst e
  exact I1.fpOk (Nat.le_refl _) (I1.hok.fresh (Nat.le_refl _))
 cases ha:z.cps.all (·<128)
 ·refine wpAny_pyIter_wide ha ?_
  exact⟨s1.heap.objs.size,[s1.heap.objs.size],_,_,H1,rfl,I1.kept (t':=s1.toks) fun b o e=>Heap.get?_push_of_some _ e,
   K6 _ z t "str_iterator" (fun A' hA=>Walks.strWide hA _ z t) (by decide) (fun A i s Q E st h=>wpAny_pyIter_striter_wide st h),⟨_,Heap.get?_push_size _ rfl,rfl,rfl⟩,fp,q⟩
 ·refine wpAny_pyIter_ascii ha ?_
  exact⟨s1.heap.objs.size,[s1.heap.objs.size],_,_,H1,rfl,I1.kept (t':=s1.toks) fun b o e=>Heap.get?_push_of_some _ e,
   K6 _ z t "str_ascii_iterator" (fun A' hA=>Walks.strAscii hA _ z t) (by decide) (fun A i s Q E st h=>wpAny_pyIter_striter_ascii st h),⟨_,Heap.get?_push_size _ rfl,rfl,rfl⟩,fp,q⟩
end
theorem Eg:∀(bs:List Bool),(List.range bs.length).all (fun i=>bs.getD i true)=bs.all id
 | []=>rfl
 | b::bs=>by
  have ih:=Eg bs
  rw[List.length_cons,List.range_succ_eq_map,List.all_cons,List.all_map,List.all_cons]
  simp only[List.getD_cons_zero,id]
  rw[← ih]
  rfl
theorem A3.bools:∀{bs:List Bool} {us:List Value} {i:Nat} {v:Value},A3 (bs.map V.bl) us→us[i]?=some v→v=.bool (bs.getD i true)
 | [],_,_,_,.nil,e=>by simp at e
 | b::bs,_,0,_,.cons r _,e=>by
  have e':=Option.some.inj e
  subst e'
  exact r
 | b::bs,_,i+1,v,.cons _ t,e=>by
  have:=A3.bools (i:=i) (v:=v) t (by simpa using e)
  simpa using this
section
variable {X:Cx}
theorem Ch (hc:X.calm=true):DD X (.builtin "all") (fun xs H Q=>∃(p:Addr) (bs:List Bool),xs=[.ref p]∧As X.K H p (bs.map V.bl)∧Q (.bl (bs.all id)) H):=by
 intro pins s σ H xs us Q I r h
 obtain⟨p,bs,rfl,hq,q⟩:=h
 obtain⟨u,rfl,rx⟩:=Hy r
 cases rx
 obtain⟨its,rv,pl,hz⟩:=I.list hq
 have hl:=rv.length
 rw[List.length_map]at hl
 have hlt:p<s.heap.objs.size:=by obtain⟨o,e,_⟩:=pl.isList;exact Heap.lt_size e
 have hne:p≠s.heap.objs.size:=Nat.ne_of_lt hlt
 refine call_all_walk (wpAny_pyIter_list pl.isList ⟨s.heap.objs.size,[s.heap.objs.size,p],[s.heap.objs.size],its.toArray.size,_,_,fun i=>bs.getD i true,rfl,
  Walks.list (A:=X.A.in1) (show X.A.in1.handled=none from I.ok.hd hc) s.heap.objs.size p hne its.toArray,⟨⟨_,Heap.get?_push_size _ rfl,rfl,rfl⟩,pl.isList.at fun o e=>Heap.get?_push_of_some _ e⟩,?_,fun h' tk kk=>?_⟩)
 ·intro i v s' Q' E' hP hQ
  have e:=A3.bools rv (show its[i]?=some v by simpa using hP)
  subst e
  exact wpAny_truthy_bool hQ
 ·have hsz:its.toArray.size=bs.length:=by rw[List.size_toArray,← hl]
  rw[hsz,Eg]
  exact⟨.bl _,H,I.kept fun b o e=>kk b o (by simp;exact Nat.ne_of_lt (Heap.lt_size e)) (Heap.get?_push_of_some _ e),rfl,q⟩
theorem Ci:bootBuiltins "all"=some (.builtin "all"):=by nofun
def PJ (X:Cx)(es:List Expr)(t:Str→TE):Prop:=
 ∀(acc:Str) (pins:List (Addr×Obj)) (s:Shared) (σ:St) (H:Hp) (Q:VK),Ap X pins σ H s→t acc σ H Q→wpAny (model X.prog X.w) X.A (joinParts acc (evalEach es X.env)) (EP X pins σ Q) X.xe s
theorem Hc {scope:Scope}{cl:List (Str×Addr)}{C:Addr}{N:List Str}{s₀:Shared}{H₀:Hp}{ex:List Addr}{pn:List (Addr×Obj)}:Tn (B5 X scope cl C N s₀ H₀ ex pn) (VU X.K):=Ac
def Xd (K:PySem.W.Frag):R2:=fun x y H Q=>∃ a b xs ys,x=.ref a∧y=.ref b∧As K H a xs∧As K H b ys∧xs.all B3=true∧ys.all B3=true∧Q (.bl (!MX xs ys)) H
theorem Tw (hu:X.A.units<cLine):FS X (compareOp .NotEq) (Xd X.K):=by
 intro pins s σ H x y v u Q I rx ry h
 obtain⟨a,b,xs,ys,rfl,rfl,ha,hb,f1,f2,q⟩:=h
 cases rx
 cases ry
 obtain⟨its,r1,p1,_⟩:=I.list ha
 obtain⟨its2,r2,p2,_⟩:=I.list hb
 have l1:=r1.length
 have l2:=r2.length
 have hv:=IC xs ys
 by_cases hs:xs.length=ys.length
 ·have hsz:its.toArray.size=its2.toArray.size:=by rw[List.size_toArray,List.size_toArray];omega
  refine SeqAt.RcNeAt.lists (e:=FT xs ys) p1.isList p2.isList hsz hu (PZ (pins:=pins) (σ:=σ) (H:=H) r1 r2 f1 f2) X.prog X.w X.xe _ ⟨.bl _,H,I,rfl,?_⟩
  have e:min xs.length ys.length=xs.length:=by omega
  have e2:(xs.length==ys.length)=true:=by simp[hs]
  rw[e,e2,Bool.and_true]at hv
  rw[List.size_toArray,← l1,hv]
  exact q
 ·have hne:(its.toArray.size != its2.toArray.size)=true:=by
   rw[List.size_toArray,List.size_toArray]
   simp;omega
  refine SeqAt.RcNeAt.lists_lengths p1.isList p2.isList hne hu X.prog X.w X.xe _ ⟨.bl true,H,I,rfl,?_⟩
  have e2:(xs.length==ys.length)=false:=by simp[hs]
  rw[e2,Bool.and_false]at hv
  rw[← hv]at q
  exact q
end
section
variable {X:Cx}{pins:List (Addr×Obj)}{σ:St}{H:Hp}{s:Shared}
theorem BQ {α β:Type}{F:α→β→Prop}:∀{xs:List α} {ys:List β},Paired F xs ys→∀{j:Nat} {x:α},xs[j]?=some x→∃ y,ys[j]?=some y∧F x y:=by
 intro A B h
 induction h with
 | nil=>
  intro j x e
  simp at e
 | cons r t ih=>
  intro j x e
  cases j with
  | zero=>
   simp at e
   subst e
   exact⟨_,rfl,r⟩
  | succ j=>
   obtain⟨y,h1,h2⟩:=ih (by simpa using e)
   exact⟨y,by simpa using h1,h2⟩
end
theorem K8 {X:Cx}{elt iter:Expr}{ifs:List Expr}{x:Str}{px pos:Pos}{scope:Scope}{cl:List (Str×Addr)}{fv:List Str}{js:List Nat}{wi:TI}{tt:TT}{te:TE}(hc:X.calm=true)(hclos:closureFor scope X.env=pure cl)
 (S:CH X scope cl x fv js) (hi:PI X (.Name x px) iter wi)
 (ht:∀(C:Addr) (s₀:Shared) (H₀:Hp) (ex:List Addr) (pn:List (Addr×Obj)),PF (B5 X scope cl C (x::fv) s₀ H₀ ex pn) ifs tt)
 (he:∀(C:Addr) (s₀:Shared) (H₀:Hp) (ex:List Addr) (pn:List (Addr×Obj)),PE (B5 X scope cl C (x::fv) s₀ H₀ ex pn) elt te)
 (hs:∀ x,foldedSetIterable iter X.env x=pure x) {use:Option (Value→Sem Unit)} {QQ:Value→Shared→Prop} {pins:List (Addr×Obj)} {s:Shared} {σ:St} {H:Hp} {Q:VK} (I:Ap X pins σ H s) (h:Pa wi js tt te σ H Q)
 (hfin:∀(D:Addr) (s3:Shared) (H3:Hp) (fp:List Addr) (pn:List (Addr×Obj)) (N:List Str) (pins':List (Addr×Obj)) (σ':St) (H':Hp) (s':Shared),Ap X pins σ H3 s3→(∀ b∈fp,FI X pins H3 b)→
  Ap (B5 X scope cl s3.heap.objs.size N s3 H3 fp pn) pins' σ' H' s'→Q (.ref D) H'→compPost (model X.prog X.w) X.A X.xe use QQ (.ref D) s3.heap.objs.size (.ok .next) s'):
 wpAny (model X.prog X.w) X.A (comprehension (.ListComp elt [⟨.Name x px,iter,ifs,0⟩] scope pos) scope X.env (firstIterPos [⟨.Name x px,iter,ifs,0⟩] pos) (newList []) (firstAsync [⟨.Name x px,iter,ifs,0⟩]) (firstIter [⟨.Name x px,iter,ifs,0⟩] X.env) use) QQ X.xe s:=by
 refine wpAny_comprehension_free (use:=use) rfl hs hclos S.kind S.nm (Bq (hi pins s σ H _ I h) fun v s1 h1=>Bq h1 fun itv s2 h2=>?_)
 obtain⟨it,fp,tn,J,H2,e,I2,T,st2,f2,hW⟩:=h2
 subst e
 have hD:H2 s2.heap.objs.size=none:=I2.hok.fresh (Nat.le_refl _)
 obtain⟨W,⟨m0,w0⟩,turn⟩:=hW s2.heap.objs.size hD
 have lt2:∀ b∈fp,b<s2.heap.objs.size:=fun b hb=>by
  obtain⟨o,e,_⟩:=T.obj _ _ st2 b hb
  exact Heap.lt_size e
 refine wpAny_newObj_type (wpAny_newFunctionEnv S.nc (by intro y hy;simp at hy) (fun h₁ hns₁ hsb₁=>?_) S.kind)
 dsimp only at hns₁ hsb₁ ⊢
 have I3:Ap X pins σ (upd H2 s2.heap.objs.size (.lst [])) { s2 with heap:=s2.heap.push { cls:=.type "list",dict:=none,data:=.seq ([]:List Value).toArray } }:=I2.lnew (t':=s2.toks) .nil (Nat.zero_le _)
 generalize hS3:({ s2 with heap:=s2.heap.push { cls:=.type "list",dict:=none,data:=.seq ([]:List Value).toArray } }:Shared)=s3 at I3
 have eh:s3.heap=s2.heap.push { cls:=.type "list",dict:=none,data:=.seq ([]:List Value).toArray }:=by rw[← hS3]
 rw[← eh]at hns₁ hsb₁ ⊢
 have hsz:s3.heap.objs.size=s2.heap.objs.size+1:=by rw[eh,Heap.size_push]
 have k23:∀ b o,s2.heap.get? b=some o→s3.heap.get? b=some o:=fun b o e=>by rw[eh];exact Heap.get?_push_of_some _ e
 have k34:∀ b o,s3.heap.get? b=some o→h₁.get? b=some o:=fun b o e=>hsb₁.extBut b o (Nat.ne_of_lt (Heap.lt_size e)) (Heap.get?_push_of_some _ e)
 have f3:∀ b∈fp,FI X pins (upd H2 s2.heap.objs.size (.lst [])) b:=fun b hb=>⟨by rw[Ab (Nat.ne_of_lt (lt2 b hb))];exact(f2 b hb).1,(f2 b hb).2⟩
 have lt3:∀ b∈fp,b<s3.heap.objs.size:=fun b hb=>by rw[hsz];exact Nat.lt_succ_of_lt (lt2 b hb)
 have I4:=MY (tk:=s3.toks) S I3 f3 lt3 (h₁:=h₁) (by simpa using hns₁) k34
 generalize hY:B5 X scope cl s3.heap.objs.size (x::fv) s3 (upd H2 s2.heap.objs.size (.lst [])) fp (X.pn++pins)=Y at I4
 have hYp:Y.prog=X.prog:=by rw[← hY];rfl
 have hYw:Y.w=X.w:=by rw[← hY];rfl
 have hYK:Y.K=X.K:=by rw[← hY];rfl
 have hYA:Y.A=X.A:=by rw[← hY];rfl
 have hYc:Y.calm=true:=by rw[← hY];exact hc
 have hYe:Y.env=compEnvC scope cl s3.heap.objs.size X.env:=by rw[← hY];rfl
 have hYx:Y.xe=fun _ _=>False:=by rw[← hY];rfl
 have hYN:Y.N=x::fv:=by rw[← hY];rfl
 have heY:PE Y elt te:=by rw[← hY];exact he _ _ _ _ _
 have htY:PF Y ifs tt:=by rw[← hY];exact ht _ _ _ _ _
 have stat:∀{H':Hp},(∀ b∈fp,H' b=none)→∀ b∈fp,FI Y [] H' b:=fun {H'} hn b hb=>by
  obtain⟨g0,g1,g2,g3,g4,g5⟩:=f3 b hb
  rw[← hY]
  refine⟨hn b hb,Nat.ne_of_lt (lt3 b hb),fun z=>?_,.inl hb,fun y c e=>g4 y c (S.cell_of e),fun p hp=>g5 p (by simpa [B5]using hp)⟩
  rcases List.mem_cons.mp (I3.stkSub b z)with q | q
  ·exact g1 q
  ·exact g2 q
 have fin:∀{i:Nat} {m:Nat} {σ':St} {H':Hp} {s':Shared},Ap Y [] σ' H' s'→Q (.ref s2.heap.objs.size) H'→compPost (model X.prog X.w) X.A X.xe use QQ (.ref s2.heap.objs.size) s3.heap.objs.size (.ok .next) s':=fun {i m σ' H' s'} J q=>by
  rw[← hY]at J
  exact hfin _ _ _ _ _ _ _ _ _ _ I3 f3 J q
 have st4:∀ s4:Shared,s4={ s3 with heap:=h₁,toks:=s3.toks }→tn 0 s4.heap:=fun s4 e=>by
  subst e
  exact T.keep _ _ _ st2 fun b hb o e=>k34 b o (k23 b o e)
 have loop:codeAny (model X.prog X.w) X.A (.compLoop (.ListComp elt [⟨.Name x px,iter,ifs,0⟩] scope pos) 0 (.ref it) (.ref s2.heap.objs.size) (compEnvC scope cl s3.heap.objs.size X.env))
  (compPost (model X.prog X.w) X.A X.xe use QQ (.ref s2.heap.objs.size) s3.heap.objs.size) { s3 with heap:=h₁,toks:=s3.toks }:=by
  refine K1 (fun n s'=>∃(i:Nat) (o:Option V) (H':Hp),Ap Y [] (o::Kj js σ) H' s'∧tn i s'.heap∧(∀ b∈fp,H' b=none)∧W i n H') ?_ m0 ⟨0,none,_,I4,st4 _ rfl,fun b hb=>(f3 b hb).1,w0⟩
  rintro n s5 ⟨i,o,H5,I5,st5,fr5,w5⟩
  rcases turn i n H5 w5 with⟨stop,q⟩ | ⟨go,step⟩
  ·have r:=T.done Y hYp hYw hYK hYc i [] s5 _ H5 (fun _ _=>False) I5 (stat fr5) st5 stop
   rw[hYA]at r
   refine Bq r fun r s6 zq=>?_
   obtain⟨hr,I6⟩:=zq
   subst hr
   exact fin (i:=i) (m:=n) I6 q
  ·have r:=T.item Y hYp hYw hYK hYc i [] s5 _ H5 (fun _ _=>False) I5 (stat fr5) st5 go
   rw[hYA]at r
   refine Bq r fun r s6 zq=>?_
   obtain⟨u,hr,h6⟩:=zq
   subst hr
   refine Bq h6 fun _ s7 zq=>?_
   obtain⟨y,H7,I7,r7,y7,st7,fr7⟩:=zq
   have I7':=I7.pinned (stat fr7) (T.obj _ _ st7)
   have hname:PG Y (.Name x px) (Kr 0):=DR (X:=Y) (i:=0) (by rw[hYN];exact S.nd) (by rw[hYN];rfl) (.inl (by rw[hYe];exact lookup_relabel_local S.hx)) (.inr (by rw[hYe];exact lookup_relabel_local S.hx))
   have r8:=hname _ s7 _ H7 y u (fun σ' H'=>σ'=some y::Kj js σ∧H'=H7) I7' r7 ⟨rfl,rfl⟩
   rw[hYp,hYw,hYA,hYe,hYx]at r8
   refine Bq r8 fun _ s8 zq=>?_
   obtain⟨σ8,H8,I8,e1,e2⟩:=zq
   subst e1 e2
   have r9:=htY _ s8 _ _ _ I8 (step y _ y7)
   rw[hYp,hYw,hYA,hYe,hYx]at r9
   refine Bq r9 fun b s9 zq=>?_
   obtain⟨H9,I9,q9⟩:=zq
   have again:∀{σ':St} {H':Hp} {s':Shared},Ap Y ([]++Hs fp s7.heap) (some y::Kj js σ) H' s'→(∃ m',m'<n∧W (i+1) m' H')→
    ∃ m,m<n∧∃(i:Nat) (o:Option V) (H':Hp),Ap Y [] (o::Kj js σ) H' s'∧tn i s'.heap∧(∀ b∈fp,H' b=none)∧W i m H':=fun {σ' H' s'} K7 ⟨m',hm,w7⟩=>by
    refine⟨m',hm,i+1,some y,H',K7.unpinned,T.keep _ _ _ st7 fun b hb o e=>(K7.pin (b,o) (List.mem_append_right _ (List.mem_append_right _ (EA hb e)))).1,fun b hb=>?_,w7⟩
    obtain⟨o,e,d⟩:=T.obj _ _ st7 b hb
    exact(K7.pin (b,o) (List.mem_append_right _ (List.mem_append_right _ (EA hb e)))).2.1
   cases b with
   | false=>
    rw[if_neg Bool.false_ne_true]at q9 ⊢
    exact again (σ':=[]) I9 q9
   | true=>
    rw[if_pos rfl]at q9 ⊢
    have r10:=heY _ s9 _ _ _ I9 q9
    rw[hYp,hYw,hYA,hYe,hYx]at r10
    refine Bq r10 fun v s10 zq=>?_
    obtain⟨y10,H10,I10,ry,xs,hxs,hlen,m',hm,w10⟩:=zq
    have r11:=E9 (X:=Y) _ s10 _ H10 (.ref s2.heap.objs.size) [y10] (.ref s2.heap.objs.size) [v] (fun _ H'=>H'=upd H10 s2.heap.objs.size (.lst (xs++[y10]))) I10 rfl (.cons ry .nil) ⟨_,xs,y10,rfl,rfl,hxs,hlen,rfl⟩
    rw[hYp,hYw,hYA,hYx]at r11
    refine Bq r11 fun _ s11 zq=>?_
    obtain⟨_,H11,I11,_,e11⟩:=zq
    subst e11
    exact again (σ':=[]) I11 ⟨m',hm,w10⟩
 have loop':∀ s4:Shared,s4={ s3 with heap:=h₁,toks:=s3.toks }→codeAny (model X.prog X.w) X.A (.compLoop (.ListComp elt [⟨.Name x px,iter,ifs,0⟩] scope pos) 0 (.ref it) (.ref s2.heap.objs.size) (compEnvC scope cl s3.heap.objs.size X.env))
  (compPost (model X.prog X.w) X.A X.xe use QQ (.ref s2.heap.objs.size) s3.heap.objs.size) s4:=fun s4 e=>by subst e;exact loop
 have e4:∀ t,t=s3.toks→({ s3 with heap:=h₁,toks:=t }:Shared)={ s3 with heap:=h₁,toks:=s3.toks }:=fun t e=>by rw[e]
 have fin4:∀ s4:Shared,s4={ s3 with heap:=h₁,toks:=s3.toks }→codeAny (model X.prog X.w) X.A (.compStart (.ListComp elt [⟨.Name x px,iter,ifs,0⟩] scope pos) 0 (.ref it) (.ref s2.heap.objs.size) (compEnvC scope cl s3.heap.objs.size X.env))
  (compPost (model X.prog X.w) X.A X.xe use QQ (.ref s2.heap.objs.size) s3.heap.objs.size) s4:=fun s4 e=>
  codeAny_compStart_list (loop' s4 e) (T.self X.A 0 s4 _ _ (st4 s4 e) (loop' s4 e))
 have es:({ s2 with heap:=s2.heap.push { cls:=.type "list",dict:=none,data:=.seq ([]:List Value).toArray } }:Shared)=s3:=hS3
 refine fin4 _ ?_
 rw[← es]
 rfl
theorem KA {X:Cx}{i:Nat}{y:Str}{elt iter:Expr}{ifs:List Expr}{x:Str}{px pos py spos:Pos}{scope:Scope}{cl:List (Str×Addr)}{fv:List Str}{js:List Nat}{wi:TI}{tt:TT}{te:TE}(hN:X.N.Nodup)(hi0:X.N[i]?=some y)(hy:X.env.scope.names.lookup y=some .local)
 (hc:X.calm=true) (hclos:closureFor scope X.env=pure cl)
 (S:CH X scope cl x fv js) (hi:PI X (.Name x px) iter wi)
 (ht:∀(C:Addr) (s₀:Shared) (H₀:Hp) (ex:List Addr) (pn:List (Addr×Obj)),PF (B5 X scope cl C (x::fv) s₀ H₀ ex pn) ifs tt)
 (he:∀(C:Addr) (s₀:Shared) (H₀:Hp) (ex:List Addr) (pn:List (Addr×Obj)),PE (B5 X scope cl C (x::fv) s₀ H₀ ex pn) elt te)
 (hs:∀ x,foldedSetIterable iter X.env x=pure x:=by intro _;rfl)
 (hsw:swapsWith (.ListComp elt [⟨.Name x px,iter,ifs,0⟩] scope pos) (some (.Name y py)) spos.line X.env=pure true:=by rfl):
 PS X (.Assign [.Name y py] (.ListComp elt [⟨.Name x px,iter,ifs,0⟩] scope pos) spos) (RP (Pa wi js tt te) (Kr i)):=by
 intro pins s σ H D I h
 rw[exec_Assign_Name_used _ _ _ _ hsw]
 refine wpAny_bind (wpAny_standAt (wpAny_bind ?_))
 rw[arm_evalThenUse_ListComp]
 refine wpAny_bind (K8 (Q:=fun v H1=>D.nx (σ.set i (some v)) H1) hc hclos S hi ht he hs I h ?_)
 intro L s3 H3 fp pn N pins' σ' H' s' I3 f3 J q
 obtain⟨mm,hn,_⟩:=id J.loc
 have sb0:Heap.SameBut s3.heap.objs.size s'.heap s'.heap:=⟨rfl,fun _ _=>rfl⟩
 have I':Ap X pins σ H' s':=K0 I3 f3 J sb0
 have ok:=I3.fpOk (H':=H') (Nat.le_refl _) (show H' s3.heap.objs.size=none from J.free)
 obtain⟨f0,f1,f2,f4,f5,f6⟩:=ok
 refine wpAny_assign_Name (JV I' hN hi0 (.inl hy) (v:=.ref L) rfl (fun s2 I2 zq=>?_) (.inr hy))
 obtain⟨a,hsb,ha⟩:=zq
 have nac:s3.heap.objs.size≠a:=fun z=>by
  rcases ha with ha | ha
  ·exact f1 (z.trans ha)
  ·exact f5 _ _ ha z.symm
 refine⟨mm,hn.sameBut hsb nac,fun h'' sb=>?_⟩
 have I4:Ap X pins (σ.set i (some (.ref L))) H' { s2 with heap:=h'' }:=I2.turned (t':=s2.toks) (fun b o hb e=>(sb.2 b hb).trans e) f0 f1 f4 f5 f6
 exact wpAny_pure (wpAny_pure ⟨_,H',I4,q⟩)
section
variable {κ:Type}[DecidableEq κ]
def EE (kvs:List (κ×V))(k:κ):Option V:=(kvs.find? fun kv=>decide (kv.1=k)).map (·.2)
def F8 (kvs:List (κ×V))(k:κ)(v:V):List (κ×V):=
 if(kvs.any fun kv=>decide (kv.1=k))=true then kvs.map (fun kv=>if kv.1=k then(kv.1,v)else kv)else kvs++[(k,v)]
theorem Eh {p:κ×V}{r:List (κ×V)}{k:κ}(e:p.1=k):EE (p::r) k=some p.2:=by simp[EE,List.find?_cons,e]
theorem Dp {p:κ×V}{r:List (κ×V)}{k:κ}(e:¬ p.1=k):EE (p::r) k=EE r k:=by simp[EE,List.find?_cons,e]
theorem K9 (k:κ):∀ kvs:List (κ×V),(kvs.any fun kv=>decide (kv.1=k))=(EE kvs k).isSome
 | []=>rfl
 | p::r=>by
  rw[List.any_cons]
  by_cases e:p.1=k
  ·simp only[Eh e,decide_eq_true e,Bool.true_or,Option.isSome_some]
  ·rw[Dp e,decide_eq_false e,Bool.false_or];exact K9 k r
theorem Gu (kvs:List (κ×V))(k:κ)(v:V):(F8 kvs k v).length≤kvs.length+1:=by
 unfold F8
 split
 ·rw[List.length_map];omega
 ·rw[List.length_append,List.length_cons,List.length_nil];omega
theorem GZ.isSome_eq {o:Option V}{u:Option Value}(r:GZ o u):o.isSome=u.isSome:=by
 cases o with
 | none=>cases u with
  | none=>rfl
  | some _=>exact(show False from r).elim
 | some _=>cases u with
  | none=>exact(show False from r).elim
  | some _=>rfl
theorem GZ.getD {o:Option V}{u:Option Value}{d:V}{d':Value}(r:GZ o u)(rd:Aw d d'):Aw (o.getD d) (u.getD d'):=by
 cases o with
 | none=>cases u with
  | none=>exact rd
  | some _=>exact(show False from r).elim
 | some _=>cases u with
  | none=>exact(show False from r).elim
  | some _=>exact r
theorem KV.val {kvs:List (κ×V)}{vs:List (κ×Value)}(r:KV kvs vs)(k:κ):GZ (EE kvs k) (valueAt vs k):=by
 unfold KV at r
 induction r with
 | nil=>exact True.intro
 | @cons p q ps qs h t ih=>
  obtain⟨h1,h2⟩:=h
  by_cases e:p.1=k
  ·have e':q.1=k:=h1.symm.trans e
   have b:valueAt (q::qs) k=some q.2:=by simp[valueAt,List.find?_cons,e']
   rw[Eh e,b];exact h2
  ·have e':¬ q.1=k:=fun z=>e (h1.trans z)
   have b:valueAt (q::qs) k=valueAt qs k:=by simp[valueAt,List.find?_cons,e']
   rw[Dp e,b];exact ih
theorem KV.any {kvs:List (κ×V)}{vs:List (κ×Value)}(r:KV kvs vs)(k:κ):(kvs.any fun kv=>decide (kv.1=k))=vs.any fun kv=>decide (kv.1=k):=by
 unfold KV at r
 induction r with
 | nil=>rfl
 | cons h t ih=>rw[List.any_cons,List.any_cons,ih,h.1]
theorem KV.repl {kvs:List (κ×V)}{vs:List (κ×Value)}(r:KV kvs vs)(k:κ){y:V}{u:Value}(ry:Aw y u):
 KV (kvs.map fun kv=>if kv.1=k then(kv.1,y)else kv) (vs.map fun kv=>if kv.1=k then(kv.1,u)else kv):=by
 unfold KV at r ⊢
 induction r with
 | nil=>exact .nil
 | @cons p q ps qs h t ih=>
  rw[List.map_cons,List.map_cons]
  refine .cons ?_ ih
  obtain⟨h1,h2⟩:=h
  by_cases e:p.1=k
  ·rw[if_pos e,if_pos (h1.symm.trans e)];exact⟨h1,ry⟩
  ·rw[if_neg e,if_neg (fun z=>e (h1.trans z))];exact⟨h1,h2⟩
theorem KV.put {kvs:List (κ×V)}{vs:List (κ×Value)}(r:KV kvs vs)(k:κ){y:V}{u:Value}(ry:Aw y u):KV (F8 kvs k y) (stored vs k u):=by
 unfold F8 stored
 rw[r.any k]
 by_cases e:(vs.any fun kv=>decide (kv.1=k))=true
 ·rw[if_pos e,if_pos e];exact r.repl k ry
 ·rw[if_neg e,if_neg e];exact Paired.snoc r ⟨rfl,ry⟩
theorem KV.length {kvs:List (κ×V)}{vs:List (κ×Value)}(r:KV kvs vs):kvs.length=vs.length:=Paired.length r
end
theorem NW {P:Program}{w:World}{k:BY}{u:Value}(r:Aw (kV k) u):(Bf P w).is k u=true:=by
 cases k with
 | inl i=>obtain⟨t,e⟩:=(show ∃ t,u=Value.int i t from r);subst e;exact Kn P w i t
 | inr x=>obtain⟨t,e⟩:=(show ∃ t,u=Value.str x t from r);subst e;exact Ko P w x t
theorem Je {P:Program}{w:World}:∀{ks:List BY} {us:List Value},A3 (ks.map kV) us→ItemsAre (Bf P w) ks us
 | [],_,r=>by rw[List.map_nil]at r;cases r;exact .nil
 | k::ks,_,r=>by
  rw[List.map_cons]at r
  cases r with
  | cons h t=>exact .cons (NW h) (Je t)
abbrev KT (H:Hp):List (List BY×V)→List (List BY×Addr×Value)→Prop:=Paired fun p q=>p.1=q.1∧H q.2.1=some (.tup (p.1.map kV))∧Aw p.2 q.2.2
theorem KT.val {H:Hp}{kvs:List (List BY×V)}{xs:List (List BY×Addr×Value)}(r:KT H kvs xs)(k:List BY):GZ (EE kvs k) ((atKey xs k).map (·.2)):=by
 induction r with
 | nil=>exact True.intro
 | @cons p q ps qs h t ih=>
  obtain⟨h1,_,h2⟩:=h
  by_cases e:p.1=k
  ·have e':q.1=k:=h1.symm.trans e
   have b:atKey (q::qs) k=some q.2:=by simp[atKey,List.find?_cons,e']
   rw[Eh e,b];exact h2
  ·have e':¬ q.1=k:=fun z=>e (h1.trans z)
   have b:atKey (q::qs) k=atKey qs k:=by simp[atKey,List.find?_cons,e']
   rw[Dp e,b];exact ih
theorem KT.repl {H:Hp}{kvs:List (List BY×V)}{xs:List (List BY×Addr×Value)}(r:KT H kvs xs)(k:List BY){y:V}{u:Value}(ry:Aw y u):
 KT H (kvs.map fun kv=>if kv.1=k then(kv.1,y)else kv) (xs.map (putAt k u)):=by
 induction r with
 | nil=>exact .nil
 | @cons p q ps qs h t ih=>
  rw[List.map_cons,List.map_cons]
  refine .cons ?_ ih
  obtain⟨h1,h2,h3⟩:=h
  unfold putAt
  by_cases e:p.1=k
  ·rw[if_pos e,if_pos (h1.symm.trans e)];exact⟨h1,h2,ry⟩
  ·rw[if_neg e,if_neg (fun z=>e (h1.trans z))];exact⟨h1,h2,h3⟩
theorem KT.put {H:Hp}{kvs:List (List BY×V)}{xs:List (List BY×Addr×Value)}(r:KT H kvs xs)(k:List BY){b:Addr}{y:V}{u:Value}(hb:H b=some (.tup (k.map kV)))(ry:Aw y u):
 KT H (F8 kvs k y) (storedH xs k b u):=by
 have e:(kvs.any fun kv=>decide (kv.1=k))=(atKey xs k).isSome:=by
  rw[K9,(r.val k).isSome_eq,Option.isSome_map]
 unfold F8 storedH
 rw[e]
 by_cases q:(atKey xs k).isSome=true
 ·rw[if_pos q,if_pos q];exact r.repl k ry
 ·rw[if_neg q,if_neg q];exact Paired.snoc r ⟨rfl,hb,ry⟩
theorem KT.keeps {H H':Hp}{kvs:List (List BY×V)}{xs:List (List BY×Addr×Value)}(r:KT H kvs xs)(ht:∀ b ys,H b=some (.tup ys)→H' b=some (.tup ys)):KT H' kvs xs:=
 Paired.mapP r fun _ _ z=>⟨z.1,ht _ _ z.2.1,z.2.2⟩
section
variable {P:Program}{w:World}{H:Hp}{h:Heap}{a:Addr}
theorem Pc {u:HO}(ok:FH P w H h)(e:Rd H a u):BI P w H h a u:=e.ok ok
theorem Pd {kvs:List (BY×V)}(ok:FH P w H h)(e:Rd H a (.dK kvs)):kvs.length≤sizeLine∧(a==sysModules)=false∧∃ vs,KV kvs vs∧h.DictOf (Bf P w) a vs:=
 show BI P w H h a (.dK kvs)from Pc ok e
theorem Vb {kvs:List (BY×V)}(ok:FH P w H h)(e:H a=some (.dK kvs)):kvs.length≤sizeLine∧(a==sysModules)=false∧∃ vs,KV kvs vs∧h.DictOf (Bf P w) a vs:=Pd ok (.inl e)
theorem KB {ks:List BY}(ok:FH P w H h)(e:H a=some (.tup (ks.map kV))):(tupleKind (Bf P w)).is h ks a:=by
 obtain⟨_,its,r,o,h1,h2,n,h3⟩:=(show BI P w H h a (.tup (ks.map kV))from ok a _ e)
 exact⟨o,its.toArray,n,h1,h2,h3,by simpa using Je r⟩
theorem Pe {kvs:List (List BY×V)}(ok:FH P w H h)(e:Rd H a (.dT kvs)):kvs.length≤sizeLine∧(a==sysModules)=false∧
 ∃ xs,KT H kvs xs∧h.DictOfH (tupleKind (Bf P w)) a xs:=by
 obtain⟨z,y,xs,r,o,es,ep,h1,h2,h3,h4,h5⟩:=(show BI P w H h a (.dT kvs)from Pc ok e)
 refine⟨z,y,xs,r,o,es,ep,h1,h2,h3,h4,fun x hx=>?_,h5⟩
 have all:∀{l:List (List BY×V)} {m:List (List BY×Addr×Value)},KT H l m→∀ x∈m,(tupleKind (Bf P w)).is h x.1 x.2.1:=by
  intro l m q
  induction q with
  | nil=>intro x hx;exact nomatch hx
  | @cons p q ps qs hq t ih=>
   intro x hx
   rcases List.mem_cons.mp hx with e | hx
   ·subst e
    exact KB ok (by rw[← hq.1];exact hq.2.1)
   ·exact ih x hx
 exact all r x hx
theorem Vc {kvs:List (List BY×V)}(ok:FH P w H h)(e:H a=some (.dT kvs)):kvs.length≤sizeLine∧(a==sysModules)=false∧
 ∃ xs,KT H kvs xs∧h.DictOfH (tupleKind (Bf P w)) a xs:=Pe ok (.inl e)
end
def Tx (H:Hp)(a:Addr)(y:V)(r:Option V):Prop:=
 (∃ kvs k,Rd H a (.dK kvs)∧y=kV k∧r=EE kvs k)∨∃ kvs k b,Rd H a (.dT kvs)∧y=.ref b∧H b=some (.tup (k.map kV))∧r=EE kvs k
def Pf (H:Hp)(a:Addr)(y v:V)(H':Hp):Prop:=
 (∃ kvs k,H a=some (.dK kvs)∧y=kV k∧kvs.length<sizeLine∧H'=upd H a (.dK (F8 kvs k v)))∨
 ∃ kvs k b,H a=some (.dT kvs)∧y=.ref b∧H b=some (.tup (k.map kV))∧kvs.length<sizeLine∧H'=upd H a (.dT (F8 kvs k v))
theorem Pf.t {H:Hp}{a b:Addr}{kvs:List (List BY×V)}{k:List BY}{v:V}(e:H a=some (.dT kvs))(eb:H b=some (.tup (k.map kV)))(hl:kvs.length<sizeLine):
 Pf H a (.ref b) v (upd H a (.dT (F8 kvs k v))):=.inr ⟨kvs,k,b,e,rfl,eb,hl,rfl⟩
section
variable {X:Cx}{pins:List (Addr×Obj)}{σ:St}{H:Hp}{s:Shared}{a:Addr}{y v:V}{u r:Value}{o:Option V}{A:Around}{E:Value→Shared→Prop}
theorem Ap.big (I:Ap X pins σ H s):sysModules<s.heap.objs.size:=by
 have h:mainGlobals<s.heap.objs.size:=(I.mod.glob.keeps I.bk).lt
 exact Nat.lt_trans (by decide) h
theorem OV {Q:Value→Shared→Prop}(hu:A.units+1<cLine)(I:Ap X pins σ H s)(g:Tx H a y (some v))(ry:Aw y u)(h:∀ w' s',Ap X pins σ H s'→Aw v w'→Q w' s'):
 wpAny (model X.prog X.w) A (getItem (.ref a) u) Q E s:=by
 rcases g with⟨kvs,k,e,ey,l⟩ | ⟨kvs,k,b,e,ey,eb,l⟩
 ·subst ey
  obtain⟨z,hd,vs,rel,dd⟩:=Pd I.hok e
  obtain⟨w',hw,rw'⟩:=GZ.some_of (v:=v) (o:=valueAt vs k) (by rw[l];exact rel.val k)
  exact wpAny_getItem_of (NW ry) dd.mapOf hw (h w' _ (I.tok _) rw')
 ·subst ey
  cases (show u=Value.ref b from ry)
  obtain⟨z,hd,xs,rel,dd⟩:=Pe I.hok e
  obtain⟨w',hw,rw'⟩:=GZ.some_of (v:=v) (o:=(atKey xs k).map (·.2)) (by rw[l];exact rel.val k)
  obtain⟨p,hp,hp2⟩:=Option.map_eq_some_iff.mp hw
  refine wpAny_getItem_heap (tupleKind_room_in1 hu) (KB I.hok eb) dd hp ?_
  rw[hp2]
  exact h w' _ (I.tok _) rw'
theorem NX {h':Heap}{t':Nat}{ob:HO}(I:Ap X pins σ H s)(mu:VB (H a))(hs:Heap.SameBut a s.heap h')(he:∃ q,h'.get? a=some q)(new:BI X.prog X.w (upd H a ob) h' a ob):
 Ap X pins σ (upd H a ob) { s with heap:=h',toks:=t' }:=
 I.write (x:=a) (e:=a) mu (.inl rfl) (fun b q hb z=>(hs.2 b hb).trans z) he new
theorem Ty {P:Program}{w:World}{H':Hp}{h':Heap}{kvs:List (BY×V)}{vs:List (BY×Value)}(z:kvs.length≤sizeLine)(hd:(a==sysModules)=false)(rel:KV kvs vs)(dd:h'.DictOf (Bf P w) a vs):
 BI P w H' h' a (.dK kvs):=⟨z,hd,vs,rel,dd⟩
theorem OW {H':Hp}{Q:Unit→Shared→Prop}(hu:A.units+1<cLine)(I:Ap X pins σ H s)(g:Pf H a y v H')(ry:Aw y u)(rv:Aw v r)(h:∀ s',Ap X pins σ H' s'→Q () s'):
 wpAny (model X.prog X.w) A (setItem (.ref a) u r) Q E s:=by
 rcases g with⟨kvs,k,e,ey,l,eH⟩ | ⟨kvs,k,b,e,ey,eb,l,eH⟩
 ·subst ey eH
  obtain⟨z,hd,vs,rel,dd⟩:=Vb I.hok e
  have hz:vs.length≤sizeLine:=by rw[← rel.length];exact z
  have hl:(F8 kvs k v).length≤sizeLine:=by have:=Gu kvs k v;omega
  refine wpAny_setItem_pairs (hsz:=hz) (NW ry) dd fun h' dd' hs=>h _ ?_
  have he:∃ q,h'.get? a=some q:=let ⟨q,_,_,hq,_⟩:=dd';⟨q,hq⟩
  exact NX I (by rw[e];exact True.intro) hs he (Ty hl hd (rel.put k rv) dd')
 ·subst ey eH
  cases (show u=Value.ref b from ry)
  obtain⟨z,hd,xs,rel,dd⟩:=Vc I.hok e
  have hz:xs.length≤sizeLine:=by rw[← Paired.length rel];exact z
  have hl:(F8 kvs k v).length≤sizeLine:=by have:=Gu kvs k v;omega
  refine wpAny_setItem_heap (hsz:=hz) (tupleKind_room_in1 hu) (KB I.hok eb) dd fun h' dd' hs=>h _ ?_
  obtain⟨q,es,ep,hq,h2,h3,h4,_,h5⟩:=dd'
  refine NX I (by rw[e];exact True.intro) hs ⟨q,hq⟩ ⟨hl,hd,_,(rel.put k eb rv).keeps fun c ys ec=>?_,q,es,ep,hq,h2,h3,h4,h5⟩
  rw[Ab (CJ ec e (fun z=>nomatch z))]
  exact ec
end
def Vd (i:Expr):Prop:=∀ ov iv,subscripted i false ov iv=operate [ov,iv] (getItem ov iv)
theorem RZ {prog:Program}{w:World}{A:Around}{E:Value→Shared→Prop}{s:Shared}{env:Env}{value slice:Expr}{pos:Pos}{T id:String}{Q:Value→Shared→Prop}
 (hl:typeLookup (.type T) "__getitem__"=pure (some (.builtin id))) (hs:Vd slice)
 (h:wpAny (model prog w) A (eval value env) (fun o s₁=>wpAny (model prog w) A (eval slice env) (fun i s₂=>s₂.TypeIs o T∧wpAny (model prog w) A (getItem o i) Q E s₂) E s₁) E s):
 wpAny (model prog w) A (eval (.Subscript value slice pos) env) Q E s:=by
 refine Subscript_ (wpAny_mono h (fun o s₁ h₁=>wpAny_mono h₁ (fun i s₂ h₂=>?_) fun _ _ x=>x) fun _ _ x=>x)
 obtain⟨hT,h₂⟩:=h₂
 unfold subscriptTail
 refine wpAny_bind ?_
 rw[getitemInPython_of_ne hT.not_modules]
 refine wpAny_bind (wpAny_specialOf hT hl ?_)
 have fin:wpAny (model prog w) A (subscripted slice false o i) (fun r s₃=>wpAny (model prog w) A (letTemporaryGo value o r >>= fun _=>pure r) Q E s₃) E s₂:=by
  rw[hs o i]
  exact wpAny_operating (wpAny_mono h₂ (fun r s₃ h₃=>wpAny_bind (wpAny_letTemporaryGo (wpAny_pure h₃))) fun _ _ x=>x)
 first
  | exact wpAny_pure (wpAny_bind fin)
  | exact wpAny_bind (wpAny_pure (wpAny_bind fin))
  | exact wpAny_bind fin
theorem LG {X:Cx}{pins:List (Addr×Obj)}{σ:St}{H:Hp}{s:Shared}{a:Addr}{y:V}{o:Option V}(I:Ap X pins σ H s)(g:Tx H a y o):s.TypeIs (.ref a) "dict":=by
 rcases g with⟨kvs,k,e,_,_⟩ | ⟨kvs,k,b,e,_,_,_⟩
 ·obtain⟨_,_,vs,_,dd⟩:=Pd I.hok e
  exact dd.typeIs
 ·obtain⟨_,_,xs,_,dd⟩:=Pe I.hok e
  exact dd.typeIs
def Ve (td ty:TE):TE:=fun σ H Q=>td σ H fun x H1=>ty σ H1 fun y H2=>∃ a v,x=.ref a∧Tx H2 a y (some v)∧Q v H2
def Vf (td ty tv:TE):TS:=fun D σ H=>tv σ H fun v H1=>td σ H1 fun x H2=>ty σ H2 fun y H3=>∃ a H4,x=.ref a∧Pf H3 a y v H4∧D.nx σ H4
section
variable {X:Cx}{o i e value:Expr}{pos pos' tpos:Pos}{td ty tv:TE}
theorem Ra (hu:X.A.units+1<cLine)(ho:PE X o td)(hi:PE X i ty)(hs:Vd i):PE X (.Subscript o i pos) (Ve td ty):=by
 intro pins s σ H Q I h
 refine RZ PySem.F.slot_dict_getitem.lookup hs (Bq (ho pins s σ H _ I h) fun u s1 ⟨x,H1,I1,rx,q1⟩=>Bq (hi pins s1 σ H1 _ I1 q1) fun iv s2 zq=>?_)
 obtain⟨y,H2,I2,ry,a,v,ex,g,q2⟩:=zq
 subst ex
 obtain rfl:u=Value.ref a:=rx
 exact⟨LG I2 g,OV hu I2 g ry fun w' s3 I3 rw'=>⟨v,H2,I3,rw',q2⟩⟩
theorem Rb (hu:X.A.units+1<cLine)(ho:PE X o td)(hi:PE X i ty)(hv:PE X value tv)(hs:swapsWith value (some (.Subscript o i pos')) pos.line X.env=pure false):
 PS X (.Assign [.Subscript o i pos'] value pos) (Vf td ty tv):=by
 intro pins s σ H D I h
 refine wpAny_Assign_Subscript (Bq (hv pins s σ H _ I h) fun r s1 ⟨v,H1,I1,rv,q1⟩=>Bq (ho pins s1 σ H1 _ I1 q1) fun u s2 ⟨x,H2,I2,rx,q2⟩=>Bq (hi pins s2 σ H2 _ I2 q2) fun iv s3 zq=>?_) hs
 obtain⟨y,H3,I3,ry,a,H4,ex,g,q3⟩:=zq
 subst ex
 obtain rfl:u=Value.ref a:=rx
 exact OW hu I3 g ry rv fun s4 I4=>⟨σ,H4,I4,q3⟩
end
theorem Pg {P:Program}{w:World}{H:Hp}(h:Heap)(hb:sysModules<h.objs.size):BI P w H (h.push { cls:=.type "dict",data:=.dict #[] }) h.objs.size (.dK []):=
 ⟨Nat.zero_le _,beq_eq_false_iff_ne.mpr (Ne.symm (Nat.ne_of_lt hb)),[],.nil,Heap.DictOf.new h⟩
theorem Ph {P:Program}{w:World}{H:Hp}(h:Heap)(hb:sysModules<h.objs.size):BI P w H (h.push { cls:=.type "dict",data:=.dict #[] }) h.objs.size (.dT []):=
 ⟨Nat.zero_le _,beq_eq_false_iff_ne.mpr (Ne.symm (Nat.ne_of_lt hb)),[],.nil,_,#[],0,Heap.get?_push_size _ rfl,⟨rfl,rfl,rfl⟩,rfl,rfl,List.nodup_nil⟩
def Pi:TE:=fun _ H Q=>∀ p,H p=none→Q (.ref p) (upd H p (.dK []))
def Tz:TE:=fun _ H Q=>∀ p,H p=none→Q (.ref p) (upd H p (.dT []))
section
variable {X:Cx}{pos:Pos}
theorem LH:PE X (.Dict [] [] pos) Pi:=fun pins s σ H Q I h=>
 wpAny_Dict_empty ⟨.ref s.heap.objs.size,_,I.laid (a:=s.heap.objs.size) (o:=.dK []) (t':=s.toks) (fun _ _ q=>Heap.get?_push_of_some _ q) (Nat.le_refl _) (Pg s.heap I.big),rfl,h _ (I.hok.fresh (Nat.le_refl _))⟩
theorem Pj:PE X (.Dict [] [] pos) Tz:=fun pins s σ H Q I h=>
 wpAny_Dict_empty ⟨.ref s.heap.objs.size,_,I.laid (a:=s.heap.objs.size) (o:=.dT []) (t':=s.toks) (fun _ _ q=>Heap.get?_push_of_some _ q) (Nat.le_refl _) (Ph s.heap I.big),rfl,h _ (I.hok.fresh (Nat.le_refl _))⟩
end
section
variable {P:Program}{w:World}{A:Around}{E:Value→Shared→Prop}{s:Shared}{d it:Addr}{o:Obj}{es:Array DictEntry}{ep i:Nat}
structure LI (h:Heap)(d:Addr)(o:Obj)(es:Array DictEntry)(ep:Nat):Prop where
 at_:h.get? d=some o
 ex:o.ExactDict
 data:o.data=.dict es ep
theorem LI.ty (x:LI s.heap d o es ep):s.TypeIs (.ref d) "dict":=⟨o,x.at_,x.ex.1⟩
theorem Pk {Q:Value→Shared→Prop}(x:LI s.heap d o es ep)(hd:(d==sysModules)=false)
 (hQ:Q (.ref s.heap.objs.size) { s with heap:=s.heap.push { cls:=.type "dict_keyiterator",data:=.fields #[.ref d,.int 0 0,.int es.size 0,.int ep 0] } }):
 wpAny (model P w) A (pyIter (.ref d)) Q E s:=by
 refine wpAny_pyIter_slot x.ty F.slot_dict_iter (wpAny_call_entry F.slot_dict_iter x.ty F.entry_dict_iter ?_ (F.args_dict_iter_1 _))
 unfold Builtin.«dict.__iter__» Builtin.Dict.dictSlotNone
 refine wpAny_bind (wpAny_bind (wpAny_notOrdered_dict x.ty (wpAny_pure (a:=Value.ref d) ?_)))
 show wpAny _ _ (Builtin.Dict.showsAll d >>= _) _ _ s
 unfold Builtin.Dict.showsAll
 rw[if_neg (by rw[hd];exact Bool.false_ne_true)]
 refine wpAny_bind (wpAny_pure (wpAny_bind (wpAny_dictEntries x.at_ x.data (wpAny_bind (wpAny_dictEpoch x.at_ x.data ?_)))))
 refine wpAny_bind (wpAny_newObj_type (wpAny_pure ⟨_,rfl,"dict_keyiterator",_,⟨_,Heap.get?_push_size _ rfl,rfl⟩,F.slot_dict_keyiterator_next.lookup,?_⟩))
 simpa [rawInt]using hQ
theorem Pl {Q:Option Value→Shared→Prop}{e:DictEntry}(hit:s.heap.IsKeyIter it d i es.size ep)(x:LI s.heap d o es ep)(he:es[i]?=some e)
 (hQ:∀ h',h'.IsKeyIter it d (i+1) es.size ep→Heap.SameBut it s.heap h'→Q (some e.key) { s with heap:=h' }):
 wpAny (model P w) A (pyNext (.ref it)) Q E s:=by
 obtain⟨oi,ho,hc,hd⟩:=id hit
 unfold pyNext
 refine wpAny_bind (wpAny_attempt (wpAny_callSpecial?_slot (name:=Str.ofString "__next__") hit.typeIs F.slot_dict_keyiterator_next
  (wpAny_call_entry F.slot_dict_keyiterator_next hit.typeIs F.entry_dict_keyiterator_next (wpAny_bind (wpAny_pure (wpAny_bind (wpAny_bind ?_)))) (F.args_dict_keyiterator_next_1 _))))
 first | refine wpAny_bind (wpAny_typeNameOfWhole_keyiter hit.typeIs (wpAny_pure ?_)) | refine wpAny_bind (wpAny_typeNameOf_keyiter hit.typeIs (wpAny_pure ?_))
 refine wpAny_bind (wpAny_fieldsOf ho hd ?_)
 simp only[show Builtin.Dict_items.ownsTuple "dict_keyiterator"=false by decide,Bool.false_eq_true,if_false]
 show wpAny _ _ (if(Value.ref d==Value.none)=true then _ else _) _ _ s
 rw[if_neg (show ¬ ((Value.ref d==Value.none)=true)from Bool.false_ne_true)]
 refine wpAny_bind (wpAny_pure (wpAny_bind (wpAny_dictEntries x.at_ x.data ?_)))
 rw[if_neg (by simp)]
 refine wpAny_bind (wpAny_pure (wpAny_bind (wpAny_dictEpoch x.at_ x.data ?_)))
 rw[if_neg (by simp)]
 refine wpAny_pure ?_
 simp only[show ¬ ((i:Int)<0)from by omega,if_false,Int.toNat_natCast,he]
 refine wpAny_bind ?_
 first | refine wpAny_bind (wpAny_typeNameOfWhole_keyiter hit.typeIs (wpAny_pure ?_)) | refine wpAny_bind (wpAny_typeNameOf_keyiter hit.typeIs (wpAny_pure ?_))
 refine wpAny_bind (wpAny_isOneOf_keyiter hit.typeIs ?_)
 show wpAny _ _ (setField (.ref it) 1 (rawInt ((i:Int)+1)) >>= _) _ _ s
 refine wpAny_bind (wpAny_setField ho hd (by simp) ?_)
 have hit':(s.heap.update it (Obj.mapFields (·.setIfInBounds 1 (rawInt ((i:Int)+1))))).IsKeyIter it d (i+1) es.size ep:=
  ⟨_,Heap.get?_update_self _ ho (Obj.isFreed_of_fields (Obj.data_mapFields hd _)),(Obj.cls_mapFields ..).trans hc,by rw[Obj.data_mapFields hd];simp[rawInt]⟩
 refine wpAny_bind (wpAny_holding (wpAny_bind (wpAny_isOneOf_keyiter (s:={ s with heap:=s.heap.update it (Obj.mapFields (·.setIfInBounds 1 (rawInt ((i:Int)+1)))) }) hit'.typeIs ?_)))
 show wpAny _ _ (pure e.key) _ _ _
 exact wpAny_pure (wpAny_pure ⟨_,rfl,wpAny_pure (hQ _ hit' (Heap.SameBut.update ..))⟩)
theorem Rc {Q:Option Value→Shared→Prop}(hh:A.handled=none)(hit:s.heap.IsKeyIter it d i es.size ep)(x:LI s.heap d o es ep)(he:es.size≤i)
 (hQ:∀ h',Heap.ExtBut it s.heap h'→Q none { s with heap:=h' }):wpAny (model P w) A (pyNext (.ref it)) Q E s:=by
 obtain⟨oi,ho,hc,hd⟩:=id hit
 unfold pyNext
 refine wpAny_bind (wpAny_attempt (wpAny_callSpecial?_slot (name:=Str.ofString "__next__") hit.typeIs F.slot_dict_keyiterator_next
  (wpAny_call_entry F.slot_dict_keyiterator_next hit.typeIs F.entry_dict_keyiterator_next (wpAny_bind (wpAny_pure (wpAny_bind (wpAny_bind ?_)))) (F.args_dict_keyiterator_next_1 _))))
 first | refine wpAny_bind (wpAny_typeNameOfWhole_keyiter hit.typeIs (wpAny_pure ?_)) | refine wpAny_bind (wpAny_typeNameOf_keyiter hit.typeIs (wpAny_pure ?_))
 refine wpAny_bind (wpAny_fieldsOf ho hd ?_)
 simp only[show Builtin.Dict_items.ownsTuple "dict_keyiterator"=false by decide,Bool.false_eq_true,if_false]
 show wpAny _ _ (if(Value.ref d==Value.none)=true then _ else _) _ _ s
 rw[if_neg (show ¬ ((Value.ref d==Value.none)=true)from Bool.false_ne_true)]
 refine wpAny_bind (wpAny_pure (wpAny_bind (wpAny_dictEntries x.at_ x.data ?_)))
 rw[if_neg (by simp)]
 refine wpAny_bind (wpAny_pure (wpAny_bind (wpAny_dictEpoch x.at_ x.data ?_)))
 rw[if_neg (by simp)]
 refine wpAny_pure ?_
 simp only[show ¬ ((i:Int)<0)from by omega,if_false,Int.toNat_natCast,Array.getElem?_eq_none he]
 refine wpAny_bind ?_
 first | refine wpAny_bind (wpAny_typeNameOfWhole_keyiter hit.typeIs (wpAny_pure ?_)) | refine wpAny_bind (wpAny_typeNameOf_keyiter hit.typeIs (wpAny_pure ?_))
 show wpAny _ _ (setField (.ref it) 0 .none >>= _) _ _ s
 refine wpAny_bind (wpAny_setField ho hd (by simp) ?_)
 show wpAny _ _ (newExc (.type "StopIteration") [] >>= _) _ _ _
 refine wpAny_bind ?_
 simp only[newExc,newTuple]
 refine wpAny_bind (wpAny_newObj_type ?_ (by size_fits))
 refine wpAny_bind (m:=firstArgMember _ _) (wpAny_of_eq (a:=Value.none) (by first | rfl | (simp only[firstArgMember];rfl)) ?_)
 refine wpAny_newObj_type ?_ (by size_fits)
 simp only[raiseNew]
 refine wpAny_bind (wpAny_handled ?_)
 rw[show A.in1.handled=none from hh]
 refine wpAny_bind (wpAny_pure (wpAny_throw ?_))
 refine wpAny_bind (wpAny_isInstance (T:="StopIteration") (b:=true) ⟨_,Heap.get?_push_size _ rfl,rfl⟩ isSubtype_stop ?_)
 exact wpAny_pure (hQ _ (((Heap.SameBut.update ..).extBut.push _).push _))
end
section
variable {X:Cx}
def Xe (K:PySem.W.Frag):R2:=fun x y H Q=>∃ a b xs,x=.ref a∧y=.ref b∧As K H a xs∧As K H b []∧Q (.bl (!xs.isEmpty)) H
theorem T1 (hu:X.A.units<cLine):FS X (compareOp .NotEq) (Xe X.K):=by
 intro pins s σ H x y v u Q I rx ry h
 obtain⟨a,b,xs,rfl,rfl,ha,hb,q⟩:=h
 cases xs with
 | nil=>exact Tw hu pins s σ H _ _ v u Q I rx ry ⟨a,b,[],[],rfl,rfl,ha,hb,rfl,rfl,q⟩
 | cons x0 xs=>
  cases rx
  cases ry
  obtain⟨its,r1,p1,_⟩:=I.list ha
  obtain⟨its2,r2,p2,_⟩:=I.list hb
  have l1:=r1.length
  have l2:=r2.length
  have hne:(its.toArray.size != its2.toArray.size)=true:=by
   rw[List.size_toArray,List.size_toArray,← l1,← l2]
   simp
  exact SeqAt.RcNeAt.lists_lengths p1.isList p2.isList hne hu X.prog X.w X.xe _ ⟨.bl true,H,I,rfl,q⟩
theorem Pm {tb:TE}{σ:St}{H:Hp}{Q:VK}{x y:Bool}(h2:Q (.bl y) H→tb σ H Q)(h:Q (.bl (x&&y)) H):∃ c,V.bl x=.bl c∧if c=true then tb σ H Q else Q (.bl false) H:=by
 refine⟨x,rfl,?_⟩
 cases x with
 | false=>exact AY h
 | true=>exact AU (h2 h)
end
end L2
namespace StrT
open PySem PySem.W PyProof.Rows
section
variable {N:Nat}{lt:Nat→Nat→Bool}
def Wp {α:Type}(N:Nat)(lt:Nat→Nat→Bool):KasT α→(α→Prop)→Prop
 | .ret a,P=>P a
 | .ask i j k,P=>i<N∧j<N∧Wp N lt (k (lt i j)) P
theorem Wp.mono {α:Type}{P P':α→Prop}(hp:∀ a,P a→P' a):∀{t:KasT α},Wp N lt t P→Wp N lt t P'
 | .ret a,h=>hp a h
 | .ask _ _ _,h=>⟨h.1,h.2.1,Wp.mono hp h.2.2⟩
theorem Wp.bind {α β:Type}{f:α→KasT β}{P:β→Prop}:∀{t:KasT α},Wp N lt t (fun a=>Wp N lt (f a) P)→Wp N lt (t.bind f) P
 | .ret _,h=>h
 | .ask _ _ _,h=>⟨h.1,h.2.1,Wp.bind h.2.2⟩
structure Ord (lt:Nat→Nat→Bool):Prop where
 tr:∀ a b c,lt b a=false→lt c b=false→lt c a=false
 as:∀ a b,lt a b=true→lt b a=false
theorem Ord.rf (o:Ord lt)(a:Nat):lt a a=false:=by
 cases h:lt a a with
 | false=>rfl
 | true=>exact(o.as a a h).symm▸h.symm▸h
def gg (p:Array Nat)(i:Nat):Nat:=p.getD i 0
def Up (lt:Nat→Nat→Bool)(p:Array Nat)(k:Nat):Prop:=∀ i j,i≤j→j<k→lt (gg p j) (gg p i)=false
def Dn (lt:Nat→Nat→Bool)(p:Array Nat)(k:Nat):Prop:=∀ i j,i≤j→j<k→lt (gg p i) (gg p j)=false
structure Bs (N:Nat)(p₀ p:Array Nat):Prop where
 sz:p.size=N
 bd:∀ i,gg p i<N
 pm:p.Perm p₀
theorem De {p:Array Nat}{i j:Nat}(hj:j≤p.size)(k:Nat):gg (kas_rev p i j) k=if i≤k∧k<j then gg p (i+j-1-k)else gg p k:=by
 unfold gg kas_rev
 rw[Array.getD_eq_getD_getElem?,getElem?_mirror_all hj]
 split <;> rw[Array.getD_eq_getD_getElem?]
theorem Ma {p:Array Nat}{s d:Nat}(hs:s<p.size)(hd:d≤s)(k:Nat):gg (bubble p s d) k=if k=s-d then gg p s else if s-d<k∧k≤s then gg p (k-1)else gg p k:=by
 unfold gg
 rw[Array.getD_eq_getD_getElem?,Array.getD_eq_getD_getElem?,Array.getD_eq_getD_getElem?,Array.getD_eq_getD_getElem?,getElem?_bubble hs d hd]
 by_cases h1:k=s-d
 ·rw[if_pos h1,if_pos h1]
 ·rw[if_neg h1,if_neg h1]
  by_cases h2:s-d<k∧k≤s
  ·rw[if_pos h2,if_pos h2]
  ·rw[if_neg h2,if_neg h2]
theorem Bs.rev {p₀ p:Array Nat}(b:Bs N p₀ p){i j:Nat}(hj:j≤N):Bs N p₀ (kas_rev p i j) where
 sz:=by rw[show(kas_rev p i j).size=p.size from mirror_size _ _ _ _];exact b.sz
 bd:=fun k=>by rw[De (by rw[b.sz];exact hj)];split <;> exact b.bd _
 pm:=(mirror_perm _ _ _ _).trans b.pm
theorem Bs.bub {p₀ p:Array Nat}(b:Bs N p₀ p){s d:Nat}(hs:s<N)(hd:d≤s):Bs N p₀ (bubble p s d) where
 sz:=by rw[bubble_size];exact b.sz
 bd:=fun k=>by
  rw[Ma (by rw[b.sz];exact hs) hd]
  split
  ·exact b.bd _
  ·split <;> exact b.bd _
 pm:=(bubble_perm _ _ _).trans b.pm
theorem NY (o:Ord lt){p:Array Nat}{n:Nat}(u:Up lt p n)(hn:1≤n)(h:lt (gg p n) (gg p (n-1))=false):Up lt p (n+1):=by
 intro i j hij hj
 rcases Nat.lt_or_ge j n with hjn | hjn
 ·exact u i j hij hjn
 ·have e:j=n:=by omega
  subst e
  rcases Nat.lt_or_ge i j with hi | hi
  ·exact o.tr _ _ _ (u i (j-1) (by omega) (by omega)) h
  ·have e:i=j:=by omega
   subst e;exact o.rf _
theorem He (o:Ord lt){p:Array Nat}{n:Nat}(u:Dn lt p n)(hn:1≤n)(h:lt (gg p (n-1)) (gg p n)=false):Dn lt p (n+1):=by
 intro i j hij hj
 rcases Nat.lt_or_ge j n with hjn | hjn
 ·exact u i j hij hjn
 ·have e:j=n:=by omega
  subst e
  rcases Nat.lt_or_ge i j with hi | hi
  ·exact o.tr _ _ _ h (u i (j-1) (by omega) (by omega))
  ·have e:i=j:=by omega
   subst e;exact o.rf _
theorem Vg (o:Ord lt){p₀ p:Array Nat}(b:Bs N p₀ p):∀(f n:Nat),1≤n→n+f≤N→Up lt p n→Wp N lt (kas_asc p f n) (fun m=>n≤m∧m≤n+f∧Up lt p m)
 | 0,n,_,_,u=>⟨Nat.le_refl _,Nat.le_refl _,u⟩
 | f+1,n,h1,hf,u=>by
  refine⟨b.bd _,b.bd _,?_⟩
  cases hc:lt (p.getD n 0) (p.getD (n-1) 0)with
  | true=>exact⟨Nat.le_refl _,by omega,u⟩
  | false=>
   exact Wp.mono (fun m h=>⟨by omega,by omega,h.2.2⟩) (Vg o b f (n+1) (by omega) (by omega) (NY o u h1 hc))
def Ww (lt:Nat→Nat→Bool)(p:Array Nat)(n q:Nat):Prop:=q+1≤n∧∀ i j,n-(q+1)≤i→i<n→n-(q+1)≤j→j<n→lt (gg p i) (gg p j)=false
theorem Pn {p:Array Nat}{n q:Nat}(hn:n≤p.size)(d:Dn lt p n)(e:Ww lt p n q):Dn lt (kas_rev p (n-(q+1)) n) n:=by
 intro i j hij hj
 rw[De hn,De hn]
 have h1:=e.1
 split
 ·split
  ·exact e.2 _ _ (by omega) (by omega) (by omega) (by omega)
  ·omega
 ·split
  ·exact d _ _ (by omega) (by omega)
  ·exact d _ _ hij hj
theorem NZ {p:Array Nat}{n a:Nat}(hn:n≤p.size):gg (kas_rev p a n) n=gg p n:=by rw[De hn];split <;> first | omega | rfl
theorem Na (o:Ord lt){p₀:Array Nat}:∀(f:Nat) (p:Array Nat) (n q:Nat),Bs N p₀ p→1≤n→n+f≤N→Dn lt p n→Ww lt p n q→
 Wp N lt (kas_desc f p n q) (fun r=>Bs N p₀ r.1∧n≤r.2.1∧r.2.1≤n+f∧Dn lt r.1 r.2.1∧Ww lt r.1 r.2.1 r.2.2)
 | 0,p,n,q,b,_,_,d,e=>⟨b,Nat.le_refl _,Nat.le_refl _,d,e⟩
 | f+1,p,n,q,b,h1,hf,d,e=>by
  have he:=e.1
  refine⟨b.bd _,b.bd _,?_⟩
  cases hc:lt (p.getD n 0) (p.getD (n-1) 0)with
  | true=>
   have one:∀ p':Array Nat,Ww lt p' (n+1) 0:=fun p'=>⟨by omega,fun i j h1 h2 h3 h4=>by
    have e1:i=n:=by omega
    have e2:j=n:=by omega
    subst e1;subst e2;exact o.rf _⟩
   simp only[if_true]
   split
   ·have b':=b.rev (i:=n-(q+1)) (j:=n) (by omega)
    have dd:=Pn (by rw[b.sz];omega) d e
    have hl:lt (gg (kas_rev p (n-(q+1)) n) (n-1)) (gg (kas_rev p (n-(q+1)) n) n)=false:=by
     rw[NZ (by rw[b.sz];omega),De (by rw[b.sz];omega),if_pos (by omega)]
     refine o.tr _ _ _ (o.as _ _ hc) ?_
     exact e.2 _ _ (by omega) (by omega) (by omega) (by omega)
    exact Wp.mono (fun r h=>⟨h.1,by omega,by omega,h.2.2.2⟩) (Na o f _ (n+1) 0 b' (by omega) (by omega) (He o dd h1 hl) (one _))
   ·exact Wp.mono (fun r h=>⟨h.1,by omega,by omega,h.2.2.2⟩) (Na o f _ (n+1) 0 b (by omega) (by omega) (He o d h1 (o.as _ _ hc)) (one _))
  | false=>
   simp only[Bool.false_eq_true,if_false]
   refine⟨b.bd _,b.bd _,?_⟩
   cases hd:lt (p.getD (n-1) 0) (p.getD n 0)with
   | true=>exact⟨b,Nat.le_refl _,by show n≤_;omega,d,e⟩
   | false=>
    simp only[Bool.false_eq_true,if_false]
    have lo:∀ i,n+1-(q+1+1)≤i→i<n+1→lt (gg p i) (gg p (n-1))=false∧lt (gg p (n-1)) (gg p i)=false:=fun i h2 h3=>by
     rcases Nat.lt_or_ge i n with h4 | h4
     ·exact⟨e.2 _ _ (by omega) (by omega) (by omega) (by omega),e.2 _ _ (by omega) (by omega) (by omega) (by omega)⟩
     ·have ei:i=n:=by omega
      subst ei;exact⟨hc,hd⟩
    refine Wp.mono (fun r h=>⟨h.1,by omega,by omega,h.2.2.2⟩) (Na o f p (n+1) (q+1) b (by omega) (by omega) (He o d h1 hd) ⟨by omega,fun i j a1 a2 a3 a4=>?_⟩)
    exact o.tr _ _ _ (lo j a3 a4).2 (lo i a1 a2).1
theorem Po {p:Array Nat}{n:Nat}(hn:n≤p.size)(d:Dn lt p n):Up lt (kas_rev p 0 n) n:=by
 intro i j hij hj
 rw[De hn,De hn,if_pos (by omega),if_pos (by omega)]
 exact d _ _ (by omega) (by omega)
theorem Pp (o:Ord lt){p₀ p:Array Nat}(b:Bs N p₀ p){n:Nat}(h1:1≤n)(hn:n≤N)(d:Dn lt p n):
 Wp N lt (kas_tail3 n N p) (fun r=>1≤r.1∧r.1≤N∧Bs N p₀ r.2∧Up lt r.2 r.1):=by
 refine Wp.bind (Wp.mono ?_ (Vg o (b.rev (i:=0) (j:=n) hn) (N-n) n h1 (by omega) (Po (by rw[b.sz];exact hn) d)))
 rintro m ⟨a1,a2,a3⟩
 exact⟨by show 1≤m;omega,by show m≤N;omega,b.rev hn,a3⟩
theorem Jf (o:Ord lt){p₀ p:Array Nat}(b:Bs N p₀ p){n:Nat}(h1:1≤n)(hn:n+1≤N)(d:Dn lt p n)(hl:lt (gg p n) (gg p (n-1))=true):
 Wp N lt (kas_descPart n N p) (fun r=>1≤r.1∧r.1≤N∧Bs N p₀ r.2∧Up lt r.2 r.1):=by
 refine Wp.bind (Wp.mono ?_ (Na o (N-(n+1)) p (n+1) 0 b (by omega) (by omega) (He o d h1 (o.as _ _ hl)) ⟨by omega,fun i j a1 a2 a3 a4=>?_⟩))
 ·rintro⟨p',m,q⟩ ⟨b',a1,a2,a3,a4⟩
  dsimp only at *
  have a5:=a4.1
  split
  ·exact Pp o (b'.rev (by omega)) (by omega) (by omega) (Pn (by rw[b'.sz];omega) a3 a4)
  ·exact Pp o b' (by omega) (by omega) a3
 ·have e1:i=n:=by omega
  have e2:j=n:=by omega
  subst e1;subst e2;exact o.rf _
theorem Sq (o:Ord lt){p₀ p:Array Nat}(b:Bs N p₀ p):∀(f n:Nat),1≤n→n+f≤N→Up lt p n→Wp N lt (kas_asc p f n) (fun m=>n≤m∧m≤n+f∧Up lt p m∧(m<n+f→lt (gg p m) (gg p (m-1))=true))
 | 0,n,_,_,u=>⟨Nat.le_refl _,Nat.le_refl _,u,fun h=>absurd h (Nat.lt_irrefl _)⟩
 | f+1,n,h1,hf,u=>by
  refine⟨b.bd _,b.bd _,?_⟩
  cases hc:lt (p.getD n 0) (p.getD (n-1) 0)with
  | true=>exact⟨Nat.le_refl _,by omega,u,fun _=>hc⟩
  | false=>
   exact Wp.mono (fun m h=>⟨by omega,by omega,h.2.2.1,fun h'=>h.2.2.2 (by omega)⟩) (Sq o b f (n+1) (by omega) (by omega) (NY o u h1 hc))
theorem T2 (o:Ord lt){p₀ p:Array Nat}(b:Bs N p₀ p)(hN:1≤N):Wp N lt (kas_count N p) (fun r=>1≤r.1∧r.1≤N∧Bs N p₀ r.2∧Up lt r.2 r.1):=by
 refine Wp.bind (Wp.mono ?_ (Sq o b (N-1) 1 (Nat.le_refl _) (by omega) (fun i j hij hj=>?_)))
 ·rintro n ⟨a1,a2,a3,a4⟩
  split
  ·exact⟨a1,by show n≤N;omega,b,a3⟩
  ·rename_i hne
   have hlt:n<N:=by
    have:n≠N:=fun e=>hne (by rw[e];exact beq_self_eq_true N)
    omega
   have hl:=a4 (by omega)
   split
   ·refine⟨b.bd _,b.bd _,?_⟩
    cases hc:lt (p.getD 0 0) (p.getD (n-1) 0)with
    | true=>exact⟨a1,by show n≤N;omega,b,a3⟩
    | false=>
     simp only[Bool.false_eq_true,if_false]
     have al:∀ i j,i<n→j<n→lt (gg p i) (gg p j)=false:=fun i j hi hj=>
      o.tr _ _ _ (a3 j (n-1) (by omega) (by omega)) (o.tr _ _ _ hc (a3 0 i (by omega) hi))
     have hz:n≤p.size:=by rw[b.sz];omega
     refine Jf o (b.rev (by omega)) a1 (by omega) (fun i j hij hj=>?_) ?_
     ·rw[De hz,De hz,if_pos (by omega),if_pos (by omega)]
      exact al _ _ (by omega) (by omega)
     ·rw[NZ hz,De hz,if_pos (by omega)]
      cases h5:lt (gg p n) (gg p (0+n-1-(n-1)))with
      | true=>rfl
      | false=>exact absurd (o.tr _ _ _ (al (n-1) (0+n-1-(n-1)) (by omega) (by omega) |> fun _=>al (0+n-1-(n-1)) (n-1) (by omega) (by omega)) h5) (by rw[hl];exact Bool.noConfusion)
   ·have e1:n=1:=by omega
    subst e1
    refine Jf o b a1 (by omega) (fun i j hij hj=>?_) hl
    have e1:i=0:=by omega
    have e2:j=0:=by omega
    subst e1;subst e2;exact o.rf _
 ·have e1:i=0:=by omega
  have e2:j=0:=by omega
  subst e1;subst e2;exact o.rf _
theorem Mb (o:Ord lt){p₀ p:Array Nat}(b:Bs N p₀ p){k:Nat}(hk:k<N)(u:Up lt p k):∀(f l r:Nat),l≤r→r≤k→r-l≤f→(∀ i,i<l→lt (gg p k) (gg p i)=false)→(∀ i,r≤i→i<k→lt (gg p k) (gg p i)=true)→
 Wp N lt (kas_place p k f l r) (fun m=>m≤k∧(∀ i,i<m→lt (gg p k) (gg p i)=false)∧(∀ i,m≤i→i<k→lt (gg p k) (gg p i)=true))
 | 0,l,r,h1,h2,h3,h4,h5=>⟨by omega,h4,fun i a1 a2=>h5 i (by omega) a2⟩
 | f+1,l,r,h1,h2,h3,h4,h5=>by
  unfold kas_place
  split
  ·exact⟨by omega,h4,fun i a1 a2=>h5 i (by omega) a2⟩
  ·refine⟨b.bd _,b.bd _,?_⟩
   cases hc:lt (p.getD k 0) (p.getD ((l+r) / 2) 0)with
   | true=>
    simp only[if_true]
    refine Mb o b hk u f l ((l+r) / 2) (by omega) (by omega) (by omega) h4 fun i a1 a2=>?_
    cases hx:lt (gg p k) (gg p i)with
    | true=>rfl
    | false=>exact absurd (o.tr _ _ _ (u ((l+r) / 2) i a1 a2) hx) (by rw[show lt (gg p k) (gg p ((l+r) / 2))=true from hc];exact Bool.noConfusion)
   | false=>
    simp only[Bool.false_eq_true,if_false]
    refine Mb o b hk u f ((l+r) / 2+1) r (by omega) h2 (by omega) (fun i a1=>?_) h5
    exact o.tr _ _ _ (u i ((l+r) / 2) (by omega) (by omega)) hc
theorem Vh (o:Ord lt){p₀:Array Nat}:∀(f:Nat) (p:Array Nat) (k:Nat),Bs N p₀ p→k+f=N→1≤k→Up lt p k→Wp N lt (kas_bin f p k) (fun p'=>Bs N p₀ p'∧Up lt p' N)
 | 0,p,k,b,h1,_,u=>⟨b,(show k=N by omega)▸u⟩
 | f+1,p,k,b,h1,hk,u=>by
  refine Wp.bind (Wp.mono ?_ (Mb o b (by omega) u k 0 k (by omega) (by omega) (by omega) (fun i h=>absurd h (by omega)) (fun i a1 a2=>absurd a1 (by omega))))
  rintro l ⟨a1,a2,a3⟩
  refine Vh o f _ (k+1) (b.bub (by omega) (by omega)) (by omega) (by omega) fun i j hij hj=>?_
  have hz:k<p.size:=by rw[b.sz];omega
  rw[Ma hz (by omega),Ma hz (by omega)]
  have e:k-(k-l)=l:=by omega
  rw[e]
  by_cases c1:j=l
  ·rw[if_pos c1]
   by_cases c2:i=l
   ·rw[if_pos c2];exact o.rf _
   ·rw[if_neg c2,if_neg (by omega)];exact a2 _ (by omega)
  ·rw[if_neg c1]
   by_cases c3:l<j∧j≤k
   ·rw[if_pos c3]
    by_cases c2:i=l
    ·rw[if_pos c2];exact o.as _ _ (a3 _ (by omega) (by omega))
    ·rw[if_neg c2]
     by_cases c4:l<i∧i≤k
     ·rw[if_pos c4];exact u _ _ (by omega) (by omega)
     ·rw[if_neg c4];exact u _ _ (by omega) (by omega)
   ·rw[if_neg c3,if_neg (by omega),if_neg (by omega)];exact u _ _ hij (by omega)
theorem sort_ (o:Ord lt)(hN:1≤N):Wp N lt (kas_sort N) (fun p=>p.size=N∧p.toList.Perm (List.range N)∧Up lt p N):=by
 have b0:Bs N (List.toArray (List.range N)) (List.toArray (List.range N)):=⟨by simp,fun i=>by
  unfold gg
  rw[Array.getD_eq_getD_getElem?]
  simp only[List.getElem?_toArray,List.getElem?_range]
  by_cases h:i<N
  ·simp[h]
  ·simp[h];omega,Array.Perm.refl _⟩
 refine Wp.bind (Wp.mono ?_ (T2 o b0 hN))
 rintro⟨m,p⟩ ⟨a1,a2,a3,a4⟩
 dsimp only at *
 have pl:∀ q:Array Nat,Bs N (List.toArray (List.range N)) q→q.toList.Perm (List.range N):=fun q b=>by
  have:=Array.perm_iff_toList_perm.mp b.pm
  simpa using this
 split
 ·have e:max m 1=m:=by omega
  rw[e]
  exact Wp.mono (fun q h=>⟨h.1.sz,pl q h.1,h.2⟩) (Vh o (N-m) p m a3 (by omega) a1 a4)
 ·have e:m=N:=by omega
  subst e
  exact⟨a3.sz,pl p a3,a4⟩
end
end StrT
namespace L2
open PySem PySem.Spec PyProof.Rows
def T3 (p q:Int×Int):Bool:=if p.1=q.1 then decide (p.2<q.2)else decide (p.1<q.1)
theorem Nb (k:Nat→Int×Int):StrT.Ord (fun i j=>T3 (k i) (k j)) where
 tr:=fun a b c h1 h2=>by
  simp only[T3]at h1 h2 ⊢
  repeat' split at h1
  all_goals repeat' split at h2
  all_goals repeat' split
  all_goals simp only[decide_eq_false_iff_not,decide_eq_true_eq]at *
  all_goals omega
 as:=fun a b h1=>by
  simp only[T3]at h1 ⊢
  repeat' split at h1
  all_goals repeat' split
  all_goals simp only[decide_eq_false_iff_not,decide_eq_true_eq]at *
  all_goals omega
theorem Jg:bootBuiltins "sorted"=some (.builtin "sorted"):=by nofun
section
variable {P:Program}{w:World}{A:Around}{E:Value→Shared→Prop}{s:Shared}
theorem Sr {α:Type}{N:Nat}{lt:Nat→Nat→Bool}{cmp:Nat→Nat→(Bool→Shared→Prop)→Shared→Prop}(hc:∀ i j C,i<N→j<N→C (lt i j) s→cmp i j C s){R:α→Prop}{Q:α→Shared→Prop}(hq:∀ a,R a→Q a s):
 ∀{t:PySem.W.KasT α},StrT.Wp N lt t R→t.kasWp cmp Q s
 | .ret a,h=>hq a h
 | .ask i j k,h=>hc i j _ h.1 h.2.1 (Sr hc hq h.2.2)
theorem DU {α β:Type}{F:α→β→Prop}{d:α}{e:β}:∀{xs:List α} {ys:List β},Paired F xs ys→∀{j:Nat},j<xs.length→F (xs.getD j d) (ys.getD j e)
 | _,_,.nil,_,h=>absurd h (Nat.not_lt_zero _)
 | _,_,.cons r _,0,_=>r
 | _,_,.cons _ t,j+1,h=>by simpa using DU t (d:=d) (e:=e) (j:=j) (by simpa using h)
theorem Fe {α β γ:Type}{F:α→β→Prop}{f:γ→α}{g:γ→β}:∀{zs:List γ},(∀ z∈zs,F (f z) (g z))→Paired F (zs.map f) (zs.map g)
 | [],_=>.nil
 | z::zs,h=>.cons (h z (List.mem_cons_self ..)) (Fe fun z' hz=>h z' (List.mem_cons_of_mem _ hz))
theorem Mc {α:Type}(d:α)(xs:List α):(List.range xs.length).map (fun i=>xs.getD i d)=xs:=by
 apply List.ext_getElem
 ·simp
 ·intro i h1 h2
  simp at h1
  simp[h1]
end
section
variable {X:Cx}
theorem Ps {xs:List V}{us:List Value}(r:A3 xs us):A3 xs.reverse us.reverse:=by
 induction r with
 | nil=>exact .nil
 | cons r _ ih=>
  rw[List.reverse_cons,List.reverse_cons]
  exact A3.append ih (.cons r .nil)
end
structure M2 (X:Cx)(o:Expr)(m:Str)(apos:Pos)(e f:Expr)(cpos:Pos):Prop where
 base:attributeBase o m X.env (eval o X.env)=eval o X.env
 few:((backTo cpos (starEach [e,f] X.env)).all (fun x=>!x.1)&&(backToKw cpos (keywordEach [] X.env)).all (fun x=>x.1.isSome)
  && decide (([e,f]:List Expr).length+([]:List Keyword).length+(if([]:List Keyword).isEmpty then 0 else 1)<30))=true
 line:(apos.endLine==cpos.line)=true
 trees:backTo cpos (starEach [e,f] X.env)=[(false,eval e X.env),(false,eval f X.env)]
def EX (w:World)(kv:BY×V)(e:DictEntry):Prop:=Hn kv.1 e.key=true∧e.hash=VA w kv.1∧Aw kv.2 e.val
def T4 (w:World)(o:Obj)(kvs:List (BY×V)):Prop:=o.ExactDict∧∃ es ep,o.data=.dict es ep∧Paired (EX w) kvs es.toList∧(kvs.map (·.1)).Nodup
def OX (w:World)(K:PySem.W.Frag)(a:Addr)(kvs:List (BY×V)):Prop:=∃ ob,K.lookup a=some ob∧T4 w ob kvs∧(a==sysModules)=false
theorem Nc {P:Program}{w:World}:∀{kvs:List (BY×V)} {es:List DictEntry},Paired (EX w) kvs es→∃ vs:List (BY×Value),KV kvs vs∧Pairs (Bf P w) es vs∧vs.map (·.1)=kvs.map (·.1)∧∀ e∈es,∃ k,(Bf P w).is k e.key=true∧e.hash=(Bf P w).hash k
 | _,_,.nil=>⟨[],.nil,.nil,rfl,fun _ h=>nomatch h⟩
 | (kv::_),(e::_),.cons r t=>by
  obtain⟨vs,h1,h2,h3,h4⟩:=Nc (P:=P) t
  obtain⟨q1,q2,q3⟩:=r
  refine⟨(kv.1,e.val)::vs,.cons ⟨rfl,q3⟩ h1,.cons q1 rfl h2,by rw[List.map_cons,List.map_cons,h3],fun x hx=>?_⟩
  rcases List.mem_cons.mp hx with z | z
  ·rw[z];exact⟨kv.1,q1,q2⟩
  ·exact h4 x z
section
variable {X:Cx}{pins:List (Addr×Obj)}{σ:St}{H:Hp}{s:Shared}{a:Addr}{kvs:List (BY×V)}
theorem OX.at (I:Ap X pins σ H s)(d:OX X.w X.K a kvs):∃ vs,KV kvs vs∧s.heap.DictOf (Bf X.prog X.w) a vs∧∃ ob,s.heap.get? a=some ob∧ob.dict=none:=by
 obtain⟨ob,hk,⟨hx,es,ep,hd,hp,hn⟩,_⟩:=d
 obtain⟨vs,h1,h2,h3,h4⟩:=Nc (P:=X.prog) hp
 refine⟨vs,h1,⟨ob,es,ep,I.kIn a ob hk,hx,hd,fun e he=>h4 e (Array.mem_def.mp he),h2,by rw[h3];exact hn⟩,ob,I.kIn a ob hk,hx.2.1⟩
end
def T5 (w:World)(K:PySem.W.Frag)(mg:Str→Option Value)(x:Str)(kvs:List (BY×V)):Prop:=∃ a,mg x=some (.ref a)∧OX w K a kvs
def Yj (w:World)(K:PySem.W.Frag)(kvs:List (BY×V)):TE:=fun _ H Q=>∀ a,OX w K a kvs→Q (.ref a) H
theorem Re {X:Cx}{x:Str}{kvs:List (BY×V)}{pos:Pos}(hm:T5 X.w X.K X.mg x kvs)(hg:Gl X x:=by rfl)(hd:(x==("__debug__":Str))=false:=by decide):PE X (.Name x pos) (Yj X.w X.K kvs):=by
 obtain⟨a,h,k⟩:=hm
 intro pins s σ H Q I q
 exact DQ I hg h ⟨.ref a,H,I,rfl,q a k⟩ hd
def Vi (w:World)(K:PySem.W.Frag)(mg:Str→Option Value)(x:Str)(kts:List (BY×List V)):Prop:=∃ kvs,T5 w K mg x kvs∧Paired (fun(kv:BY×V) (kt:BY×List V)=>kv.1=kt.1∧∃ a,kv.2=.ref a∧∀ H,A0 K H a kt.2) kvs kts
def Xf (w:World)(K:PySem.W.Frag)(kts:List (BY×List V)):TE:=fun _ H Q=>∀ a kvs,OX w K a kvs→Paired (fun(kv:BY×V) (kt:BY×List V)=>kv.1=kt.1∧∃ a,kv.2=.ref a∧∀ H,A0 K H a kt.2) kvs kts→Q (.ref a) H
theorem Rf {X:Cx}{x:Str}{kts:List (BY×List V)}{pos:Pos}(hm:Vi X.w X.K X.mg x kts)(hg:Gl X x:=by rfl)(hd:(x==("__debug__":Str))=false:=by decide):PE X (.Name x pos) (Xf X.w X.K kts):=by
 obtain⟨kvs,⟨a,h,k⟩,p⟩:=hm
 intro pins s σ H Q I q
 exact DQ I hg h ⟨.ref a,H,I,rfl,q a kvs k p⟩ hd
section
variable {X:Cx}{o i e f:Expr}{pos apos cpos:Pos}{td ty te tf:TE}
def T6 (w:World)(K:PySem.W.Frag)(td ty tx:TE):TE:=fun σ H Q=>td σ H fun x H1=>∃ a kvs,x=.ref a∧OX w K a kvs∧ty σ H1 fun y H2=>tx σ H2 fun z H3=>∃ k,y=kV k∧Q ((EE kvs k).getD z) H3
theorem LJ (ho:PE X o td)(he:PE X e te)(hf:PE X f tf)(m:M2 X o "get" apos e f cpos):PE X (.Call (.Attribute o "get" apos) [e,f] [] cpos) (T6 X.w X.K td te tf):=by
 intro pins s σ H Q I h
 refine wpAny_Call_method m.base m.few m.line PySem.F.plainAttrs_dict PySem.F.slot_dict_get PySem.F.type_dict_get (Bq (ho pins s σ H _ I h) fun u s1 zq=>?_)
 obtain⟨x,H1,I1,rx,a,kvs,ex,d,q1⟩:=zq
 subst ex
 obtain rfl:u=Value.ref a:=rx
 obtain⟨_,_,dd,ob,hob,hno⟩:=d.at I1
 refine⟨dd.typeIs,fun b q=>by cases q;exact⟨ob,hob,hno⟩,?_⟩
 rw[m.trees]
 refine Calls.callWith_builtin rfl (Calls.evalArgs_plain (Calls.spliced_cons (Bq (he pins s1 σ H1 _ I1 q1) fun iv s2 ⟨y,H2,I2,ry,q2⟩=>
  Calls.spliced_cons (Bq (hf pins s2 σ H2 _ I2 q2) fun fv s3 ⟨z,H3,I3,rz,k,ey,q3⟩=>Calls.spliced_nil ?_))))
 subst ey
 obtain⟨vs3,rel3,dd3,_⟩:=d.at I3
 refine call_meetsIn PySem.F.slot_dict_get dd3.typeIs PySem.F.entry_dict_get (PySem.F.args_dict_get_3 _ _ _) (meets_dict_get_default (Bf X.prog X.w) a (NW ry) d.choose_spec.2.2 fv) ⟨_,dd3.mapOf,?_⟩
 exact⟨_,H3,I3.tok _,(rel3.val k).getD rz,q3⟩
end
inductive KC (H:Hp):Nat→V→V→Prop where
 | fl {n:Nat} {x:V} (h:B3 x=true):KC H n x x
 | rf {n:Nat} {a:Addr}:KC H n (.ref a) (.ref a)
 | tp {n:Nat} {a b:Addr} {xs ys:List V} (h1:H a=some (.tup xs)) (h2:H b=some (.tup ys)) (hl:xs.length=ys.length)
  (hh:∀(j:Nat) (u v:V),xs[j]?=some u→ys[j]?=some v→KC H n u v):KC H (n+1) (.ref a) (.ref b)
theorem Pt {x:V}(h:B3 x=true):J6 x x=true:=by
 cases x <;> first | rfl | exact absurd (show false=true from h) Bool.false_ne_true | simp[J6]
section
variable {X:Cx}{pins:List (Addr×Obj)}{σ:St}{H:Hp}{s:Shared}
theorem Jh {n:Nat}:(List.range n).all (fun _=>true)=true:=by simp
theorem LK (I:Ap X pins σ H s){n:Nat}{A:Around}{xs ys:List V}{us vs:List Value}(r1:A3 xs us)(r2:A3 ys vs)
 (ih:∀(j:Nat) (u v:V),xs[j]?=some u→ys[j]?=some v→∀ u' v',Aw u u'→Aw v v'→SeqAt.EqAt A s u' v' true):
 ∀ j (h1:j<us.toArray.size) (h2:j<vs.toArray.size),SeqAt.EqAt A s us.toArray[j] vs.toArray[j] ((fun _=>true) j):=by
 intro j h1 h2
 have l1:=r1.length
 have l2:=r2.length
 rw[List.size_toArray]at h1 h2
 have ex:xs[j]?=some (xs[j]'(by omega)):=List.getElem?_eq_getElem _
 have ey:ys[j]?=some (ys[j]'(by omega)):=List.getElem?_eq_getElem _
 obtain⟨u,hu',ru⟩:=r1.get ex
 obtain⟨v,hv',rv⟩:=r2.get ey
 have eu:us.toArray[j]'(by simpa using h1)=u:=by
  rw[List.getElem?_eq_getElem h1]at hu'
  simpa using Option.some.inj hu'
 have ev:vs.toArray[j]'(by simpa using h2)=v:=by
  rw[List.getElem?_eq_getElem h2]at hv'
  simpa using Option.some.inj hv'
 rw[eu,ev]
 exact ih j _ _ ex ey u v ru rv
theorem KC.at (I:Ap X pins σ H s){n:Nat}{x y:V}(h:KC H n x y):∀{A:Around} {u v:Value},A.units+n<cLine→Aw x u→Aw y v→SeqAt.EqAt A s u v true:=by
 induction h with
 | fl hf=>
  intro A u v _ rx ry
  have:=MU (A:=A) (s:=s) rx ry hf hf
  rw[Pt hf]at this
  exact this
 | rf=>
  intro A u v _ rx ry
  cases rx
  cases ry
  exact SeqAt.EqAt.same _
 | @tp n a b xs ys h1 h2 hl hh ih=>
  intro A u v hu rx ry
  cases rx
  cases ry
  by_cases e:a=b
  ·subst e;exact SeqAt.EqAt.same _
  obtain⟨its,r1,p,_⟩:=I.tuple (A0.of h1)
  obtain⟨its2,r2,p2,_⟩:=I.tuple (A0.of h2)
  have rc:=SeqAt.RcAt.tuples (A:=A) (s:=s) (e:=fun _=>true) (show s.heap.IsTuple a its.toArray from p) (show s.heap.IsTuple b its2.toArray from p2) (by omega)
   (LK I (n:=n) r1 r2 fun j u v e1 e2 u' v' ru rv=>ih j u v e1 e2 (A:=A.in1) (show A.units+1+n<cLine by omega) ru rv)
  rw[List.size_toArray,List.size_toArray,← r1.length,← r2.length,Jh,hl]at rc
  exact SeqAt.EqAt.of_refs e (by simpa using rc)
end
section
variable {prog:Program}{w:World}{A:Around}{E:Value→Shared→Prop}{s:Shared}
theorem Rg:typeLookup (.type "list_reverseiterator") "__len__"=pure none:=by rw[typeLookup_type,builtinLookup_eq_fast];kernel_rfl
theorem Pu:typeLookup (.type "list_reverseiterator") "__length_hint__"=pure (some (.builtin "list_reverseiterator.__length_hint__")):=by rw[typeLookup_type,builtinLookup_eq_fast];kernel_rfl
theorem Pw {it l:Addr}{i:Int}{Q:Bool→Shared→Prop}(hit:s.heap.IsRevIter it l i)(h:Q false s):wpAny (model prog w) A (Builtin.List.listLengthHint (.ref it)) Q E s:=by
 unfold Builtin.List.listLengthHint
 refine wpAny_bind (wpAny_specialOf hit.typeIs Rg ?_)
 wp_delta
 refine wpAny_ite_split (fun hab=>absurd hab (by nofun)) (fun _=>?_)
 refine wpAny_ite_split (fun hab=>absurd hab (by decide)) (fun _=>?_)
 refine wpAny_bind (wpAny_specialOf hit.typeIs Pu ?_)
 generalize hid:("list_reverseiterator.__length_hint__":String)=id0
 wp_delta
 rw[show splitId id0=some ("list_reverseiterator","__length_hint__")from by subst hid;nofun]
 subst hid
 refine wpAny_bind (wpAny_isInstance (T:="list_reverseiterator") (b:=true) hit.typeIs (by rw[isSubtype_type];kernel_rfl) ?_)
 refine wpAny_ite_split (fun hab=>absurd hab (by decide)) (fun _=>?_)
 refine wpAny_ite_split (fun _=>?_) (fun hab=>absurd (by nofun) hab)
 refine wpAny_ite_split (fun hab=>absurd hab (by nofun)) (fun _=>?_)
 exact wpAny_pure h
end
section
variable {prog:Program}{w:World}{A:Around}{E:Value→Shared→Prop}{s:Shared}
theorem Md {R:Result→Shared→Prop}{it l:Addr}{items:Array Value}(hh:A.handled=none)(hit:s.heap.IsRevIter it l ((items.size:Int)-1))(hl:s.heap.IsList l items)(hne:l≠it)(hn:items.size≤sizeLine)
 (S:Addr) (hSi:S≠it) (hSl:S≠l) (res:Value) (c₀:Nat) (hS:s.heap.get? S=some { cls:=.type "list",data:=.seq #[] c₀ })
 (hR:∀ h' tk acc' c',(∀ b o,b≠S→b≠it→s.heap.get? b=some o→h'.get? b=some o)→h'.get? S=some { cls:=.type "list",dict:=none,data:=.seq acc' c',slots:=#[] }→
  ItemsOf (fun i v=>items[items.size-1-i]?=some v) acc' items.size→R (.ok (.ret res)) { s with heap:=h',toks:=tk }):
 wpAny (model prog w) A.in1 (Builtin.List.listExtendWith (.ref S) (.ref it) res)
  (fun fin s'=>match fin with | .done f=>R (.ok f) s' | .again c'=>c'.quiet=true∧codeAny (model prog w) A c' R s') (fun e s'=>R (.error e) s') s:=by
 have hSf:S∉[it,l]:=fun hm=>by
  rcases List.mem_cons.mp hm with e | hm
  ·exact hSi e
  ·exact hSl (List.mem_singleton.mp hm)
 have W:=(Walks.listRev (prog:=prog) (w:=w) (A:=A.in1) hh it l hne items).toS
 unfold Builtin.List.listExtendWith
 refine wpAny_bind (wpAny_typeOf (T:="list_reverseiterator") hit.typeIs ?_)
 have h1:Builtin.List.listSameRef (.ref S) (.ref it)=false:=by simp[Builtin.List.listSameRef,hSi]
 have h2:(Value.type "list_reverseiterator"==Value.type "list")=false:=by decide
 have h3:(Value.type "list_reverseiterator"==Value.type "tuple")=false:=by decide
 simp only[h1,h2,h3,Bool.or_false,Bool.false_eq_true,if_false]
 refine wpAny_bind (wpAny_pyIter_revIter hit ?_)
 refine wpAny_bind (wpAny_holding (Pw hit ?_))
 rw[if_neg (by nofun)]
 have e0:(items.size:Int)-1-((0:Nat):Int)=(items.size:Int)-1:=by omega
 refine wpAny_pure ⟨plainId_quiet F.plain_extend_loop _,codeAny_extend_loopS W hn S hSf res items.size 0 s #[] c₀ rfl (Nat.zero_le _) ⟨Nat.zero_le _,by rw[e0];exact hit,hl⟩ hS (ItemsOf.nil _) fun s' acc' c' hm hS' hacc=>?_⟩
 rw[Moved.eq_with hm]
 refine hR s'.heap s'.toks acc' c' (fun b o hb hb2 e=>hm.heap b o (fun hmem=>?_) e) hS' hacc
 rcases List.mem_cons.mp hmem with e' | hmem
 ·exact hb e'
 ·exact hb2 (List.mem_singleton.mp hmem)
theorem JH {R:Result→Shared→Prop}{it l:Addr}{items:Array Value}(hh:A.handled=none)(hit:s.heap.IsRevIter it l ((items.size:Int)-1))(hl:s.heap.IsList l items)(hne:l≠it)(hn:items.size≤sizeLine)
 (S:Addr) (hSi:S≠it) (hSl:S≠l) (hS:s.heap.get? S=some { cls:=.type "list",data:=.seq #[] })
 (hR:∀ h' tk acc' c',(∀ b o,b≠S→b≠it→s.heap.get? b=some o→h'.get? b=some o)→h'.get? S=some { cls:=.type "list",dict:=none,data:=.seq acc' c',slots:=#[] }→
  ItemsOf (fun i v=>items[items.size-1-i]?=some v) acc' items.size→R (.ok (.ret .none)) { s with heap:=h',toks:=tk }):
 wpAny (model prog w) A.in1 (Builtin.«list.__init__» ⟨[.ref S,.ref it],[]⟩)
  (fun fin s'=>match fin with | .done f=>R (.ok f) s' | .again c'=>c'.quiet=true∧codeAny (model prog w) A c' R s') (fun e s'=>R (.error e) s') s:=by
 show wpAny _ _ (do let old ← Builtin.List.listItems (.ref S);Builtin.List.listUpdate (.ref S) (fun _=>#[]);letGo old.toList.reverse;Builtin.List.listExtendWith (.ref S) (.ref it) .none) _ _ s
 refine wpAny_bind ?_
 unfold Builtin.List.listItems
 refine wpAny_bind (wpAny_seqItems hS rfl (wpAny_pure ?_))
 show wpAny _ _ (updateSeq S (fun _=>#[]) >>= fun _=>letGo (#[]:Array Value).toList.reverse >>= fun _=>Builtin.List.listExtendWith (.ref S) (.ref it) .none) _ _ s
 refine wpAny_bind (wpAny_updateSeq hS rfl ?_)
 have hS₂:=Heap.get?_update_self (Obj.mapSeq (fun _=>(#[]:Array Value))) hS rfl
 have oth:∀ b o,b≠S→s.heap.get? b=some o→(s.heap.update S (Obj.mapSeq (fun _=>(#[]:Array Value)))).get? b=some o:=
  fun b o hb e=>(Heap.get?_update_other _ _ (Ne.symm hb)).trans e
 refine wpAny_bind (wpAny_letGo ?_)
 refine Md hh (hit.at fun o e=>oth _ o (Ne.symm hSi) e) (hl.at fun o e=>oth _ o (Ne.symm hSl) e) hne hn S hSi hSl .none _ hS₂ fun h' tk acc' c' hk hS' hacc=>?_
 exact hR h' tk acc' c' (fun b o hb hb2 e=>hk b o hb hb2 (oth b o hb e)) hS' hacc
theorem JI {Q:Value→Shared→Prop}{it l:Addr}{items:Array Value}(hh:A.handled=none)(hit:s.heap.IsRevIter it l ((items.size:Int)-1))(hl:s.heap.IsList l items)(hne:l≠it)(hn:items.size≤sizeLine)
 (hQ:∀ h' tk acc' c',(∀ b o,b≠it→s.heap.get? b=some o→h'.get? b=some o)→
  h'.get? s.heap.objs.size=some { cls:=.type "list",dict:=none,data:=.seq acc' c',slots:=#[] }→ItemsOf (fun i v=>items[items.size-1-i]?=some v) acc' items.size→Q (.ref s.heap.objs.size) { s with heap:=h',toks:=tk }):
 wpAny (model prog w) A (call (.type "list") [.ref it]) Q E s:=by
 refine callType_codes (Q₁:=fun obj s₁=>obj=.ref s.heap.objs.size∧s₁={ s with heap:=s.heap.push { cls:=.type "list",data:=.seq #[] } }) F.called_list (F.typeCall_list_1 _) F.entry_list_init
  (code_list_new _ ⟨rfl,rfl⟩) fun obj s₁ h₁=>?_
 obtain⟨rfl,rfl⟩:=h₁
 have hS:(s.heap.push { cls:=.type "list",data:=.seq #[] }).get? s.heap.objs.size=some { cls:=.type "list",data:=.seq #[] }:=Heap.get?_push_size _ rfl
 have i1:s.heap.objs.size≠it:=by obtain⟨o,q,_⟩:=hit;exact Nat.ne_of_gt (Heap.lt_size q)
 have i2:s.heap.objs.size≠l:=by obtain⟨o,q,_⟩:=hl;exact Nat.ne_of_gt (Heap.lt_size q)
 refine⟨⟨_,hS,rfl⟩,F.args_list_init_2 _ _,JH (A:=A.in1) hh (hit.at fun o e=>Heap.get?_push_of_some _ e) (hl.at fun o e=>Heap.get?_push_of_some _ e) hne hn _ i1 i2 hS fun h' tk acc' c' hk hS' hacc=>?_⟩
 exact⟨rfl,hQ h' tk acc' c' (fun b o hb e=>hk b o (Nat.ne_of_lt (Heap.lt_size e)) hb (Heap.get?_push_of_some _ e)) hS' hacc⟩
end
theorem OY {its:List Value}{acc:Array Value}(h:ItemsOf (fun i v=>its.toArray[its.toArray.size-1-i]?=some v) acc its.toArray.size):acc=its.reverse.toArray:=by
 obtain⟨h1,h2⟩:=h
 apply Array.ext'
 rw[List.toList_toArray]
 apply List.ext_getElem?
 intro j
 have hz:acc.toList.length=its.length:=by rw[Array.length_toList,h1,List.size_toArray]
 by_cases c:j<its.length
 ·have hj:acc[j]?=some (acc[j]'(by rw[h1,List.size_toArray];exact c)):=Array.getElem?_eq_getElem _
  have e:=h2 j _ hj
  rw[List.getElem?_reverse c,Array.getElem?_toList,hj,← e]
  simp
 ·rw[List.getElem?_eq_none (by omega),List.getElem?_eq_none (by rw[List.length_reverse];omega)]
section
variable {X:Cx}
def Vj (K:PySem.W.Frag)(te:TE):TE:=fun σ H Q=>te σ H fun x H1=>∃ a xs,x=.ref a∧As K H1 a xs∧∀ l,H1 l=none→Q (.ref l) (upd H1 l (.lst xs.reverse))
theorem LL:bootBuiltins "reversed"=some (.type "reversed"):=by nofun
theorem Me {e:Expr}{te:TE}{p p2 pos pos2:Pos}(hc:X.calm=true)(hg:Gl X "list")(hm:X.mg "list"=none)(hv:bootBuiltins "list"=some (.type "list"))(hg2:Gl X "reversed")(hm2:X.mg "reversed"=none)(he:PE X e te)
 (hs:starEach [e] X.env=(false,eval e X.env)::starEach [] X.env:=by rfl):
 PE X (.Call (.Name "list" p) [.Call (.Name "reversed" p2) [e] [] pos2] [] pos) (Vj X.K te):=by
 intro pins s σ H Q I h
 refine wpAny_Call_Name_kw (Dz I hg hm hv ?_)
 refine PyProof.Rows.callWith_type1 ?_ rfl rfl
 show wpAny _ _ (spliced ((false,eval (.Call (.Name "reversed" p2) [e] [] pos2) X.env)::backTo pos (starEach [] X.env))) _ _ s
 refine Calls.spliced_cons ?_
 refine wpAny_Call_Name_kw (Dz I hg2 hm2 LL ?_)
 refine PyProof.Rows.callWith_type1 ?_ hs rfl
 rw[hs]
 show wpAny _ _ (spliced ((false,eval e X.env)::backTo pos2 (starEach [] X.env))) _ _ s
 refine Calls.spliced_cons (Bq (he pins s σ H _ I h) fun u s1 ⟨x,H1,I1,r1,q1⟩=>Calls.spliced_nil ?_)
 obtain⟨a,xs,rfl,hq,q⟩:=q1
 cases r1
 obtain⟨its,rv,pl,hz⟩:=I1.list hq
 have hlen:=rv.length
 have hl:=pl.isList
 refine call_reversed_list hl (Calls.spliced_nil ?_)
 have la:a<s1.heap.objs.size:=by obtain⟨o,z,_⟩:=hl;exact Heap.lt_size z
 refine JI (items:=its.toArray) (I.ok.hd hc) ⟨_,Heap.get?_push_size _ rfl,rfl,rfl⟩ (hl.at fun o z=>Heap.get?_push_of_some _ z) (Nat.ne_of_lt la) (by rw[List.size_toArray];omega) fun h' tk acc' c' hk hS' hacc=>?_
 have e:=OY hacc
 subst e
 have hp:s1.heap.objs.size≤(s1.heap.push (revObj a ((its.toArray.size:Int)-1))).objs.size:=by rw[Heap.size_push];exact Nat.le_succ _
 refine⟨.ref _,_,I1.laid (t':=tk) (o:=.lst xs.reverse) (fun b o z=>hk b o (Nat.ne_of_lt (Heap.lt_size z)) (Heap.get?_push_of_some _ z)) hp ?_,rfl,q _ (I1.hok.fresh hp)⟩
 exact⟨by rw[List.length_reverse];exact hz,its.reverse,c',Ps rv,hS'⟩
end
def BM (mg:Str→Option Value)(base:Heap):Prop:=
 ∃ bm o,mg "__builtins__"=some (.ref bm)∧(bm≠builtinsNs∧bm≠mainGlobals)∧base.get? bm=some o∧o.cls=.type "module"∧o.dict=some builtinsNs∧o.data=.plain
def Ji (H:Hp)(q:Str)(c:Addr):Prop:=∃ o vs t,H c=some (.frz o (.own 0))∧o.data=.fields vs∧vs[1]?=some (.str q t)
def Bw (H:Hp)(P:Addr)(q:Str):Prop:=∃ ps,H P=some (.tbl ps)∧TriplesOk ps.toList∧∀ pos cv,codeAmong pos ps.toList=some cv→∃ c,cv=.ref c∧Ji H q c
theorem Ji.keep {H H':Hp}{q:Str}{c:Addr}(x:Ji H q c)(h:∀ b o,H b=some (.frz o (.own 0))→H' b=some (.frz o (.own 0))):Ji H' q c:=by
 obtain⟨o,vs,t,e,r⟩:=x
 exact⟨o,vs,t,h _ _ e,r⟩
theorem Bw.sm {H H':Hp}{P:Addr}{q:Str}(x:Bw H P q)(h:AF H H'):Bw H' P q:=by
 obtain⟨ps,e,t,k⟩:=x
 refine⟨ps,h _ _ e,t,fun pos cv z=>?_⟩
 obtain⟨c,e1,e2⟩:=k pos cv z
 exact⟨c,e1,e2.keep fun b o=>h b _⟩
theorem Bw.nil {H:Hp}{P:Addr}{q:Str}(h:H P=some (.tbl #[])):Bw H P q:=⟨#[],h,trivial,fun _ _ z=>by cases z⟩
theorem KD {a b:Int}{ta tb:Tok}{c:Value}:∀ l:List Value,TriplesOk l→TriplesOk (l++[.int a ta,.int b tb,c]):=fun l=>by
 fun_induction TriplesOk l with
 | case1=>intro _;exact trivial
 | case2 a t b u x rest ih=>intro h;exact ih h
 | case3=>intro h;exact h.elim
theorem Mf {p:Pos}{a b:Int}{ta tb:Tok}{c cv:Value}:∀ l:List Value,TriplesOk l→codeAmong p (l++[.int a ta,.int b tb,c])=some cv→codeAmong p l=some cv∨cv=c:=fun l=>by
 fun_induction TriplesOk l with
 | case1=>
  intro _ h
  simp only[List.nil_append,codeAmong]at h
  split at h
  ·cases h;exact .inr rfl
  ·cases h
 | case2 a t b u x rest ih=>
  intro ht h
  simp only[List.cons_append,codeAmong]at h ⊢
  split at h
  ·rename_i hc;rw[if_pos hc];exact .inl h
  ·rename_i hc;rw[if_neg hc];exact ih ht h
 | case3=>intro h;exact h.elim
def Vk (H:Hp)(q:Str)(f:Addr)(params:Arguments)(body:Expr)(scope:Scope)(cl:List (Str×Addr))(pm:Value):Prop:=
 ∃ c ctv,H f=some (.frz (PySem.W.kla_obj "<lambda>" q params body scope cl pm c ctv) (.own 0))∧Ji H q c
def Xg (P:Addr)(q:Str)(params:Arguments)(body:Expr)(scope:Scope)(cl:List (Str×Addr))(pm:Value):TE:=fun _ H Q=>Bw H P q∧
 ∀ f H',H f=none→(∀ b o,b≠P→H b=some o→H' b=some o)→Bw H' P q→Vk H' q f params body scope cl pm→Q (.ref f) H'
section
variable {X:Cx}{pins:List (Addr×Obj)}{σ:St}{H:Hp}{s:Shared}
theorem Px {P f c:Addr}{h1:Heap}{o oc:Obj}{ps:Array Value}{i j:Int}{ta tb:Tok}{tk:Nat}(I:Ap X pins σ H s)(hP:H P=some (.tbl ps))
 (hx:Heap.ExtBut P s.heap h1) (hge:s.heap.objs.size≤c) (hlt:c<h1.objs.size) (hf:f=h1.objs.size) (hc:h1.get? c=some oc) (htb:h1.get? P=some (PySem.W.tabObj (ps++#[.int i ta,.int j tb,.ref c])))
 (hof:o.isFreed=false):
 Ap X pins σ (upd (upd (upd H P (.tbl (ps++#[.int i ta,.int j tb,.ref c]))) c (.frz oc (.own 0))) f (.frz o (.own 0))) { s with heap:=h1.push o,toks:=tk }:=by
 subst hf
 have Plt:P<s.heap.objs.size:=I.hok.lt hP
 have hcP:c≠P:=fun z=>by rw[z]at hge;exact absurd Plt (Nat.not_lt.mpr hge)
 have hfP:h1.objs.size≠P:=fun z=>by rw[← z]at Plt;exact absurd (Nat.lt_trans Plt (Nat.lt_of_le_of_lt hge hlt)) (Nat.lt_irrefl _)
 have hfc:h1.objs.size≠c:=(Nat.ne_of_lt hlt).symm
 have other:∀ b,b<s.heap.objs.size→b≠P→(upd (upd (upd H P (.tbl (ps++#[.int i ta,.int j tb,.ref c]))) c (.frz oc (.own 0))) h1.objs.size (.frz o (.own 0))) b=H b:=fun b hb hne=>by
  rw[Ab (Nat.ne_of_lt (Nat.lt_trans (Nat.lt_of_lt_of_le hb hge) hlt)),Ab (Nat.ne_of_lt (Nat.lt_of_lt_of_le hb hge)),Ab hne]
 have keep:∀ b u,b≠P→s.heap.get? b=some u→(h1.push o).get? b=some u:=fun b u hb e=>Heap.get?_push_of_some _ (hx b u hb e)
 have atP:(h1.push o).get? P=some (PySem.W.tabObj (ps++#[.int i ta,.int j tb,.ref c])):=Heap.get?_push_of_some _ htb
 have hPv:(upd (upd (upd H P (.tbl (ps++#[.int i ta,.int j tb,.ref c]))) c (.frz oc (.own 0))) h1.objs.size (.frz o (.own 0))) P=some (.tbl (ps++#[.int i ta,.int j tb,.ref c])):=by
  rw[Ab hfP.symm,Ab hcP.symm,AE]
 have nP:∀ b,H b=none→b≠P:=fun b n z=>by rw[z,hP]at n;cases n
 refine I.un (t':=tk) ⟨fun b u e n _ _=>keep b u (nP b n) e,fun b u e n _ _=>⟨u.slots,keep b u (nP b n) e⟩,fun b u e n _=>?_,fun b u e _=>?_,fun b xs e=>?_,fun b u xs e=>?_,fun b qs e=>?_⟩ fun b u e=>?_
 ·rw[other b (Heap.lt_size e) (nP b n)];exact n
 ·by_cases hb:b=P
  ·subst hb;exact⟨_,atP⟩
  ·exact⟨u,keep b u hb e⟩
 ·rw[other b (I.hok.lt e) fun z=>by rw[z,hP]at e;cases e];exact e
 ·rw[other b (I.hok.lt e) fun z=>by rw[z,hP]at e;cases e];exact e
 ·by_cases hb:b=P
  ·subst hb
   rw[hP]at e;cases e
   exact⟨_,hPv⟩
  ·exact⟨#[],by rw[other b (I.hok.lt e) hb,e];simp⟩
 ·by_cases hbf:b=h1.objs.size
  ·subst hbf
   rw[AE]at e;cases e
   exact⟨Heap.get?_push_size _ hof,_,Heap.get?_push_size _ hof⟩
  ·by_cases hbc:b=c
   ·subst hbc
    rw[Ab hbf,AE]at e;cases e
    exact⟨Heap.get?_push_of_some _ hc,_,Heap.get?_push_of_some _ hc⟩
   ·by_cases hbP:b=P
    ·subst hbP
     rw[hPv]at e;cases e
     exact atP
    ·rw[Ab hbf,Ab hbc,Ab hbP]at e
     refine(I.hok b u e).stay (fun d v hd q=>keep d v ?_ q) (fun d z=>?_) fun d xs z=>?_
     ·rcases hd with z | z
      ·rw[z];exact hbP
      ·intro y;rw[y,hP]at z;cases z
     ·rw[other d (I.hok.lt z) fun y=>by rw[y,hP]at z;cases z];exact z
     ·rw[other d (I.hok.lt z) fun y=>by rw[y,hP]at z;cases z];exact z
theorem T7 {params:Arguments}{body:Expr}{scope:Scope}{pos:Pos}{c P:Addr}{clos:List (Str×Addr)}(hdef:defaultsOf params X.env=([],[]))(hcl:closureFor scope X.env=pure clos)(hcode:X.env.code=.ref c)
 (C:PySem.W.CodeHd X.base c P) (B:BM X.mg X.base):PE X (.Lambda params body scope pos) (Xg P (X.env.qual++"<lambda>") params body scope clos ((X.mg "__name__").getD .none)):=by
 intro pins s σ H Q I h
 obtain⟨⟨ps,hP,ht,hall⟩,hq⟩:=h
 obtain⟨bm,ob,b1,⟨b2,b3⟩,b4,b5,b6,b7⟩:=B
 have hPh:s.heap.get? P=some (PySem.W.tabObj ps):=I.hok P _ hP
 have hgs:=I.mod.glob.keeps I.bk
 have hgP:mainGlobals≠P:=fun q=>by
  obtain⟨o,es,ep,e,hd,_⟩:=hgs
  rw[q,hPh]at e;cases e;cases hd
 have hbP:bm≠P:=fun q=>by
  have e:=I.bk _ _ b4
  rw[q,hPh]at e;cases e;cases b5
 have hb:s.heap.BuiltinsAt X.mg P:=⟨bm,ob,b1,b2,b3,hbP,I.bk _ _ b4,b5,b6,b7⟩
 refine PySem.W.kla_eval hdef ?_
 cases hf:codeAmong pos ps.toList with
 | none=>
  refine PySem.W.kla_makeFunction (mg:=X.mg) hcl I.ok.glob hgs hcode (C.keeps I.bk) hPh ht hf hgP hb fun c' ctv h' tk hx hge hlt hrec htb=>?_
  obtain⟨c₂,oc,vs,t,e2,hoc,hd,hv⟩:=hrec
  cases e2
  have Plt:P<s.heap.objs.size:=I.hok.lt hP
  have ltf:s.heap.objs.size<h'.objs.size:=Nat.lt_of_le_of_lt hge hlt
  have fnew:H h'.objs.size=none:=I.hok.fresh (Nat.le_of_lt ltf)
  have cnew:H c'=none:=I.hok.fresh hge
  have hcP:c'≠P:=fun z=>by rw[z]at hge;exact absurd Plt (Nat.not_lt.mpr hge)
  have hfP:h'.objs.size≠P:=fun z=>by rw[← z]at Plt;exact absurd (Nat.lt_trans Plt ltf) (Nat.lt_irrefl _)
  have I2:=Px (tk:=tk) (o:=PySem.W.kla_obj "<lambda>" (X.env.qual++"<lambda>") params body scope clos ((X.mg "__name__").getD .none) c' ctv) I hP hx hge hlt rfl hoc htb rfl
  have hfc:c'≠h'.objs.size:=Nat.ne_of_lt hlt
  refine⟨.ref h'.objs.size,_,I2,rfl,hq _ _ fnew (fun b o hb e=>?_) ⟨ps++#[rawInt pos.line,rawInt pos.col,.ref c'],?_,?_,fun p cv z=>?_⟩ ⟨c',ctv,AE,oc,vs,t,?_,hd,hv⟩⟩
  ·rw[Ab (Am e fnew),Ab (Am e cnew),Ab hb];exact e
  ·rw[Ab hfP.symm,Ab hcP.symm,AE];rfl
  ·rw[Array.toList_append];exact KD _ ht
  ·rw[Array.toList_append]at z
   rcases Mf _ ht z with z | z
   ·obtain⟨d,e1,o,vs',t',e3,r⟩:=hall p cv z
    have ndP:d≠P:=fun y=>by rw[y,hP]at e3;cases e3
    exact⟨d,e1,o,vs',t',by rw[Ab (Am e3 fnew),Ab (Am e3 cnew),Ab ndP];exact e3,r⟩
   ·exact⟨c',z,oc,vs,t,by rw[Ab hfc,AE],hd,hv⟩
  ·rw[Ab hfc,AE]
 | some cv=>
  obtain⟨c',rfl,o,vs,t,ec,r⟩:=hall pos cv hf
  refine PySem.W.kla_makeFunctionHit (mg:=X.mg) hcl I.ok.glob hgs hcode (C.keeps I.bk) hPh ht hf hb fun ctv h' tk hk hsz=>?_
  have fnew:H h'.objs.size=none:=I.hok.fresh hsz
  have k2:∀ b u,s.heap.get? b=some u→(h'.push (PySem.W.kla_obj "<lambda>" (X.env.qual++"<lambda>") params body scope clos ((X.mg "__name__").getD .none) c' ctv)).get? b=some u:=fun b u e=>Heap.get?_push_of_some _ (hk b u e)
  have sm:AF H (upd H h'.objs.size (.frz (PySem.W.kla_obj "<lambda>" (X.env.qual++"<lambda>") params body scope clos ((X.mg "__name__").getD .none) c' ctv) (.own 0))):=fun b u e=>by rw[Ab (Am e fnew)];exact e
  have I2:=I.laid (t':=tk) (a:=h'.objs.size) (o:=.frz (PySem.W.kla_obj "<lambda>" (X.env.qual++"<lambda>") params body scope clos ((X.mg "__name__").getD .none) c' ctv) (.own 0)) k2 hsz ⟨Heap.get?_push_size _ rfl,_,Heap.get?_push_size _ rfl⟩
  exact⟨.ref h'.objs.size,_,I2,rfl,hq _ _ fnew (fun b o _ e=>sm b o e) (Bw.sm ⟨ps,hP,ht,hall⟩ sm) ⟨c',ctv,AE,o,vs,t,sm _ _ ec,r⟩⟩
end
def Rh (q:Str)(o:Obj):Bool:=match o.data with
 | .func fd=>fd.qualname==q
 | .fields vs=>(match (vs[1]?:Option Value)with
  | some (.str z _)=>z==q
  | _=>false)
 | _=>false
def kn (q:Str):Option HO→Option Obj
 | some (.frz o (.own 0))=>if Rh q o=true then some o else none
 | _=>none
section
variable {q:Str}
theorem Hf {x:Option HO}{o:Obj}(h:kn q x=some o):x=some (.frz o (.own 0)):=by
 unfold kn at h
 split at h
 ·split at h
  ·cases h;rfl
  ·cases h
 ·cases h
theorem Ss {H:Hp}{b:Addr}{o:Obj}(h:H b=some (.frz o (.own 0)))(w:Rh q o=true):kn q (H b)=some o:=by rw[h];unfold kn;exact if_pos w
theorem Py {o:Obj}{vs:Array Value}{t:Tok}{z:Str}(d:o.data=.fields vs)(h:vs[1]?=some (.str z t)):Rh q o=(z==q):=by
 unfold Rh
 rw[d]
 dsimp only
 rw[h]
def Jj (q:Str)(H:Hp):Hp:=fun b=>if(kn q (H b)).isSome=true then none else H b
def put (q:Str)(H H':Hp):Hp:=fun b=>match kn q (H b)with
 | some o=>some (.frz o (.own 0))
 | none=>H' b
theorem Mg {H:Hp}{b:Addr}{o:Obj}(h:kn q (H b)=some o):Jj q H b=none:=if_pos (by rw[h];rfl)
theorem KE {H:Hp}{b:Addr}(h:kn q (H b)=none):Jj q H b=H b:=if_neg (by rw[h];exact Bool.false_ne_true)
theorem IH {H:Hp}{b:Addr}{o:HO}(h:H b=some o)(n:kn q (some o)=none):Jj q H b=some o:=by rw[KE (by rw[h];exact n),h]
theorem Cj {H:Hp}{b:Addr}(h:H b=none):Jj q H b=none:=by
 unfold Jj
 split
 ·rfl
 ·exact h
theorem Pz {H:Hp}{b:Addr}{o:HO}(h:Jj q H b=some o):H b=some o∧kn q (H b)=none:=by
 unfold Jj at h
 split at h
 ·cases h
 ·rename_i n
  refine⟨h,?_⟩
  cases w:kn q (H b)with
  | none=>rfl
  | some u=>exact absurd (by rw[w];rfl) n
theorem Mh {H H':Hp}{b:Addr}{o:Obj}(h:kn q (H b)=some o):put q H H' b=some (.frz o (.own 0)):=by
 unfold put
 rw[h]
theorem DV {H H':Hp}{b:Addr}(h:kn q (H b)=none):put q H H' b=H' b:=by
 unfold put
 rw[h]
end
structure LM (X:Cx)(σ:St)(q:Str)(H:Hp)(base':Heap):Prop where
 sub:∀ b o,X.base.get? b=some o→base'.get? b=some o
 sz:X.base.objs.size≤base'.objs.size
 mod:Mod X.K X.mg base'
 old:Mod X.K X.mg X.base
 new:∀ b o,kn q (H b)=some o→base'.get? b=some o
 cel:∀ x c,X.env.cells.lookup x=some c→∃ v,base'.IsCell c v
 val:∀(i:Nat) (x:Str) (v:V) (c:Addr),X.N[i]?=some x→σ[i]?=some (some v)→X.env.scope.names.lookup x=some .cell→X.env.cells.lookup x=some c→∃ u,Aw v u∧base'.IsCell c (some u)
 inj:∀ x y c,X.env.cells.lookup x=some c→X.env.cells.lookup y=some c→x=y
section
variable {P:Program}{w:World}{K:PySem.W.Frag}{mg:Str→Option Value}{base base':Heap}{k:Nat}{f:Addr}{fd:FuncData}{ps:List Str}{sp:Sp}
def FV (P:Program)(w:World)(K:PySem.W.Frag)(mg:Str→Option Value)(base:Heap)(k:Nat)(f:Addr)(sp:Sp):Prop:=
 ∃ fd ps oc od sl,base.get? f=some ⟨oc,od,.func fd,sl⟩∧(∀(s:Shared) (us:List Value),K.In s.heap→us.length=ps.length→BindsTo s fd ⟨us,[]⟩ (ps.zip us))∧A1 P w K mg base Bo k f fd ps sp
end
theorem Jk {h base base':Heap}:∀{l:List Env},h.FunFrames base l→(∀ b∈Dy l,base'.get? b=none)→h.FunFrames base' l
 | [],_,_=>trivial
 | _::_,⟨a,⟨L,o,f,n,e,d⟩,r⟩,hn=>⟨a,⟨L,o,f,hn L (by unfold Dy;rw[List.filterMap_cons,f];exact List.mem_cons_self),e,d⟩,Jk r fun b hb=>hn b (by unfold Dy;rw[List.filterMap_cons,f];exact List.mem_cons_of_mem _ hb)⟩
theorem Ri {q:Str}{P:Program}{w:World}{H:Hp}{h:Heap}(x:FH P w H h):FH P w (Jj q H) h:=fun b o e=>by
 obtain⟨e1,_⟩:=Pz e
 exact(x b o e1).stay (fun _ _ _ e=>e) (fun c e=>IH e rfl) fun c xs e=>IH e rfl
section
variable {X:Cx}{pins:List (Addr×Obj)}{σ:St}{H:Hp}{s:Shared}{q:Str}
def T8 (X:Cx)(q:Str)(H:Hp)(s:Shared):Heap:=PySem.W.hideAll (HG s.heap (Jj q H)) (Dy X.stack)
theorem Mi {b:Addr}{o:Obj}(e:s.heap.get? b=some o)(n:Jj q H b=none)(hb:b∉Dy X.stack):(T8 X q H s).get? b=some o:=PySem.W.hideAll_get _ (Kq e n) hb
theorem T9 {b:Addr}{o:Obj}(e:(T8 X q H s).get? b=some o):s.heap.get? b=some o∧Jj q H b=none:=NM (PySem.W.of_hideAll _ e)
theorem LN:(T8 X q H s).objs.size=s.heap.objs.size:=(PySem.W.hideAll_size _ _).trans (JU _ _)
theorem Ap.wider (I:Ap X pins σ H s)(hfn:∀ x,X.fn x=true):LM X σ q H (T8 X q H s):=by
 have nst:∀ b,b≠X.env.locals→b∉X.fs→b∉Dy X.stack:=fun b h1 h2 z=>(List.mem_cons.mp (I.stkSub b z)).elim h1 h2
 have sub:∀ b o,X.base.get? b=some o→(T8 X q H s).get? b=some o:=fun b o e=>by
  obtain⟨e1,n⟩:=I.bs b o e
  refine Mi e1 (Cj n) (nst b (fun z=>?_) (I.ok.nofr e))
  have h1:=Heap.lt_size e
  rw[z]at h1
  exact absurd (Nat.lt_of_lt_of_le h1 (Nat.le_trans I.ok.bsz I.ok.above)) (Nat.lt_irrefl _)
 have cst:∀ x c,X.env.cells.lookup x=some c→c∉Dy X.stack:=fun x c e=>nst c (I.cne x c e) fun z=>by
  obtain⟨_,o,ho,_⟩:=I.ok.funs.mem z
  exact absurd (Nat.lt_of_lt_of_le (Heap.lt_size ho) (I.ok.cab x c (hfn x) e)) (Nat.lt_irrefl _)
 have cin:∀ x c v,X.env.cells.lookup x=some c→s.heap.IsCell c v→(T8 X q H s).IsCell c v:=fun x c v e ⟨o,ho,hd⟩=>⟨o,Mi ho (Cj (I.freeC x c e)) (cst x c e),hd⟩
 refine⟨sub,?_,⟨I.ok.mod.kin.keeps sub,I.ok.mod.glob.keeps sub,?_,I.ok.mod.nolimit.keeps sub⟩,I.ok.mod,fun b o e=>?_,fun x c e=>?_,fun i x v c e1 e2 e3 e4=>?_,I.ok.inj⟩
 ·rw[LN];exact Nat.le_trans I.ok.bsz I.sz
 ·obtain⟨mb,h1,h2⟩:=I.ok.mod.blt
  exact⟨mb,h1.keeps sub,h2⟩
 ·have e1:=Hf e
  refine Mi (I.hok _ _ e1).1 (Mg e) fun z=>?_
  rw[I.stkFree b z]at e1;cases e1
 ·obtain⟨v,hv⟩:=I.cell x c e
  exact⟨v,cin x c v e hv⟩
 ·obtain⟨m,hn,hl⟩:=I.loc
  obtain⟨u,r,l⟩:=hl i x v e1 e2 (.inr (.inl e3))
  refine⟨u,r,?_⟩
  rcases l with⟨k,_⟩ | ⟨_,c',ec,z⟩
  ·have k':X.env.scope.names.lookup x=some .local:=k
   rw[e3]at k';cases k'
  ·rw[e4]at ec;cases ec
   exact cin x c _ e4 z
theorem Ap.envL (I:Ap X pins σ H s)(hfn:∀ x,X.fn x=true):Ku X.prog X.w X.K X.mg (T8 X q H s) X.A X.stack s (Jj q H):=
 ⟨I.ok.frames,(I.wider (q:=q) hfn).mod,fun _ _ e=>T9 e,Nat.le_of_eq LN,Jk I.stack fun _ hb=>PySem.W.hideAll_none _ hb,fun b hb=>Cj (I.stkFree b hb),Ri I.hok,I.bare⟩
theorem Ap.afterL {Q:VK}{u:Value}{s':Shared}(I:Ap X pins σ H s)(h:CE X.stack X.prog X.w (Jj q H) s (fun v H2=>(∀ b o,kn q (H b)=some o→H2 b=none)→Q v (put q H H2)) u s'):EP X pins σ Q u s':=by
 obtain⟨v,H',os,bare,un,hok,r,qq⟩:=h
 have nkn:∀ b o,H b=some o→kn q (some o)=none→kn q (H b)=none:=fun b o e n=>by rw[e];exact n
 have kfree:∀ b o,kn q (H b)=some o→s.heap.get? b=some o∧H' b=none∧s'.heap.get? b=some o:=fun b o e=>by
  have e1:=Hf e
  have e2:=(I.hok _ _ e1).1
  refine⟨e2,un.free b o e2 (Mg e) (by simp),un.keep b o e2 (Mg e) (fun z=>?_) (by simp)⟩
  rw[I.stkFree b z]at e1;cases e1
 refine I.after ⟨v,put q H H',os,bare,⟨fun b o e n=>un.keep b o e (Cj n),fun b o e n=>un.slot b o e (Cj n),fun b o e n hx=>?_,un.there,fun b xs e=>?_,fun b o w e=>?_,fun b ps e=>?_⟩,fun b o e=>?_,r,qq fun b o e=>(kfree b o e).2.1⟩
 ·rw[DV (by rw[n];rfl)];exact un.free b o e (Cj n) hx
 ·rw[DV (nkn b _ e rfl)];exact un.tups b xs (IH e rfl)
 ·cases z:kn q (H b)with
  | none=>rw[DV z];exact un.frzs b o w (by rw[KE z];exact e)
  | some u=>
   rw[Mh z]
   rw[Hf z]at e
   exact e
 ·rw[DV (nkn b _ e rfl)];exact un.tbls b ps (IH e rfl)
 ·cases z:kn q (H b)with
  | none=>
   rw[DV z]at e
   have np:∀ c u,H' c=some u→kn q (H c)=none:=fun c u ec=>by
    cases y:kn q (H c)with
    | none=>rfl
    | some w=>rw[(kfree c w y).2.1]at ec;cases ec
   exact(hok b o e).stay (fun _ _ _ e=>e) (fun c e=>by rw[DV (np c _ e)];exact e) fun c xs e=>by rw[DV (np c _ e)];exact e
  | some u=>
   rw[Mh z]at e;cases e
   exact⟨(kfree b u z).2.2,_,(kfree b u z).2.2⟩
end
def QA (P:Program)(w:World)(K:PySem.W.Frag)(mg:Str→Option Value)(base:Heap)(N:List Str)(q:Str)(scope:Scope)(f:Addr)(cd:Value)(cl:List (Str×Addr))(A:Around)(outer:List Env)(s:Shared)(H:Hp):Cx where
 prog:=P
 w:=w
 K:=K
 mg:=mg
 base:=base
 A:=A.deeper (PySem.W.envX q scope s.heap.objs.size f cd cl)
 N:=N
 s₀:=s
 H₀:=H
 env:=PySem.W.envX q scope s.heap.objs.size f cd cl
 outer:=outer
 stack:=PySem.W.envX q scope s.heap.objs.size f cd cl::outer
 ex:=[]
 calm:=true
 fn:=fun _=>false
 pn:=[]
 xe:=fun _ _=>False
structure QB (X:Cx)(scope:Scope)(cl:List (Str×Addr))(ps fv:List Str)(js:List Nat):Prop where
 kind:scope.kind=.function
 co:scope.isCoroutine=false
 gen:scope.isGenerator=false
 nc:∀ y∈scope.names,y.2≠.cell
 par:∀ y∈ps,scope.names.lookup y=some .local
 fr:∀ y∈scope.names,y.2=.free→y.1∈fv
 nd:(ps++fv).Nodup
 vis:∀ y∈fv,scope.names.lookup y=some .free∧X.env.scope.names.lookup y=some .cell∧(cl.lookup y).isSome=true
 cls:∀ p∈cl,X.env.cells.lookup p.1=some p.2
 sl:Paired (fun y j=>X.N[j]?=some y) fv js
theorem Gv:∀(ps:List Str) (us:List Value),List.Sublist ((ps.zip us).map (·.1)) ps
 | [],_=>.slnil
 | _::_,[]=>List.nil_sublist _
 | p::ps,u::us=>.cons₂ p (Gv ps us)
theorem LO {x:Str}{u:Value}:∀{ps:List Str} {us:List Value} {i:Nat},ps.Nodup→ps[i]?=some x→us[i]?=some u→(ps.zip us).reverse.lookup x=some u:=fun {ps us i} nd h1 h2=>by
 have hm:(x,u)∈ps.zip us:=by
  refine List.mem_of_getElem? (i:=i) ?_
  rw[List.getElem?_zip_eq_some]
  exact⟨h1,h2⟩
 have nd2:((ps.zip us).reverse.map (·.1)).Nodup:=by
  rw[List.map_reverse]
  refine List.nodup_iff_pairwise_ne.mpr (List.pairwise_reverse.mpr (List.Pairwise.imp (fun h=>Ne.symm h) (List.nodup_iff_pairwise_ne.mp ?_)))
  exact List.Nodup.sublist (Gv ps us) nd
 have go:∀ l:List (Str×Value),(l.map (·.1)).Nodup→(x,u)∈l→l.lookup x=some u:=by
  intro l
  induction l with
  | nil=>intro _ h;cases h
  | cons p r ih=>
   intro hn h
   obtain⟨y,v⟩:=p
   rw[List.map_cons,List.nodup_cons]at hn
   rcases List.mem_cons.mp h with e | e
   ·cases e;simp[List.lookup_cons]
   ·have ne:(x==y)=false:=by
     cases q:x==y with
     | false=>rfl
     | true=>exact absurd (eq_of_beq q▸List.mem_map_of_mem (f:=(·.1)) e) hn.1
    simp only[List.lookup_cons,ne]
    exact ih hn.2 e
 exact go _ nd2 (List.mem_reverse.mpr hm)
theorem LM.lam {X:Cx}{σ:St}{Hk:Hp}{base':Heap}{k:Nat}{f c:Addr}{q:Str}{params:Arguments}{body:Expr}{scope:Scope}{cl:List (Str×Addr)}{pm ctv:Value}{ps fv:List Str}{js:List Nat}{sp:Sp}(W:LM X σ q Hk base')
 (hf:Hk f=some (.frz (PySem.W.kla_obj "<lambda>" q params body scope cl pm c ctv) (.own 0))) (hc:Ji Hk q c) (S:QB X scope cl ps fv js)
 (hbind:∀ us:List Value,us.length=ps.length→bindArgs (PySem.W.kla_fn "<lambda>" q params body scope cl pm (.ref c) ctv) ⟨us,[]⟩=pure (ps.zip us)) (len:∀ vs H Q E,sp vs H Q E→vs.length=ps.length)
 (hbody:∀(A:Around) (outer:List Env) (s:Shared) (H:Hp) (vs:List V) (Q:VK) (E:XK),Bx k (A.deeper (PySem.W.envX q scope s.heap.objs.size f (.ref c) cl))→sp vs H Q E→
  ∃ te,PE (QA X.prog X.w X.K X.mg base' (ps++fv) q scope f (.ref c) cl A outer s H) body te∧te (vs.map some++Kj js σ) H Q):FV X.prog X.w X.K X.mg base' (k+1) f sp:=by
 obtain⟨oc,vc,tc,ec,dc,qc⟩:=hc
 have bf:=W.new f _ (Ss hf (show(q==q)=true from beq_self_eq_true q))
 have bc:=W.new c _ (Ss ec ((Py dc qc).trans (beq_self_eq_true q)))
 refine⟨_,ps,_,_,_,bf,fun s us _ hl=>.of_eq (hbind us hl),len,fun A outer s H args us vs Q E hr e0 hb r hsp=>?_⟩
 have hl:=len _ _ _ _ hsp
 have lim:s.heap.NoLimit:=e0.mod.nolimit.keeps fun b o e=>(e0.bs b o e).1
 have hps:us.length=ps.length:=by rw[← r.length];exact hl
 refine PySem.W.kla_callFunE hr.depth (e0.bs _ _ bf).1 rfl S.co S.gen rfl ⟨c,oc,vc,tc,rfl,(e0.bs _ _ bc).1,dc,qc⟩ (hb _ _ _ _ ?_)
 refine wpAny_newFunctionEnv S.nc (fun y hy=>S.par y.1 (List.of_mem_zip hy).1) (fun h₁ hns hsb=>⟨lim.fresh _ hsb,?_⟩) S.kind
 have hk₁:∀ b o,s.heap.get? b=some o→h₁.get? b=some o:=fun b o e=>hsb.extBut b o (Nat.ne_of_lt (Heap.lt_size e)) (Heap.get?_push_of_some _ e)
 obtain⟨te,hte,hq⟩:=hbody A outer s H vs Q E (hr.deeper _) hsp
 have cellOf:∀ y cc,cl.lookup y=some cc→X.env.cells.lookup y=some cc:=fun y cc e=>S.cls (y,cc) (PySem.mem_of_lookup e)
 have noA:∀ b:Addr,b∉(QA X.prog X.w X.K X.mg base' (ps++fv) q scope f (.ref c) cl A outer s H).ex:=fun b z=>absurd (show b∈([]:List Addr)from z) (by simp)
 have I:Ap (QA X.prog X.w X.K X.mg base' (ps++fv) q scope f (.ref c) cl A outer s H) [] (vs.map some++Kj js σ) H { s with heap:=h₁,toks:=s.toks+(ps.zip us).length }:=by
  refine⟨⟨e0.mod,S.kind,rfl,rfl,Nat.le_refl _,fun y z d h1 h2=>W.inj y z d (cellOf y d h1) (cellOf z d h2),fun y hy=>?_,fun y d h=>absurd (show false=true from h) Bool.false_ne_true,fun _=>hr.hd,Around.frames_deeper e0.frames,.inr ⟨rfl,rfl⟩,fun b z=>absurd z (noA b),e0.bs,e0.bsz,
   fun b _ _=>noA b,fun b z=>absurd z (noA b),e0.funs,e0.frf⟩,rfl,e0.bare,Un.kept hk₁,⟨_,hns,fun i y v h1 h2 h3=>?_⟩,fun y d h=>?_,e0.hok.fresh (Nat.le_refl _),fun y d h=>?_,fun p hp=>absurd (show p∈([]:List (Addr×Obj))from hp) (by simp),e0.hok.kept hk₁,?_⟩
  ·have hy':scope.names.lookup y=some .cell∨scope.names.lookup y=some .free:=hy
   rcases hy' with z | z
   ·exact absurd rfl (S.nc _ (PySem.mem_of_lookup z))
   ·exact Option.isSome_iff_exists.mp (S.vis y (S.fr _ (PySem.mem_of_lookup z) rfl)).2.2
  ·have h1':(ps++fv)[i]?=some y:=h1
   by_cases hi:i<ps.length
   ·rw[List.getElem?_append_left hi]at h1'
    rw[List.getElem?_append_left (by rw[List.length_map,hl];exact hi),List.getElem?_map]at h2
    have h2':vs[i]?=some v:=by
     cases z:vs[i]? with
     | none=>rw[z]at h2;cases h2
     | some a=>rw[z]at h2;cases h2;rfl
    obtain⟨u,hu,rv⟩:=r.get h2'
    have nd:ps.Nodup:=(List.nodup_append.mp S.nd).1
    exact⟨u,rv,.inl ⟨S.par y (List.mem_of_getElem? h1'),LO nd h1' hu⟩⟩
   ·have hi':ps.length≤i:=Nat.not_lt.mp hi
    rw[List.getElem?_append_right hi']at h1'
    rw[List.getElem?_append_right (by rw[List.length_map,hl];exact hi'),List.length_map,hl]at h2
    obtain⟨j,hj,hN⟩:=ID S.sl h1'
    have hv:σ[j]?=some (some v):=by
     unfold Kj at h2
     rw[List.getElem?_map,hj]at h2
     have z':(σ[j]?).getD none=some v:=Option.some.inj h2
     cases z:σ[j]? with
     | none=>rw[z]at z';cases z'
     | some o=>rw[z]at z';exact congrArg some z'
    obtain⟨hfree,hcell,hsome⟩:=S.vis y (List.mem_of_getElem? h1')
    obtain⟨d,hd⟩:=Option.isSome_iff_exists.mp hsome
    obtain⟨u,ru,o,ho,hdt⟩:=W.val j y v d hN hv hcell (cellOf y d hd)
    exact⟨u,ru,.inr ⟨.inr hfree,d,hd,o,hk₁ _ _ (e0.bs _ _ ho).1,hdt⟩⟩
  ·obtain⟨v,o,ho,hd⟩:=W.cel y d (cellOf y d h)
   exact⟨v,o,hk₁ _ _ (e0.bs _ _ ho).1,hd⟩
  ·obtain⟨v,o,ho,hd⟩:=W.cel y d (cellOf y d h)
   exact(e0.bs _ _ ho).2
  ·show(vs.map some++Kj js σ).length=(ps++fv).length
   have:fv.length=js.length:=Paired.length S.sl
   simp[Kj,this,hl]
 refine PySem.W.kla_codeExpr (wpAny_mono (hte [] _ _ H Q I hq) (fun v s' hs=>?_) fun e s' hs=>False.elim hs)
 obtain⟨x,H',J,rv,qv⟩:=hs
 exact⟨x,H',J.os,J.bare,J.base,J.hok,rv,qv⟩
section
variable {P:Program}{w:World}{K:PySem.W.Frag}{mg:Str→Option Value}{base:Heap}
theorem Fun.okC {x qual:Str}{st:Stmt}{f:Addr}{fd:FuncData}{N ps:List Str}{k:Nat}{sp:Sp}(F:Fun K x qual st f fd)(S:AZ N ps (AO st))(len:∀ vs H Q E,sp vs H Q E→vs.length=ps.length)
 (hbody:∀(cdv:Value) (A:Around) (outer:List Env) (s:Shared) (H:Hp) (vs:List V) (Q:VK) (E:XK),fd.code=cdv→Bx k (A.deeper (envOfC qual (AO st) s.heap.objs.size f cdv))→sp vs H Q E→
  ∃ t,Jv (Do Bo P w K mg base N qual (AO st) f cdv A outer s H E).nox (B8 st) t∧t { nx:=fun _ H'=>Q .non H',rt:=Q } (EW N vs) H):A1 P w K mg base Bo (k+1) f fd ps sp:=by
 obtain⟨oc,od,kV,doc,pm,an,cdv,ct,osl,rfl,lk,hcd⟩:=F.ex
 refine PP lk hcd S len fun A outer s H vs Q E hr hsp=>?_
 obtain⟨t,h,q⟩:=hbody cdv A outer s H vs Q E rfl hr hsp
 exact⟨t,h.nox,q⟩
theorem Rj {x qual:Str}{st:Stmt}{f c T:Addr}{fd:FuncData}(F:Fun K x qual st f fd)(hn:PySem.W.nsIn K mainGlobals x=some (some (.ref f)))(ht:PySem.W.tabIn K x=some (c,T)):fd.code=.ref c:=by
 obtain⟨oc,od,kV,doc,pm,an,cdv,ct,osl,rfl,lk,hcd⟩:=F.ex
 unfold PySem.W.tabIn at ht
 rw[hn]at ht
 dsimp only at ht
 rw[lk]at ht
 dsimp only at ht
 split at ht
 ·rename_i c' e
  split at ht
  ·split at ht
   ·cases ht
    rfl
   ·cases ht
  ·cases ht
 ·cases ht
end
theorem UA {p:Program}{x:Str}(h:(recsOf p).any (fun e=>e.name==x)=true):∃ d,(recsOf p).find? (fun e=>e.name==x)=some d:=by
 obtain⟨d,hd,e⟩:=List.any_eq_true.mp h
 cases q:(recsOf p).find? (fun e=>e.name==x)with
 | some u=>exact⟨u,rfl⟩
 | none=>exact absurd e (by simpa using List.find?_eq_none.mp q d hd)
theorem OZ {P:Program}{w:World}{K:PySem.W.Frag}{mg mb:Str→Option Value}{CX:O6}{k:Nat}{fa a:Addr}{fd:FuncData}{x:Str}{sp:Sp}{s₁:Shared}{vs:List Value}{ns:List Int}{tabs:List (Addr×Addr)}
 (KX:K.In s₁.heap) (hns:s₁.heap.Ns mainGlobals mg) (hb:s₁.heap.Ns builtinsNs mb) (hbb:∀ x:Str,x≠"__name__"→mb x=bootBuiltins x) (hlim:s₁.heap.NoLimit) (hg:s₁.gens=#[])
 (ha:s₁.heap.get? a=some { cls:=.type "list",data:=.seq vs.toArray }) (hi:IntsAre vs ns) (hl:ns.length≤sizeLine) (hr:Bx k callerA)
 (hBM:BM mg s₁.heap) (F:∀ base:Heap,K.In base→base.Ns mainGlobals mg→(∀ q∈tabs,PySem.W.CodeHd base q.1 q.2)→BM mg base→A1 P w K mg base CX k fa fd [x] sp) (hbind:∀(s:Shared) (u:Value),BindsTo s fd ⟨[u],[]⟩ [(x,u)])
 (hT:PySem.W.TabsAt tabs s₁.heap) (hKT:PySem.W.noTabs K=true)
 (hsp:∀ H:Hp,(∀ q∈tabs,H q.2=some (.tbl #[]))→As K H a (ns.map V.int)→sp [.ref a] H (fun v _=>v=.bl true) fun _ _ _=>False)
 (hCX:∀ H e s',CX [] H s₁ (fun _ _ _=>False) e s'→False):
 codeAny (model P w) callerA (.call (.ref fa) ⟨[.ref a],[]⟩) (fun r s'=>r=.ok (.ret (.bool true))∧OldK s₁.heap s'.heap∧s'.os=s₁.os∧AllBare s'.gens) s₁:=by
 have rv:=Jc hi
 have lenV:=hi.length
 have noKT:∀ b,b∈tabs.map (·.2)→K.lookup b=none:=fun b hb=>by
  obtain⟨q,hq,rfl⟩:=List.mem_map.mp hb
  cases e:K.lookup q.2 with
  | none=>rfl
  | some o=>
   have h1:=KX _ _ e
   rw[(hT q hq).2]at h1
   cases h1
   have h2:=List.all_eq_true.mp hKT _ (PySem.W.mem_of_lookupK e)
   cases h2
 have core:∀ H:Hp,(∀ q∈tabs,H q.2=some (.tbl #[]))→(∀ b,b∉tabs.map (·.2)→H b=none∨∃ o xs,H b=some (.frz o (.lst xs)))→As K H a (ns.map V.int)→FH P w H s₁.heap→(∀ b,H b≠none→b=a∨b∈tabs.map (·.2))→(H a≠none→K.lookup a=none)→
  codeAny (model P w) callerA (.call (.ref fa) ⟨[.ref a],[]⟩) (fun r s'=>r=.ok (.ret (.bool true))∧OldK s₁.heap s'.heap∧s'.os=s₁.os∧AllBare s'.gens) s₁:=by
  intro H hTb hO hS hok hA hK
  have base_of:∀{b:Addr} {o:Obj},s₁.heap.get? b=some o→H b=none→(HG s₁.heap H).get? b=some o:=fun e n=>Kq e n
  have noA:∀{b:Addr} {o:Obj} {es:Array DictEntry} {ep:Nat},s₁.heap.get? b=some o→o.data=.dict es ep→H b=none:=fun {b o es ep} e d=>by
   cases q:H b with
   | none=>rfl
   | some u=>
    rcases hA b (by rw[q];simp)with e' | e'
    ·subst e'
     rw[ha]at e;cases e
     have d':Data.seq vs.toArray _=Data.dict es ep:=d
     cases d'
    ·obtain⟨r,hr',rfl⟩:=List.mem_map.mp e'
     rw[(hT r hr').2]at e
     cases e
     cases d
  have nsK:∀{b:Addr} {m:Str→Option Value},s₁.heap.Ns b m→(HG s₁.heap H).Ns b m:=fun {b m} ⟨o,es,ep,e,d,r⟩=>⟨o,es,ep,base_of e (noA e d),d,r⟩
  have hKb:K.In (HG s₁.heap H):=fun b o e=>base_of (KX b o e) (by
   cases q:H b with
   | none=>rfl
   | some u=>
    rcases hA b (by rw[q];simp)with e' | e'
    ·subst e'
     rw[hK (by rw[q];simp)]at e;cases e
    ·rw[noKT b e']at e;cases e)
  have hM:Mod K mg (HG s₁.heap H):=⟨hKb,nsK hns,⟨mb,nsK hb,hbb⟩,let ⟨mc,h1,h2⟩:=hlim;⟨mc,nsK h1,h2⟩⟩
  have e0:Ku P w K mg (HG s₁.heap H) callerA [] s₁ H:=⟨rfl,hM,fun b o e=>NM e,Nat.le_of_eq (JU _ _),trivial,fun b hb=>absurd (show b∈([]:List Addr)from hb) (by simp),hok,.of_eq hg⟩
  have noB:∀{b:Addr} {o:Obj} {n:String},s₁.heap.get? b=some o→o.cls=.type n→n≠"list"→H b=none:=fun {b o n} e d dn=>by
   cases q:H b with
   | none=>rfl
   | some u=>
    rcases hA b (by rw[q];simp)with e' | e'
    ·subst e'
     rw[ha]at e;cases e
     have d':Value.type "list"=Value.type n:=d
     cases d'
     exact absurd rfl dn
    ·obtain⟨r,hr',rfl⟩:=List.mem_map.mp e'
     rw[(hT r hr').2]at e
     cases e
     cases d
  have hCd:∀ q∈tabs,PySem.W.CodeHd (HG s₁.heap H) q.1 q.2:=fun q hq=>by
   obtain⟨o,vs,file,tf,flags,tg,inF,text,tt,e,ec,r⟩:=(hT q hq).1
   exact⟨o,vs,file,tf,flags,tg,inF,text,tt,base_of e (noB e ec (by decide)),ec,r⟩
  have hBd:BM mg (HG s₁.heap H):=by
   obtain⟨bm,o,b1,b2,b3,b4,b5⟩:=hBM
   exact⟨bm,o,b1,b2,base_of b3 (noB b3 b4 (by decide)),b4,b5⟩
  refine codeAny_mono ((F _ hKb (nsK hns) hCd hBd).run callerA [] s₁ H ⟨[.ref a],[]⟩ [.ref a] [.ref a] _ _ hr e0 (hbind s₁ (.ref a)) (.cons rfl .nil) (hsp H hTb hS)) fun r s' h=>?_
  cases r with
  | error e=>exact(hCX H e s' h).elim
  | ok fl=>
   cases fl with
   | next=>exact False.elim h
   | brk=>exact False.elim h
   | cont=>exact False.elim h
   | ret u=>
    obtain⟨v,H',os,bare,un,hok',r',q⟩:=h
    have q':v=.bl true:=q
    subst q'
    obtain rfl:u=Value.bool true:=r'
    refine⟨rfl,⟨fun b o e=>?_,fun b o e=>un.there b o e (by simp)⟩,os,bare⟩
    by_cases hb:b∈tabs.map (·.2)
    ·obtain⟨q,hq,rfl⟩:=List.mem_map.mp hb
     obtain⟨more,e2⟩:=un.tbls _ _ (hTb q hq)
     have e3:s'.heap.get? q.2=some { cls:=.none,data:=.fields (#[]++more) }:=hok' _ _ e2
     rw[(hT q hq).2]at e
     cases e
     obtain⟨oc,vc,file,tf,flags,tg,inF,text,tt,g1,g2,g3,g4,_⟩:=(hT q hq).1
     exact .inr (.inl ⟨⟨_,_,_,g1,g2,g3,g4⟩,rfl,_,_,rfl,e3⟩)
    ·refine .inl ?_
     rcases hO b hb with q | ⟨ob,xs,z⟩
     ·exact un.keep b o e q (fun z=>absurd (show b∈([]:List Addr)from z) (by simp)) (by simp)
     ·obtain⟨e1,_⟩:=hok b _ z
      obtain⟨e2,_⟩:=hok' b _ (un.frzs b ob _ z)
      rw[e]at e1;cases e1
      exact e2
 have nTa:a∉tabs.map (·.2):=fun hm=>by
  obtain⟨q,hq,e⟩:=List.mem_map.mp hm
  have h1:=(hT q hq).2
  rw[e,ha]at h1
  cases h1
 have tok:∀ q∈tabs,s₁.heap.get? q.2=some { cls:=.none,data:=.fields #[] }:=fun q hq=>(hT q hq).2
 cases hk:K.lookup a with
 | some o=>
  have e:=KX a o hk
  rw[ha]at e
  cases e
  refine core (fun b=>if b∈tabs.map (·.2)then some (.tbl #[])else none) (fun q hq=>if_pos (List.mem_map_of_mem hq)) (fun b hb=>.inl (if_neg hb)) (.inr ⟨_,vs.toArray,_,hk,rfl,rfl,rfl,by rw[List.size_toArray,lenV];exact hl,by simpa using rv⟩) (fun b u z=>?_) (fun b z=>?_) (fun z=>absurd (if_neg nTa) z)
  ·by_cases hb:b∈tabs.map (·.2)
   ·have z':=(if_pos hb).symm.trans z
    cases z'
    obtain⟨q,hq,rfl⟩:=List.mem_map.mp hb
    exact tok q hq
   ·have z':=(if_neg hb).symm.trans z
    cases z'
  ·by_cases hb:b∈tabs.map (·.2)
   ·exact .inr hb
   ·exact absurd (if_neg hb) z
 | none=>
  refine core (fun b=>if b∈tabs.map (·.2)then some (.tbl #[])else if b=a then some (.frz { cls:=.type "list",data:=.seq vs.toArray } (.lst (ns.map V.int)))else none) (fun q hq=>if_pos (List.mem_map_of_mem hq)) (fun b hb=>?_) (.inl (.inr ⟨{ cls:=.type "list",data:=.seq vs.toArray },(if_neg nTa).trans (if_pos rfl)⟩)) (fun b u z=>?_) (fun b z=>?_) (fun _=>hk)
  ·by_cases hba:b=a
   ·exact .inr ⟨_,_,(if_neg hb).trans (if_pos hba)⟩
   ·exact .inl ((if_neg hb).trans (if_neg hba))
  ·by_cases hb:b∈tabs.map (·.2)
   ·have z':=(if_pos hb).symm.trans z
    cases z'
    obtain⟨q,hq,rfl⟩:=List.mem_map.mp hb
    exact tok q hq
   ·by_cases hba:b=a
    ·have z':=((if_neg hb).trans (if_pos hba)).symm.trans z
     cases z'
     subst hba
     exact⟨ha,by rw[List.length_map];exact hl,vs,_,rv,ha⟩
    ·have z':=((if_neg hb).trans (if_neg hba)).symm.trans z
     cases z'
  ·by_cases hb:b∈tabs.map (·.2)
   ·exact .inr hb
   ·by_cases hba:b=a
    ·exact .inl hba
    ·exact absurd ((if_neg hb).trans (if_neg hba)) z
theorem Vm {p:Program}{loose:List Str}{mean:ExcName→Option Value}{mg mb:Str→Option Value}{h:Heap}(T:Top p loose mean mg mb h):BM mg h:=by
 obtain⟨bm,ob,b1,b2,b3,b4,b5,b6⟩:=T.bmain
 refine⟨bm,ob,b1,⟨b2,fun q=>?_⟩,b3,b4,b5,b6⟩
 obtain⟨o,es,ep,e,hd,_⟩:=T.g
 rw[q,e]at b3
 cases b3
 rw[hd]at b6
 cases b6
theorem QC {l:PySem.W.OpenLaw}{n k:Nat}{q:Program}{loose:List Str}{XP:(Str→Option Value)→Heap→Prop}{YP:World→Heap→Prop}{d:DefRec}{K:Params→PySem.W.Frag}{x:Str}
 (hn:l.most=some n) (hn2:n≤sizeLine) (hdf:d.params.defaults=[]) (hr:Bx k callerA) (hY:∀(w:World) (h:Heap),YP w h→(K w.params).In h) (hKT:∀ w:World,PySem.W.noTabs (K w.params)=true)
 (F:∀(w:World) (mean:ExcName→Option Value) (mg mb:Str→Option Value) (fa:Addr) (h:Heap),(K w.params).In h→Top q (PySem.W.looseW q loose) mean mg mb h→mg d.name=some (.ref fa)→
  ∃(fd:FuncData) (tabs:List (Addr×Addr)) (sp:Sp),(∀(s:Shared) (u:Value),BindsTo s fd ⟨[u],[]⟩ [(x,u)])∧PySem.W.TabsAt tabs h∧
   (∀(H:Hp) (a:Addr) (ns:List Int),ns.length≤n→(∀ q∈tabs,H q.2=some (.tbl #[]))→As (K w.params) H a (ns.map V.int)→sp [.ref a] H (fun v _=>v=.bl true) E0)∧
   ∀ base:Heap,(K w.params).In base→base.Ns mainGlobals mg→(∀ q∈tabs,PySem.W.CodeHd base q.1 q.2)→BM mg base→A1 l.prog w (K w.params) mg base Bo k fa fd [x] sp):
 PySem.W.WalkO q loose XP YP l.row.toRowW d [] (fun f vs=>PySem.call f vs):=by
 refine Att.Kz hn hdf fun w s₀ s₁ mg mb fa o pm cd doc a vs ns G Y ho hd hcd hmg hobj hints hlen hg=>?_
 have KX:=hY w _ Y
 obtain⟨fd,tabs,sp,hb,hT,hS,hF⟩:=F w _ mg mb fa _ KX G.T hmg
 exact OZ KX G.T.g G.T.b G.T.builtins G.T.nolimit hg hobj hints (Nat.le_trans hlen hn2) hr (Vm G.T) hF hb hT (hKT w) (fun H hO hS'=>hS H a ns hlen hO hS') fun H e s' h=>h.elim
end L2
namespace L2
open PySem PySem.Spec PyProof.Rows PySem.W
section
variable {prog:Program}{w:World}{A:Around}{E:Value→Shared→Prop}{s:Shared}
theorem Gw {wr:List Addr}{S:Addr}{G:Array GenState→Array GenState→Prop}(gt:∀ a b c,G a b→G b c→G a c){s s' s'':Shared}(a:Moved (S::wr) G s s')(b:Moved (S::wr) G s' s''):Moved (S::wr) G s s'':=
 ⟨fun c o h e=>b.heap c o h (a.heap c o h e),gt _ _ _ a.gens b.gens,b.drawn.trans a.drawn,b.os.trans a.os,Nat.le_trans a.toks b.toks⟩
theorem Su {wr:List Addr}{S:Addr}{G:Array GenState→Array GenState→Prop}{s s':Shared}(a:Moved wr G s s'):Moved (S::wr) G s s':=⟨fun b o h e=>a.heap b o (fun q=>h (List.mem_cons_of_mem _ q)) e,a.gens,a.drawn,a.os,a.toks⟩
theorem QD {K:Type}[DecidableEq K]{knd:KeyKind prog w K}{h h':Heap}{a:Addr}{S:K→Bool}{n:Nat}(x:Heap.SetOf knd h a S n)(k:∀ o,h.get? a=some o→h'.get? a=some o):Heap.SetOf knd h' a S n:=by
 obtain⟨o,es,ep,t,e,r⟩:=x
 exact⟨o,es,ep,t,k o e,r⟩
theorem Mj (z:Str)(t:Tok):(strKind prog w).is z (.str z t)=true:=by
 show Value.isStrOf z (.str z t)=true
 simp[Value.isStrOf]
end
section
variable {X:Cx}
theorem UB:bootBuiltins "set"=some (.type "set"):=by nofun
end
end L2
namespace L2.PSt
open PySem PySem.Spec PyProof.Rows L2
def d0:Str:=⟨#[]⟩
theorem Nd {a b:Str}(h:a.cps.toList=b.cps.toList):a=b:=by
 cases a with
 | mk x=>
  cases b with
  | mk y=>exact congrArg Str.mk (Array.toList_inj.mp h)
section
variable {P:Program}{w:World}{A:Around}{E:Value→Shared→Prop}{s:Shared}
theorem LP {l:Addr}{vs:List Value}{Q:List Value→Shared→Prop}(hl:IsTup s.heap l vs.toArray)
 (h:Q vs { s with heap:=(s.heap.push (seqObj "list" #[] 0)).update s.heap.objs.size (Obj.mapSeq (·++vs.toArray)) }) (hsz:vs.length≤sizeLine):
 wpAny (model P w) A (collect (.ref l)) Q E s:=by
 obtain⟨o,ho,hc,n,hd⟩:=id hl
 unfold collect
 refine wpAny_bind (wpAny_runValue (codeAny_builtin entry_proto_collect' ?_))
 show wpAny _ _ (do again (.builtin "list.__iadd__" ⟨[← newList [],.ref l],[]⟩)) _ _ s
 refine wpAny_bind (wpAny_newList (wpAny_pure ⟨Code.quiet_builtin _ (by nofun),codeAny_builtin entry_list_iadd' ?_⟩))
 show wpAny _ _ (Builtin.List.listExtendWith (.ref s.heap.objs.size) (.ref l) (.ref s.heap.objs.size)) _ _ { s with heap:=s.heap.push (seqObj "list" #[] 0) }
 unfold Builtin.List.listExtendWith
 have ho':(s.heap.push (seqObj "list" #[] 0)).get? l=some o:=Heap.get?_push_of_some _ ho
 refine wpAny_bind (wpAny_typeOf (T:="tuple") ⟨o,ho',hc⟩ ?_)
 have ht:(Value.type "tuple"==Value.type "tuple")=true:=by rfl
 rw[if_pos (by rw[ht];simp)]
 refine wpAny_bind (listItems_at ho' hd ?_)
 refine wpAny_bind (listItems_at (xs:=#[]) (n:=0) (Heap.get?_push_size _ rfl) rfl ?_)
 rw[if_neg (by simp)]
 refine wpAny_bind (listUpdate_at (xs:=#[]) (n:=0) (Heap.get?_push_size _ rfl) rfl ?_ (Nat.zero_le _) (by show(#[]++vs.toArray).size≤sizeLine+1;simp only[Array.size_append,List.size_toArray,List.length_nil];omega))
 refine wpAny_pure ?_
 show wpAny (model P w) A (do
  let o ← load s.heap.objs.size
  match o.data with
  | .seq xs _=>pure xs.toList
  | _=>unsupported "internal:collect") Q E { s with heap:=(s.heap.push (seqObj "list" #[] 0)).update s.heap.objs.size (Obj.mapSeq (·++vs.toArray)) }
 refine wpAny_bind (wpAny_load (get?_update_seq (Heap.get?_push_size _ rfl) _) ?_)
 show wpAny _ _ (pure ((#[]:Array Value)++vs.toArray).toList) Q E _
 rw[show((#[]:Array Value)++vs.toArray).toList=vs by simp]
 exact wpAny_pure h
end
end L2.PSt
namespace L2.KSt
open PySem PySem.Spec PyProof.Rows L2
def slt (p q:Str):Bool:=decide (p.cps.toList<q.cps.toList)
theorem slt_ord (k:Nat→Str):StrT.Ord (fun i j=>slt (k i) (k j)) where
 tr:=fun a b c h1 h2=>by
  simp only[slt,decide_eq_false_iff_not]at *
  exact List.not_lt.mpr (List.le_trans (List.not_lt.mp h1) (List.not_lt.mp h2))
 as:=fun a b h1=>by
  simp only[slt,decide_eq_false_iff_not,decide_eq_true_eq]at *
  exact fun z=>absurd (List.lt_trans h1 z) (List.lt_irrefl _)
def TxAt (v:Value)(z:Str):Prop:=∃ t,v=.str z t
section
variable {P:Program}{w:World}{A:Around}{E:Value→Shared→Prop}{s:Shared}
theorem slt_ask {x y:Value}{p q:Str}(hx:TxAt x p)(hy:TxAt y q){C:Bool→Shared→Prop}(h:C (slt p q) s):
 wpAny (model P w) A (keyLt' oneType' x y) C (fun _ _=>False) s:=by
 obtain⟨t,rfl⟩:=hx
 obtain⟨u,rfl⟩:=hy
 rw[keyLt'_oneType]
 exact oneLt_str h
theorem keys_kind {ks:List Value}{zs:List Str}{Q:SortKind→Shared→Prop}(h2:2≤ks.length)(r:Paired TxAt ks zs)(h:Q oneType' s):wpAny (model P w) A (keyKind' ks.toArray) Q E s:=by
 have key:∀{ks:List Value} {zs:List Str},Paired TxAt ks zs→StrsAre ks zs:=by
  intro ks zs r
  induction r with
  | nil=>exact .nil
  | cons x _ ih=>
   obtain⟨t,rfl⟩:=x
   exact .cons _ _ ih
 match ks,h2,r with
 | v1::v2::vs,_,r=>
  rw[keyKind_strs (key r)]
  exact wpAny_pure h
theorem sort_keyed {D f:Addr}{n:Nat}{vs:List Value}{R:PySem.Fin→Shared→Prop}(ho:s.heap.get? D=some (seqObj "list" vs.toArray n))(h64:vs.length<64)
 (h:∀(hh:Heap) (e1 kS:Nat),(∀ b o,b≠D→s.heap.get? b=some o→hh.get? b=some o)→s.heap.objs.size<kS→hh.get? D=some (seqObj "list" #[] e1)→hh.get? kS=some (seqObj "list" #[] 0)→wpAny (model P w) A (ksk_rest D (.ref f) false vs.toArray e1 (.ref kS)) R E { s with heap:=hh }):
 wpAny (model P w) A (Builtin.«list.sort» ⟨[.ref D],[("key",.ref f)]⟩) R E s:=by
 have hs0:sizeLine=16777216:=sizeLine_eq
 rw[show Builtin.«list.sort» ⟨[.ref D],[("key",.ref f)]⟩=ksk_tree D (.ref f) false from by ksk_a3]
 unfold ksk_tree
 refine wpAny_bind (listItems_at ho rfl (wpAny_bind (listUpdate_at ho rfl ?_ (by rw[List.size_toArray];omega) (Nat.zero_le _))))
 obtain⟨e1,ho1⟩:∃ e1,(s.heap.update D (Obj.mapSeq fun _=>#[])).get? D=some (seqObj "list" #[] e1):=⟨_,get?_update_seq ho _⟩
 refine wpAny_bind (seqEpoch_at ho1 rfl (wpAny_bind (wpAny_newTuple (wpAny_bind (wpAny_newList (wpAny_holding ?_) (Nat.zero_le _))) (by show vs.length≤_;omega))))
 refine h _ e1 _ (fun b o hb e=>Heap.get?_push_of_some _ (Heap.get?_push_of_some _ ((Heap.get?_update_ne _ _ _ _ hb).trans e))) ?_ (Heap.get?_push_of_some _ (Heap.get?_push_of_some _ ho1)) (Heap.get?_push_size _ rfl)
 show s.heap.objs.size<(Heap.push _ _).objs.size
 rw[size_push',Heap.size_update];exact Nat.lt_succ_self _
end
end L2.KSt
namespace L2
open PySem PySem.Spec PyProof.Rows
theorem Rk {q:Str}{H:Hp}:put q H (Jj q H)=H:=by
 funext b
 cases w:kn q (H b)with
 | none=>rw[DV w,KE w]
 | some o=>rw[Mh w,Hf w]
section
variable {X:Cx}{pins:List (Addr×Obj)}{σ:St}{H:Hp}{s:Shared}{h':Heap}
theorem Ap.adopt {t':Nat}{it:Addr}{o:HO}(I:Ap X pins σ H s)(k:∀ b u,b≠it→s.heap.get? b=some u→h'.get? b=some u)(f:FI X pins H it)
 (new:BI X.prog X.w (upd H it o) h' it o):Ap X pins σ (upd H it o) { s with heap:=h',toks:=t' }:=by
 obtain⟨f0,f1,f2,f3,f4,f5⟩:=f
 have nit:∀ b u,H b=some u→b≠it:=fun b u e z=>by rw[z,f0]at e;cases e
 refine I.step (g':=s.gens) (d':=s.drawn) (ch:=[it]) (fun b hb=>?_) (fun b o _ _ hc e _=>k b o (fun z=>hc (by simp[z])) e) (fun b o _ _ hc e _=>⟨o.slots,k b o (fun z=>hc (by simp[z])) e⟩) (fun b _ hc _ n=>by rw[Ab (fun z=>hc (by simp[z]))];exact n)
  (fun b o hc e=>⟨o,k b o (fun z=>hc (by simp[z])) e⟩) (fun b _ e=>by rw[Ab (nit b _ e)];exact e) (fun b _ _ e=>by rw[Ab (nit b _ e)];exact e) (fun b ps e=>⟨#[],by rw[Ab (nit b _ e),e];simp⟩) (fun m hm=>?_) (fun b u e=>?_) I.bare
 ·have e:b=it:=by simpa using hb
  subst e
  exact⟨f3,f1,f4,f5⟩
 ·obtain⟨o,es,ep,ho,r⟩:=hm
  exact⟨o,es,ep,k _ o (Ne.symm f1) ho,r⟩
 ·by_cases hb:b=it
  ·subst hb
   rw[AE]at e
   cases e
   exact new
  ·rw[Ab hb]at e
   refine(I.hok b u e).stay (fun c v hc q=>k c v ?_ q) (fun c q=>by rw[Ab (nit c _ q)];exact q) fun c xs q=>by rw[Ab (nit c _ q)];exact q
   rcases hc with z | z
   ·rw[z];exact hb
   ·exact nit c _ z
end
theorem Br {X:Cx}{elt iter:Expr}{ifs:List Expr}{x:Str}{px pos:Pos}{scope:Scope}{cl:List (Str×Addr)}{fv:List Str}{js:List Nat}{wi:TI}{tt:TT}{te:TE}(hc:X.calm=true)(hclos:closureFor scope X.env=pure cl)
 (S:CH X scope cl x fv js) (hi:PI X (.Name x px) iter wi)
 (ht:∀(C:Addr) (s₀:Shared) (H₀:Hp) (ex:List Addr) (pn:List (Addr×Obj)),PF (B5 X scope cl C (x::fv) s₀ H₀ ex pn) ifs tt)
 (he:∀(C:Addr) (s₀:Shared) (H₀:Hp) (ex:List Addr) (pn:List (Addr×Obj)),PE (B5 X scope cl C (x::fv) s₀ H₀ ex pn) elt te)
 (hs:∀ x,foldedSetIterable iter X.env x=pure x:=by intro _;rfl):PE X (.ListComp elt [⟨.Name x px,iter,ifs,0⟩] scope pos) (Pa wi js tt te):=by
 intro pins s σ H Q I h
 rw[eval_ListComp]
 refine K8 (use:=none) hc hclos S hi ht he hs I h ?_
 intro L s3 H3 fp pn N pins' σ' H' s' I3 f3 J q
 obtain⟨mm,hn,_⟩:=id J.loc
 exact⟨mm,hn,fun h'' sb=>⟨.ref _,H',K0 I3 f3 J sb,rfl,q⟩⟩
end L2
namespace L2.TSt
open PySem PySem.Spec PyProof.Rows PySem.W L2
def fI (m i:Nat):Nat:=(i*5+1)%(m+1)
def Rl (m:Nat):Nat→Nat→Nat
 | 0,i=>i
 | n+1,i=>Rl m n (fI m i)
theorem KG (m a b i:Nat):Rl m (a+b) i=Rl m b (Rl m a i):=by
 induction a generalizing i with
 | zero=>rw[Nat.zero_add];rfl
 | succ a ih=>rw[Nat.succ_add];exact ih (fI m i)
def Xh (m:Nat):Nat→Nat→List Nat
 | 0,_=>[]
 | n+1,i=>i::Xh m n (fI m i)
theorem Nf {m e:Nat}:∀{n i:Nat},e∈Xh m n i→∃ k,k<n∧Rl m k i=e
 | 0,_,h=>nomatch h
 | n+1,i,h=>by
  rcases List.mem_cons.mp h with h | h
  ·exact⟨0,Nat.succ_pos _,h.symm⟩
  ·obtain⟨k,a,b⟩:=Nf h
   exact⟨k+1,Nat.succ_lt_succ a,b⟩
def YH (m:Nat):Bool:=decide (Rl m (m+1) 0=0)&&(List.range (m+1)).all fun e=>(Xh m (m+1) 0).contains e
def O7 (m:Nat):Prop:=m=7∨m=31∨m=127
theorem UC {m:Nat}(h:O7 m):YH m=true:=by
 rcases h with rfl | rfl | rfl <;> nofun
theorem Xi {m i e:Nat}(h:O7 m)(hi:i≤m)(he:e≤m):∃ k,k≤m∧Rl m k i=e:=by
 have h:=UC h
 unfold YH at h
 rw[Bool.and_eq_true,decide_eq_true_eq,List.all_eq_true]at h
 have f:∀ x,x≤m→∃ k,k<m+1∧Rl m k 0=x:=fun x hx=>Nf (List.elem_iff.mp (h.2 x (List.mem_range.mpr (Nat.lt_succ_of_le hx))))
 obtain⟨a,ha,ea⟩:=f i hi
 obtain⟨b,hb,eb⟩:=f e he
 by_cases c:a≤b
 ·refine⟨b-a,by omega,?_⟩
  rw[← ea,← KG,Nat.add_sub_cancel' c,eb]
 ·refine⟨b+(m+1)-a,by omega,?_⟩
  rw[← ea,← KG,show a+(b+(m+1)-a)=(m+1)+b by omega,KG,h.1,eb]
def lp (m:Nat):Nat→Nat×Nat→Nat×Nat
 | 0,p=>p
 | n+1,p=>lp m n (SetTable.leap m p.1 p.2)
theorem Sv {m:Nat}:∀(n:Nat) {p:Nat×Nat},p.1≤m→(lp m n p).1≤m
 | 0,_,h=>h
 | n+1,p,_=>Sv n (Nat.le_of_lt_succ (Nat.mod_lt _ (Nat.succ_pos _)))
theorem Vn {m:Nat}:∀(n i:Nat),lp m n (i,0)=(Rl m n i,0)
 | 0,i=>rfl
 | n+1,i=>by
  show lp m n (SetTable.leap m i 0)=_
  rw[show SetTable.leap m i 0=(fI m i,0)by simp[SetTable.leap,fI]]
  exact Vn n _
theorem QE {m:Nat}:∀(a b:Nat) (p:Nat×Nat),lp m (a+b) p=lp m b (lp m a p)
 | 0,b,p=>by rw[Nat.zero_add];rfl
 | a+1,b,p=>by rw[Nat.succ_add];exact QE a b _
theorem Vo {m:Nat}:∀(n:Nat) (p:Nat×Nat),(lp m n p).2=p.2 / 32 ^ n
 | 0,p=>by rw[Nat.pow_zero,Nat.div_one];rfl
 | n+1,p=>by
  show(lp m n (SetTable.leap m p.1 p.2)).2=_
  rw[Vo n,show(SetTable.leap m p.1 p.2).2=p.2 / 32 from rfl,Nat.div_div_eq_div_mul,Nat.pow_succ,Nat.mul_comm 32]
theorem Ng {m:Nat}{p:Nat×Nat}(h:O7 m)(hi:p.1≤m)(hp:p.2<2 ^ 64){e:Nat}(he:e≤m):∃ k,1≤k∧k≤m+13∧(lp m k p).1=e:=by
 have z:(lp m 13 p).2=0:=by rw[Vo];exact Nat.div_eq_of_lt (Nat.lt_trans hp (by decide))
 obtain⟨k,hk,ek⟩:=Xi h (Sv 13 hi) he
 refine⟨13+k,by omega,by omega,?_⟩
 rw[QE,show lp m 13 p=((lp m 13 p).1,0)by rw[← z],Vn]
 exact ek
def Dl (t:SetTable):Nat→SetTable.Probe→SetTable.Probe
 | 0,p=>p
 | n+1,p=>Dl t n (t.advance p)
theorem FA (t:SetTable):∀(a b:Nat) (p:SetTable.Probe),Dl t (a+b) p=Dl t b (Dl t a p)
 | 0,b,p=>by rw[Nat.zero_add];rfl
 | a+1,b,p=>by rw[Nat.succ_add];exact FA t a b _
theorem DW (t:SetTable):∀(n:Nat) (p:SetTable.Probe),p.more=n→Dl t (n+1) p={ p with j:=(SetTable.leap t.mask p.i p.perturb).1,more:=SetTable.runEnd t.mask (SetTable.leap t.mask p.i p.perturb).1-(SetTable.leap t.mask p.i p.perturb).1,i:=(SetTable.leap t.mask p.i p.perturb).1,perturb:=(SetTable.leap t.mask p.i p.perturb).2 }
 | 0,p,h=>by
  show t.advance p=_
  unfold SetTable.advance
  rw[if_neg (by omega)]
 | n+1,p,h=>by
  show Dl t (n+1) (t.advance p)=_
  have e:t.advance p={ p with j:=p.j+1,more:=p.more-1 }:=by
   unfold SetTable.advance
   rw[if_pos (by omega)]
  rw[DW t n _ (by rw[e];show p.more-1=n;omega),e]
theorem II (m i:Nat):SetTable.runEnd m i-i≤9:=by unfold SetTable.runEnd;split <;> omega
theorem QF (t:SetTable):∀(k:Nat) (p:SetTable.Probe),p.more≤9→∃ n,n≤10*(k+1)∧(Dl t n p).j=(lp t.mask (k+1) (p.i,p.perturb)).1∧(Dl t n p).i=(lp t.mask (k+1) (p.i,p.perturb)).1∧(Dl t n p).perturb=(lp t.mask (k+1) (p.i,p.perturb)).2∧(Dl t n p).more≤9
 | 0,p,h=>⟨p.more+1,by omega,by rw[DW t _ p rfl];rfl,by rw[DW t _ p rfl];rfl,by rw[DW t _ p rfl];rfl,by rw[DW t _ p rfl];exact II _ _⟩
 | k+1,p,h=>by
  obtain⟨n,a,b,c,d,e⟩:=QF t k _ (show(Dl t (p.more+1) p).more≤9 by rw[DW t _ p rfl];exact II _ _)
  refine⟨p.more+1+n,by omega,?_⟩
  rw[FA]
  have q:lp t.mask (k+1) ((Dl t (p.more+1) p).i,(Dl t (p.more+1) p).perturb)=lp t.mask (k+1+1) (p.i,p.perturb):=by rw[DW t _ p rfl];rfl
  rw[q]at b c d
  exact⟨b,c,d,e⟩
structure Sw (t:SetTable)(p:SetTable.Probe):Prop where
 hi:p.i≤t.mask
 hp:p.perturb<2 ^ 64
 hm:p.more≤9
 hd:p.dummy=none
theorem Sw.next {t:SetTable}{p:SetTable.Probe}(h:Sw t p):Sw t (t.advance p):=by
 unfold SetTable.advance
 split
 ·exact⟨h.hi,h.hp,(by have:=h.hm;show p.more-1≤9;omega),h.hd⟩
 ·exact⟨Nat.le_of_lt_succ (Nat.mod_lt _ (Nat.succ_pos _)),Nat.lt_of_le_of_lt (Nat.div_le_self _ _) h.hp,II _ _,h.hd⟩
theorem Jl (t:SetTable)(h:Int):Sw t (t.probeStart h):=by
 refine⟨Nat.le_of_lt_succ (Nat.mod_lt _ (Nat.succ_pos _)),?_,II _ _,rfl⟩
 show SetTable.bits h<_
 unfold SetTable.bits
 have:=Int.emod_lt_of_pos h (show(0:Int)<2 ^ 64 by decide)
 have:=Int.emod_nonneg h (show(2 ^ 64:Int)≠0 by decide)
 omega
theorem Vp {t:SetTable}{p:SetTable.Probe}(h:O7 t.mask)(s:Sw t p){e:Nat}(he:e≤t.mask):∃ n,n<10*SetTable.turns t.mask∧(Dl t n p).j=e:=by
 obtain⟨k,k1,k2,ek⟩:=Ng h (p:=(p.i,p.perturb)) s.hi s.hp he
 obtain⟨n,a,b,_⟩:=QF t (k-1) p s.hm
 rw[show k-1+1=k by omega]at a b
 exact⟨n,by unfold SetTable.turns;omega,by rw[b,ek]⟩
theorem QG {t:SetTable}{e:Nat}(hd:t.dummies=#[])(h:e∉t.place.toList):t.slot e=.empty:=by
 unfold SetTable.slot
 rw[hd]
 dsimp only
 rw[if_neg,if_neg (by simp[SetTable.has])]
 intro z
 rw[beq_iff_eq]at z
 exact h (Array.mem_toList_iff.mpr (Array.mem_of_getElem? z))
theorem Oa {t:SetTable}{j i:Nat}(h:t.slot j=.live i):i<t.place.size:=by
 unfold SetTable.slot at h
 dsimp only at h
 split at h
 ·rename_i c
  cases h
  rw[beq_iff_eq]at c
  exact(Array.getElem?_eq_some_iff.mp c).1
 ·split at h <;> cases h
theorem Ob {t:SetTable}(hd:t.dummies=#[])(hs:t.place.size≤t.mask):∃ e,e≤t.mask∧t.slot e=.empty:=by
 apply Classical.byContradiction
 intro no
 have all:∀ e∈List.range (t.mask+1),e∈t.place.toList:=fun e he=>Classical.byContradiction fun z=>no ⟨e,Nat.le_of_lt_succ (List.mem_range.mp he),QG hd z⟩
 have:=(List.nodup_range (n:=t.mask+1)).length_le_of_subset all
 rw[List.length_range,Array.length_toList]at this
 omega
def HJ (l:List (Option Nat)):Nat:=l.countP (·.isSome)
theorem Nh {k:Nat}:∀{l:List (Option Nat)} {j:Nat},l[j]?=some none→HJ (l.set j (some k))=HJ l+1
 | [],j,h=>by simp at h
 | x::l,0,h=>by
  simp at h
  subst h
  simp[HJ]
 | x::l,j+1,h=>by
  have ih:=Nh (k:=k) (l:=l) (j:=j) (by simpa using h)
  unfold HJ at ih ⊢
  rw[List.set_cons_succ,List.countP_cons,List.countP_cons,ih]
  omega
theorem LQ:∀{l:List (Option Nat)},HJ l<l.length→∃ j:Nat,l[j]?=some none
 | [],h=>absurd h (Nat.not_lt_zero _)
 | none::l,_=>⟨0,rfl⟩
 | some x::l,h=>by
  unfold HJ at h
  rw[List.countP_cons,List.length_cons]at h
  obtain⟨j,hj⟩:=LQ (l:=l) (by unfold HJ;simp at h;omega)
  exact⟨j+1,hj⟩
theorem Ni {m:Nat}{owner:Array (Option Nat)}{e:Nat}(hs:owner.size=m+1)(he:owner[e]?=some none):∀(k fuel i p:Nat),k<fuel→(lp m k (i,p)).1=e→∃ j,SetTable.layClean.free m owner fuel i p=some j∧owner[j]?=some none
 | k,0,i,p,h,_=>absurd h (Nat.not_lt_zero _)
 | k,fuel+1,i,p,h,hl=>by
  unfold SetTable.layClean.free
  have g:∀ x,(owner.getD x (some 0)).isNone=true→owner[x]?=some none:=fun x hx=>by
   rw[Array.getD_eq_getD_getElem?]at hx
   cases q:owner[x]? with
   | none=>rw[q]at hx;simp at hx
   | some y=>rw[q]at hx;cases y with
    | none=>rfl
    | some z=>simp at hx
  cases hf:(List.range (SetTable.runEnd m i+1-i)).find? fun k=>(owner.getD (i+k) (some 0)).isNone with
  | some x=>exact⟨i+x,rfl,g _ (List.find?_some (p:=fun k=>(owner.getD (i+k) (some 0)).isNone) hf)⟩
  | none=>
   cases k with
   | zero=>
    exfalso
    have ei:i=e:=hl
    have:=List.find?_eq_none.mp hf 0 (List.mem_range.mpr (by unfold SetTable.runEnd;split <;> omega))
    apply this
    rw[Nat.add_zero,ei,Array.getD_eq_getD_getElem?,he]
    rfl
   | succ k=>exact Ni hs he k fuel _ _ (by omega) hl
theorem Rm (h:Int):SetTable.bits h<2 ^ 64:=by
 unfold SetTable.bits
 have:=Int.emod_lt_of_pos h (show(0:Int)<2 ^ 64 by decide)
 have:=Int.emod_nonneg h (show(2 ^ 64:Int)≠0 by decide)
 omega
def UD (m n:Nat)(owner:Array (Option Nat)):Prop:=owner.size=m+1∧HJ owner.toList=n∧∀ j k:Nat,owner[j]?=some (some k)→k<n
theorem LR {l:List (Option Nat)}{owner:Array (Option Nat)}(e:owner.toList=l):∀ n,n≤l.length→((List.range n).filterMap fun j=>(owner.getD j none).map (j,·)).length=HJ (l.take n)
 | 0,_=>rfl
 | n+1,h=>by
  have hn:n<l.length:=h
  rw[List.range_succ,List.filterMap_append,List.length_append,LR e n (by omega),List.take_add_one,List.getElem?_eq_getElem hn]
  unfold HJ
  rw[List.countP_append]
  congr 1
  have g:owner.getD n none=l[n]:=by
   subst e
   rw[Array.getD_eq_getD_getElem?,← Array.getElem?_toList,List.getElem?_eq_getElem hn]
   rfl
  rw[List.filterMap_cons,g]
  cases l[n] <;> rfl
end L2.TSt
namespace L2.TSt
open PySem PySem.Spec PyProof.Rows PySem.W L2
section
variable {P:Program}{w:World}{A:Around}{E:Value→Shared→Prop}{s:Shared}
abbrev TK (P:Program)(w:World):=tupleKind (Bf P w)
theorem Hg {h h':Heap}{S:Addr}{o:Obj}{es ep t}{k:List BY}{a:Addr}(hS:h.get? S=some o)(hd:o.data=.set es ep t)(hk:∀ b u,b≠S→h.get? b=some u→h'.get? b=some u)(x:(TK P w).is h k a):(TK P w).is h' k a:=by
 obtain⟨u,items,n,ho,hc,hd',hi⟩:=x
 refine⟨u,items,n,hk a u (fun z=>?_) ho,hc,hd',hi⟩
 subst z
 rw[hS]at ho
 cases ho
 rw[hd]at hd'
 cases hd'
theorem Sx {k:List BY}{a:Addr}{n:Nat}{Q:Bool→Shared→Prop}(hk:(TK P w).is s.heap k a)(h:Q false s):wpAny (model P w) A (ofAClassStatement (n+1) (.ref a)) Q E s:=by
 have hT:=IsTupleKey.typeIs hk
 obtain⟨o,items,m,ho,_,hd,hi⟩:=hk
 unfold ofAClassStatement
 refine wpAny_bind (wpAny_typeOf hT ?_)
 dsimp only
 rw[if_pos (by decide)]
 refine wpAny_bind (wpAny_pure ?_)
 simp only[Bool.not_true,Bool.false_eq_true,if_false]
 refine wpAny_bind (wpAny_seqItems ho hd ?_)
 dsimp only
 refine wpAny_bind ?_
 show wpAny _ _ (forIn items _ _) _ _ s
 rw[← Array.forIn_toList]
 refine wpAny_forIn_list _ (fun rest r s'=>r.1=none∧s'=s∧∀ v∈rest,carriedByValue v=true) _ ?_ ?_ _ _ ⟨rfl,rfl,hi.byValue⟩
 ·rintro v rest r s' ⟨hr,rfl,hall⟩
  have hv:=hall v List.mem_cons_self
  have e:ofAClassStatement n v=pure false:=by
   cases v with
   | ref b=>simp[carriedByValue]at hv
   | _=>cases n <;> rfl
  rw[e]
  refine wpAny_bind (wpAny_pure ?_)
  simp only[Bool.false_eq_true,if_false]
  exact wpAny_pure ⟨rfl,rfl,fun u hu'=>hall u (List.mem_cons_of_mem _ hu')⟩
 ·rintro⟨r1,r2⟩ s' ⟨hr,rfl,_⟩
  simp only at hr
  subst hr
  exact wpAny_pure h
theorem UE {k:List BY}{a:Addr}{ys:List Value}{Q:Bool→Shared→Prop}(hk:(TK P w).is s.heap k a)(hy:∀ y∈ys,∃ k b,y=.ref b∧(TK P w).is s.heap k b)(h:Q false s):wpAny (model P w) A (searchCouldBeSeen (.ref a) ys) Q E s:=by
 unfold searchCouldBeSeen
 refine wpAny_bind ?_
 refine wpAny_forIn_list _ (fun rest r s'=>r.1=none∧s'=s∧∀ v∈rest,v∈ys) _ ?_ ?_ _ _ ⟨rfl,rfl,fun v hv=>hv⟩
 ·rintro v rest r s' ⟨hr,rfl,hall⟩
  obtain⟨k2,b,rfl,hb⟩:=hy v (hall v List.mem_cons_self)
  have go:∀ u∈rest,u∈ys:=fun u hu=>hall u (List.mem_cons_of_mem _ hu)
  dsimp only
  split
  ·exact wpAny_pure ⟨rfl,rfl,go⟩
  ·refine wpAny_bind ((TK P w).quiet hk ?_)
   simp only[Bool.not_true,Bool.false_eq_true,if_false]
   refine wpAny_bind ((TK P w).quiet hb ?_)
   simp only[Bool.not_true,Bool.false_eq_true,if_false]
   refine wpAny_bind (Sx hk ?_)
   simp only[Bool.false_eq_true,if_false]
   refine wpAny_bind (Sx hb ?_)
   simp only[Bool.false_eq_true,if_false]
   exact wpAny_pure ⟨rfl,rfl,go⟩
 ·rintro⟨r1,r2⟩ s' ⟨hr,rfl,_⟩
  simp only at hr
  subst hr
  exact wpAny_pure h
theorem QH {t:SetTable}(h:O7 t.mask):t.gaveWay=false:=by
 unfold SetTable.gaveWay
 rcases h with h | h | h <;> rw[h] <;> rfl
theorem FC {t:SetTable}{n:Nat}(h1:t.place.size=n)(h2:t.dummies=#[])(h3:n≤t.mask):t.fits n=true:=by
 unfold SetTable.fits SetTable.fill
 simp[h1,h2,h3]
theorem QI {k:List BY}{a:Addr}{n:Nat}{Q:Bool→Shared→Prop}(hk:(TK P w).is s.heap k a)(h:∀ b,Q b s):wpAny (model P w) A (hashByValue (n+1) (.ref a)) Q E s:=by
 have hT:=IsTupleKey.typeIs hk
 obtain⟨o,items,m,ho,_,hd,hi⟩:=hk
 unfold hashByValue
 refine wpAny_bind (wpAny_specialOf hT F.slot_tuple_hash.lookup ?_)
 dsimp only
 refine wpAny_bind (wpAny_seqItems ho hd ?_)
 refine wpAny_bind ?_
 show wpAny _ _ (forIn items _ _) _ _ s
 rw[← Array.forIn_toList]
 refine wpAny_forIn_list _ (fun rest r s'=>s'=s∧∀ v∈rest,carriedByValue v=true) _ ?_ ?_ _ _ ⟨rfl,hi.byValue⟩
 ·rintro v rest r s' ⟨rfl,hall⟩
  have hv:=hall v List.mem_cons_self
  obtain⟨b,e⟩:∃ b,hashByValue n v=pure b:=by
   cases v with
   | ref b=>simp[carriedByValue]at hv
   | _=>cases n <;> exact⟨_,rfl⟩
  rw[e]
  refine wpAny_bind (wpAny_pure ?_)
  cases b with
  | true=>
   simp only[Bool.not_true,Bool.false_eq_true,if_false]
   exact wpAny_pure ⟨rfl,fun u hu'=>hall u (List.mem_cons_of_mem _ hu')⟩
  | false=>
   simp only[Bool.not_false,if_true]
   exact wpAny_pure (wpAny_pure (h _))
 ·rintro⟨r1,r2⟩ s' ⟨rfl,_⟩
  cases r1 with
  | none=>exact wpAny_pure (h _)
  | some r=>exact wpAny_pure (h _)
theorem QJ (a:Addr)(wanted:Nat):setRelay a wanted=(do
 let (es,_,t) ← setState a
 if SetTable.sizeAbove wanted>sizeLine then unsupported "set:memory"
 let (es,t) ← (do
  let some (t,order):=t.relaid (es.map (·.1)) wanted | unsupported "internal:set-table-without-room"
  let es':=order.filterMap (es[·]?)
  if es'.size != es.size then unsupported "internal:set-table-lost-an-element"
  pure (es',t))
 storeSet a es t):=rfl
end
end L2.TSt
namespace L2.TSt
open PySem PySem.Spec PyProof.Rows PySem.W L2
section
variable {prog:Program}{w:World}{A:Around}{E:Value→Shared→Prop}{s:Shared}
def QK (prog:Program)(w:World)(A:Around)(S:Addr)(n:Nat)(P:Nat→Value→Prop)(T:Nat→Heap→Prop):Prop:=
 ∀(i:Nat) (v:Value) (s':Shared) (Q:Bool→Shared→Prop) (E:Value→Shared→Prop),i<n→P i v→T i s'.heap→(∀ b h' tk,(∀ c o,c≠S→s'.heap.get? c=some o→h'.get? c=some o)→s'.toks≤tk→T (i+1) h'→Q b { s' with heap:=h',toks:=tk })→wpAny (model prog w) A (setAdd S v) Q E s'
theorem Oc {R:Result→Shared→Prop}{I:Addr}{fp wr:List Addr}{G:Array GenState→Array GenState→Prop}{n:Nat}{P:Nat→Value→Prop}{St:Nat→Shared→Prop}
 (W:WalksS prog w A.in1 I fp wr G n P St) (S:Addr) (hS:S∉fp) {T:Nat→Heap→Prop} (keep:∀ i h h',T i h→(∀ b o,b∉wr→h.get? b=some o→h'.get? b=some o)→T i h') (step:QK prog w A.in1 S n P T):
 ∀(k i:Nat) (s:Shared),n-i=k→i≤n→St i s→T i s.heap→(∀ s',Moved (S::wr) G s s'→T n s'.heap→R (.ok (.ret .none)) s')→
 codeAny (model prog w) A (.builtin "set.update.loop" ⟨[.ref S,.ref I],[]⟩) R s:=by
 intro k
 induction k with
 | zero=>
  intro i s hk hi hst hso hR
  have e:i=n:=by omega
  subst e
  refine codeAny_builtin F.entry_set_update_loop ?_
  refine wpAny_bind (W.done s _ _ hst fun s' hm=>?_)
  exact wpAny_pure (hR s' (Su hm) (keep _ _ _ hso fun b o hb e=>hm.heap b o hb e))
 | succ k ih=>
  intro i s hk hi hst hso hR
  have hlt:i<n:=by omega
  refine codeAny_builtin F.entry_set_update_loop ?_
  refine wpAny_bind (W.item i s _ _ hlt hst fun v s' hp hst' hm=>?_)
  refine wpAny_bind (wpAny_holding (step i v s' _ _ hlt hp (keep _ _ _ hso fun b o hb e=>hm.heap b o hb e) fun b h' tk hkp htk hT=>?_))
  have mv:Moved (S::wr) G s' { s' with heap:=h',toks:=tk }:=⟨fun b o hb e=>hkp b o (fun q=>hb (by rw[q];simp)) e,W.grefl _,rfl,rfl,htk⟩
  refine wpAny_pure ⟨plainId_quiet F.plain_set_update_loop _,ih (i+1) _ (by omega) (by omega) ?_ hT fun s2 hm2 hso3=>hR s2 (Gw W.gtrans (Su hm) (Gw W.gtrans mv hm2)) hso3⟩
  exact W.frame (i+1) s' h' _ hst' htk fun b hb o e=>hkp b o (fun q=>hS (q▸hb)) e
theorem Od {R:Result→Shared→Prop}{l S:Addr}{led:Bool}{ty:String}{ob:Obj}{n:Nat}{P:Nat→Value→Prop}{St:Nat→Shared→Prop}{T:Nat→Heap→Prop}(hty:ty="list"∨ty="tuple")(tl:s.TypeIs (.ref l) ty)(hS:s.heap.get? S=some { cls:=.type "set",data:=.set #[] 0 (SetTable.fresh 0 0 led) })(hSl:S≠l)
 (it:∀(Q:Value→Shared→Prop) (E:Value→Shared→Prop),Q (.ref s.heap.objs.size) { s with heap:=s.heap.push ob }→wpAny (model prog w) A.in1 (pyIter (.ref l)) Q E s)
 (W:WalksS prog w A.in1.in1 s.heap.objs.size [s.heap.objs.size,l] [s.heap.objs.size] (fun a b=>b=a) n P St) (st0:St 0 { s with heap:=s.heap.push ob })
 (keep:∀ i h h',T i h→(∀ b o,b∉[s.heap.objs.size]→h.get? b=some o→h'.get? b=some o)→T i h') (step:QK prog w A.in1.in1 S n P T) (hT0:T 0 (s.heap.push ob))
 (hR:∀ h' tk,(∀ b o,b≠S→s.heap.get? b=some o→h'.get? b=some o)→T n h'→R (.ok (.ret .none)) { s with heap:=h',toks:=tk }):
 wpAny (model prog w) A.in1 (Builtin.«set.__init__» ⟨[.ref S,.ref l],[]⟩)
  (fun fin s'=>match fin with | .done f=>R (.ok f) s' | .again c'=>c'.quiet=true∧codeAny (model prog w) A c' R s') (fun e s'=>R (.error e) s') s:=by
 have tS:s.TypeIs (.ref S) "set":=⟨_,hS,rfl⟩
 unfold Builtin.«set.__init__»
 refine wpAny_bind (show wpAny _ _ (pure ()) _ _ s from wpAny_pure ?_)
 dsimp only
 refine wpAny_bind ?_
 unfold typeNameOfCut shownTypeOf
 refine wpAny_bind (wpAny_bind (wpAny_typeOf tS ?_))
 rw[if_neg (by decide)]
 refine wpAny_pure (show wpAny _ _ (pure _) _ _ s from wpAny_pure ?_)
 refine wpAny_bind (show wpAny _ _ (pure ()) _ _ s from wpAny_pure ?_)
 refine wpAny_bind (show wpAny _ _ (pure S) _ _ s from wpAny_pure ?_)
 unfold setUsed
 refine wpAny_bind (wpAny_bind (wpAny_setState_of hS rfl rfl (wpAny_pure ?_)))
 rw[if_neg (show ¬ ((#[],0,SetTable.fresh 0 0 led).snd.snd.fill != 0)=true from(by intro h;cases h))]
 refine wpAny_bind ?_
 unfold Builtin.Frozenset.updateFrom Builtin.Frozenset.isAnySet
 refine wpAny_bind ?_
 refine wpAny_bind (wpAny_isInstance (b:=false) tl (by rcases hty with rfl | rfl <;> rw[isSubtype_type] <;> kernel_rfl) ?_)
 refine(show wpAny _ _ (isInstance (.ref l) (.type "frozenset")) _ _ s from ?_)
 refine wpAny_isInstance (b:=false) tl (by rcases hty with rfl | rfl <;> rw[isSubtype_type] <;> kernel_rfl) ?_
 rw[if_neg (by decide)]
 refine wpAny_bind (wpAny_typeOf tl ?_)
 rw[if_neg (by rcases hty with rfl | rfl <;> decide)]
 have hSn:S≠s.heap.objs.size:=Nat.ne_of_lt (Heap.lt_size hS)
 have hSf:S∉[s.heap.objs.size,l]:=fun hm=>by
  rcases List.mem_cons.mp hm with e | hm
  ·exact hSn e
  ·exact hSl (List.mem_singleton.mp hm)
 refine wpAny_bind (it _ _ ?_)
 refine wpAny_bind (wpAny_runValue ?_)
 refine Oc W S hSf keep step n 0 _ rfl (Nat.zero_le _) st0 hT0 fun s' hm hso=>?_
 refine wpAny_pure (show wpAny _ _ (pure _) _ _ _ from wpAny_pure ?_)
 rw[Moved.eq_with hm]
 refine hR s'.heap s'.toks (fun b o hb e=>hm.heap b o (fun hmem=>?_) (Heap.get?_push_of_some _ e)) hso
 rcases List.mem_cons.mp hmem with e' | hmem
 ·exact hb e'
 ·have:=List.mem_singleton.mp hmem
  rw[this]at e
  exact absurd (Heap.lt_size e) (Nat.lt_irrefl _)
theorem IJ {R:Result→Shared→Prop}{l S:Addr}{led:Bool}{ty:String}{ob:Obj}{n:Nat}{P:Nat→Value→Prop}{St:Nat→Shared→Prop}{T:Nat→Heap→Prop}(hty:ty="list"∨ty="tuple")(tl:s.TypeIs (.ref l) ty)(hS:s.heap.get? S=some { cls:=.type "set",data:=.set #[] 0 (SetTable.fresh 0 0 led) })(hSl:S≠l)
 (it:∀(Q:Value→Shared→Prop) (E:Value→Shared→Prop),Q (.ref s.heap.objs.size) { s with heap:=s.heap.push ob }→wpAny (model prog w) A.in1 (pyIter (.ref l)) Q E s)
 (W:WalksS prog w A.in1.in1 s.heap.objs.size [s.heap.objs.size,l] [s.heap.objs.size] (fun a b=>b=a) n P St) (st0:St 0 { s with heap:=s.heap.push ob })
 (keep:∀ i h h',T i h→(∀ b o,b∉[s.heap.objs.size]→h.get? b=some o→h'.get? b=some o)→T i h') (step:QK prog w A.in1.in1 S n P T) (hT0:T 0 (s.heap.push ob))
 (hR:∀ h' tk,(∀ b o,b≠S→s.heap.get? b=some o→h'.get? b=some o)→T n h'→R (.ok (.ret .none)) { s with heap:=h',toks:=tk }):
 codeAny (model prog w) A (.call (.builtin "set.__init__") ⟨[.ref S,.ref l],[]⟩) R s:=
 codeAny_call_builtin F.called_set.init.plain F.entry_set_init (check_set_init_1 ⟨_,hS,rfl⟩ (Od hty tl hS hSl it W st0 keep step hT0 hR))
theorem Jm {Q:Value→Shared→Prop}{l:Addr}{ty:String}{ob:Obj}{n:Nat}{P:Nat→Value→Prop}{St:Addr→Nat→Shared→Prop}{T:Addr→Addr→Nat→Heap→Prop}(hty:ty="list"∨ty="tuple")(tl:s.TypeIs (.ref l) ty)
 (it:∀(A:Around) (s':Shared) (Q:Value→Shared→Prop) (E:Value→Shared→Prop),(∀ b o,s.heap.get? b=some o→s'.heap.get? b=some o)→Q (.ref s'.heap.objs.size) { s' with heap:=s'.heap.push ob }→wpAny (model prog w) A (pyIter (.ref l)) Q E s')
 (W:∀ I,l≠I→WalksS prog w A.in1.in1.in1 I [I,l] [I] (fun a b=>b=a) n P (St I)) (st0:∀ s':Shared,(∀ b o,s.heap.get? b=some o→s'.heap.get? b=some o)→St s'.heap.objs.size 0 { s' with heap:=s'.heap.push ob })
 (keep:∀ S I i h h',s.heap.objs.size≤I→S≠I→T S I i h→(∀ b o,b∉[I]→h.get? b=some o→h'.get? b=some o)→T S I i h') (step:∀ S I,QK prog w A.in1.in1.in1 S n P (T S I))
 (hT0:∀ led S I (h:Heap),s.heap.objs.size≤S→S<I→(∀ b o,s.heap.get? b=some o→h.get? b=some o)→h.get? S=some { cls:=.type "set",data:=.set #[] 0 (SetTable.fresh 0 0 led) }→T S I 0 h)
 (hQ:∀ h' tk I,(∀ b o,s.heap.get? b=some o→h'.get? b=some o)→T s.heap.objs.size I n h'→Q (.ref s.heap.objs.size) { s with heap:=h',toks:=tk }):
 wpAny (model prog w) A (call (.type "set") [.ref l]) Q E s:=by
 obtain⟨c,tl',hmro⟩:=F.called_set.mro
 refine wpAny_call (codeAny_of_tree (wpAny_pure ⟨Code.quiet_builtin _ (by nofun),codeAny_builtin F.entry_type_call ?_⟩))
 rw[Around.under_plain (weight_type_call_type "set" [.ref l] []) rfl]
 unfold Builtin.«type.__call__»
 dsimp only
 refine wpAny_ite_split (fun h=>absurd h (by decide)) fun _=>?_
 refine wpAny_ite_split (fun h=>absurd h (by nofun)) fun _=>?_
 refine wpAny_bind (wpAny_of_eq (F.typeCall_set_1 _) ?_)
 refine wpAny_bind (wpAny_of_eq hmro ?_)
 refine wpAny_ite_split (fun h=>absurd h (by simp)) fun _=>?_
 refine wpAny_bind (wpAny_of_eq F.called_set.made ?_)
 refine wpAny_bind (wpAny_pure ?_)
 refine wpAny_bind (wpAny_holding (wpAny_call ?_))
 refine codeAny_mono (code_set_new_1 (E:=E) (.ref l) (Q₁:=fun obj s₁=>∃ led,obj=.ref s.heap.objs.size∧s₁={ s with heap:=s.heap.push { cls:=.type "set",data:=.set #[] 0 (SetTable.fresh 0 0 led) } }) fun led=>⟨led,rfl,rfl⟩) fun r s₁ h=>?_
 cases r with
 | error e=>exact h
 | ok fl=>
  cases fl with
  | ret v=>
   obtain⟨led,rfl,rfl⟩:=h
   have hS:(s.heap.push { cls:=.type "set",data:=.set #[] 0 (SetTable.fresh 0 0 led) }).get? s.heap.objs.size=some { cls:=.type "set",data:=.set #[] 0 (SetTable.fresh 0 0 led) }:=Heap.get?_push_size _ rfl
   have kp:∀ b o,s.heap.get? b=some o→(s.heap.push { cls:=.type "set",data:=.set #[] 0 (SetTable.fresh 0 0 led) }).get? b=some o:=fun b o e=>Heap.get?_push_of_some _ e
   have ty':Shared.TypeIs { s with heap:=s.heap.push { cls:=.type "set",data:=.set #[] 0 (SetTable.fresh 0 0 led) } } (.ref s.heap.objs.size) "set":=⟨_,hS,rfl⟩
   have ll:l<s.heap.objs.size:=by obtain⟨o,q,_⟩:=tl;exact Heap.lt_size q
   have tl2:Shared.TypeIs { s with heap:=s.heap.push { cls:=.type "set",data:=.set #[] 0 (SetTable.fresh 0 0 led) } } (.ref l) ty:=by obtain⟨o,q,r⟩:=tl;exact⟨o,kp _ _ q,r⟩
   have sz:(s.heap.push { cls:=.type "set",data:=.set #[] 0 (SetTable.fresh 0 0 led) }).objs.size=s.heap.objs.size+1:=size_push' _ _
   show wpAny _ _ _ _ _ _
   refine wpAny_bind (wpAny_isInstance ty' F.called_set.sub ?_)
   refine wpAny_ite_split (fun h=>absurd h (by decide)) fun _=>?_
   refine wpAny_bind (wpAny_holding ?_)
   unfold callSpecial?
   refine wpAny_bind (wpAny_specialOf ty' F.called_set.init.lookup ?_)
   refine wpAny_holding (wpAny_bind (wpAny_of_eq (F.called_set.init.bind _) ?_))
   refine wpAny_bind (wpAny_call (IJ (A:=A.in1) (s:={ s with heap:=s.heap.push { cls:=.type "set",data:=.set #[] 0 (SetTable.fresh 0 0 led) } }) (n:=n) (P:=P) (T:=T s.heap.objs.size (s.heap.objs.size+1)) hty tl2 hS (Nat.ne_of_gt ll) (fun Q E h=>it _ _ Q E kp h) ?_ (st0 _ kp) ?_ ?_ ?_ fun h' tk hk hso=>?_))
   ·rw[sz];exact W _ (Nat.ne_of_lt (Nat.lt_succ_of_lt ll))
   ·rw[sz];exact fun i h h'=>keep _ _ i h h' (Nat.le_succ _) (Nat.ne_of_lt (Nat.lt_succ_self _))
   ·exact step _ _
   ·exact hT0 led _ _ _ (Nat.le_refl _) (Nat.lt_succ_self _) (fun b o e=>Heap.get?_push_of_some _ (kp b o e)) (Heap.get?_push_of_some _ hS)
   refine wpAny_pure (wpAny_ite_split (fun h=>absurd h (by decide)) fun _=>?_)
   exact wpAny_pure (hQ h' tk _ (fun b o e=>hk b o (Nat.ne_of_lt (Heap.lt_size e)) (kp b o e)) hso)
  | next=>cases h
  | brk=>cases h
  | cont=>cases h
def Xj (h:Heap)(S:Addr)(n:Nat):Prop:=∃ o es ep t,h.get? S=some o∧o.ExactSet∧o.data=.set es ep t∧SetTable.fits t es.size=true∧es.size=n
theorem UF {α β:Type}{F:α→β→Prop}:∀{xs:List α} {ys:List β} {i:Nat} {x:α},Paired F xs ys→xs[i]?=some x→∃ y,ys[i]?=some y∧F x y
 | _,_,_,_,.nil,h=>by cases h
 | _,_,0,_,.cons r _,h=>by cases h;exact⟨_,rfl,r⟩
 | _,_,i+1,_,.cons _ t,h=>UF (i:=i) t h
theorem Mk {P:Program}{h h':Heap}{k:List BY}{a:Addr}(x:(TK P w).is h k a)(hk:∀ o,h.get? a=some o→h'.get? a=some o):(TK P w).is h' k a:=by
 obtain⟨o,i,n,e,r⟩:=x
 exact⟨o,i,n,hk o e,r⟩
end
end L2.TSt
namespace L2.TSt
open PySem PySem.Spec PyProof.Rows PySem.W L2
section
variable {prog:Program}{w:World}{A:Around}{E:Value→Shared→Prop}{s:Shared}
theorem Nj {Q:Value→Shared→Prop}{l:Addr}{its:List Value}{T:Addr→Addr→Nat→Heap→Prop}(hh:A.handled=none)(hl:s.heap.IsList l its.toArray∨s.heap.IsTuple l its.toArray)
 (keep:∀ S I i h h',s.heap.objs.size≤I→S≠I→T S I i h→(∀ b o,b∉[I]→h.get? b=some o→h'.get? b=some o)→T S I i h') (step:∀ S I,QK prog w A.in1.in1.in1 S its.length (fun i v=>its[i]?=some v) (T S I))
 (hT0:∀ led S I (h:Heap),s.heap.objs.size≤S→S<I→(∀ b o,s.heap.get? b=some o→h.get? b=some o)→h.get? S=some { cls:=.type "set",data:=.set #[] 0 (SetTable.fresh 0 0 led) }→T S I 0 h)
 (hQ:∀ h' tk I,(∀ b o,s.heap.get? b=some o→h'.get? b=some o)→T s.heap.objs.size I its.length h'→Q (.ref s.heap.objs.size) { s with heap:=h',toks:=tk }):
 wpAny (model prog w) A (call (.type "set") [.ref l]) Q E s:=by
 have cv:∀{I fp wr G St},WalksS prog w A.in1.in1.in1 I fp wr G its.toArray.size (fun i v=>its.toArray[i]?=some v) St→WalksS prog w A.in1.in1.in1 I fp wr G its.length (fun i v=>its[i]?=some v) St:=fun W=>by simpa using W
 rcases hl with hl | hl
 ·exact Jm (St:=fun I i s=>s.heap.IsListIter I l i∧s.heap.IsList l its.toArray) (.inl rfl) hl.typeIs (fun A s' Q E kp h=>wpAny_pyIter_list (hl.at fun o e=>kp _ _ e) h) (fun I ne=>cv (Walks.list (A:=A.in1.in1.in1) hh I l ne its.toArray).toS) (fun s' kp=>⟨⟨_,Heap.get?_push_size _ rfl,rfl,rfl⟩,hl.at fun o e=>Heap.get?_push_of_some _ (kp _ _ e)⟩) keep step hT0 hQ
 ·exact Jm (St:=fun I i s=>s.heap.IsTupleIter I l i∧s.heap.IsTuple l its.toArray) (.inr rfl) hl.typeIs (fun A s' Q E kp h=>wpAny_pyIter_tuple (hl.at fun o e=>kp _ _ e) h) (fun I ne=>cv (Walks.tuple (A:=A.in1.in1.in1) hh I l ne its.toArray).toS) (fun s' kp=>⟨⟨_,Heap.get?_push_size _ rfl,rfl,rfl⟩,hl.at fun o e=>Heap.get?_push_of_some _ (kp _ _ e)⟩) keep step hT0 hQ
end
end L2.TSt
namespace L2.GS
open PySem PySem.Spec PyProof.Rows L2 L2.PSt
structure KK (P:Program)(w:World)(α:Type) where
 At:Heap→Value→α→Prop
 lt:α→α→Bool
 κ:SortKind
 d:α
 ord:∀ k:Nat→α,StrT.Ord fun i j=>lt (k i) (k j)
 keep:∀{h h':Heap} {v:Value} {p:α},(∀ b o,h.get? b=some o→o.cls=.type "tuple"→h'.get? b=some o)→At h v p→At h' v p
 ask:∀{A:Around} {s:Shared} {x y:Value} {p q:α} {C:Bool→Shared→Prop},At s.heap x p→At s.heap y q→(p=q→x=y)→C (lt p q) s→wpAny (model P w) A (keyLt' κ x y) C (fun _ _=>False) s
 kind:∀{A:Around} {E:Value→Shared→Prop} {s:Shared} {vs:List Value} {ps:List α} {Q:SortKind→Shared→Prop},2≤vs.length→Paired (At s.heap) vs ps→Q κ s→wpAny (model P w) A (keyKind' vs.toArray) Q E s
theorem UG {α:Type}{zs:List α}(nd:zs.Nodup){i j:Nat}(li:i<zs.length)(lj:j<zs.length)(e:zs[i]=zs[j]):i=j:=by
 rcases Nat.lt_trichotomy i j with h | h | h
 ·exact absurd e (List.pairwise_iff_getElem.mp nd i j li lj h)
 ·exact h
 ·exact absurd e.symm (List.pairwise_iff_getElem.mp nd j i lj li h)
section
variable {P:Program}{w:World}{A:Around}{E:Value→Shared→Prop}{s:Shared}{α:Type}(K:KK P w α)
abbrev FJ (zs:List α):Prop:=zs.Pairwise fun p q=>K.lt q p=false
theorem QL {ks vs:List Value}{zs:List α}(r:Paired (K.At s.heap) ks zs)(nd:zs.Nodup)(hl:ks.length=vs.length)(h2:2≤vs.length)(h64:vs.length<64){Q:SortSt→Shared→Prop}
 (h:∀ st' out zs',(arrOf st').map (·.2)=List.toArray out→failedOf st'=none→out.length=vs.length→(∀ F:Value→α→Prop,Paired F vs zs→Paired F out zs')→zs'.Perm zs→FJ K zs'→Q st' s):
 wpAny (model P w) A (sortRuns'.run (SortSt.mk' K.κ (ks.toArray.zip vs.toArray) #[] 7 none)) (fun r s'=>Q r.2 s') E s:=by
 have hlen:ks.length=zs.length:=Paired.length r
 refine PySem.W.kat_run (κ:=K.κ) (G:=fun p s'=>s'=s∧p.size=vs.length∧p.toList.Perm (List.range vs.length)∧StrT.Up (fun i j=>K.lt (zs.getD i K.d) (zs.getD j K.d)) p vs.length) hl h2 h64 ?_ ?_
 ·rintro p st' s' hp har hf ⟨rfl,hz,hperm,hup⟩
  refine h st' _ (p.toList.map fun i=>zs.getD i K.d) (PySem.W.kat_snds hl har) hf (by simp[hz]) (fun F rF=>Fe fun i hi=>?_) ?_ ?_
  ·have:i<vs.length:=by simpa using hperm.mem_iff.mp hi
   exact DU rF this
  ·have e:=hperm.map fun i=>zs.getD i K.d
   rw[← hl,hlen,Mc]at e
   exact e
  ·show List.Pairwise _ _
   rw[List.pairwise_map,List.pairwise_iff_getElem]
   intro i j hi hj hij
   have hj':j<p.size:=by simpa using hj
   have hi':i<p.size:=by simpa using hi
   have u:=hup i j (Nat.le_of_lt hij) (by omega)
   have gi:StrT.gg p i=p.toList[i]:=by simp[StrT.gg,Array.getD,hi']
   have gj:StrT.gg p j=p.toList[j]:=by simp[StrT.gg,Array.getD,hj']
   rw[gi,gj]at u
   exact u
 ·refine Sr (N:=vs.length) (lt:=fun i j=>K.lt (zs.getD i K.d) (zs.getD j K.d)) (fun i j C hi hj hC=>?_) (fun p hp=>⟨rfl,hp⟩) (StrT.sort_ (K.ord _) (by omega))
  refine K.ask (DU r (by omega)) (DU r (by omega)) (fun e=>?_) hC
  have li:i<zs.length:=by omega
  have lj:j<zs.length:=by omega
  rw[List.getD_eq_getElem?_getD,List.getD_eq_getElem?_getD,List.getElem?_eq_getElem li,List.getElem?_eq_getElem lj]at e
  rw[UG nd li lj e]
def Rn (P:Program)(w:World)(A:Around)(s:Shared)(l:Addr)(vs:List Value):Prop:=∀(Q:List Value→Shared→Prop) (E:Value→Shared→Prop),(∀ h1 t1,(∀ b o,s.heap.get? b=some o→h1.get? b=some o)→s.heap.objs.size<h1.objs.size→Q vs { s with heap:=h1,toks:=t1 })→wpAny (model P w) A (collect (.ref l)) Q E s
theorem Ro {a:Addr}{vs:List Value}{ps:List α}{n:Nat}{R:PySem.Fin→Shared→Prop}(ho:s.heap.get? a=some (seqObj "list" vs.toArray n))(r:Paired (K.At s.heap) vs ps)(nd:ps.Nodup)(h64:vs.length<64)
 (h:∀(out:List Value) (ps':List α),(∀ F:Value→α→Prop,Paired F vs ps→Paired F out ps')→out.length=vs.length→ps'.Perm ps→FJ K ps'→R (.done (.ret .none)) { s with heap:=sortedHeap s.heap a vs out.toArray }):
 wpAny (model P w) A (Builtin.«list.sort» ⟨[.ref a],[]⟩) R E s:=by
 have ha:a<s.heap.objs.size:=Heap.lt_size ho
 have hz:sizeLine=16777216:=sizeLine_eq
 rw[list_sort_plain]
 refine wpAny_bind (listItems_at ho rfl (wpAny_bind (listUpdate_at ho rfl ?_ (by rw[List.size_toArray];omega) (Nat.zero_le _))))
 obtain⟨e1,ho1⟩:∃ e1,(s.heap.update a (Obj.mapSeq fun _=>#[])).get? a=some (seqObj "list" #[] e1):=⟨_,get?_update_seq ho _⟩
 refine wpAny_bind (seqEpoch_at ho1 rfl (wpAny_bind (wpAny_newTuple (wpAny_bind (wpAny_newList (wpAny_holding ?_) (Nat.zero_le _))) (by show vs.length≤_;omega))))
 show wpAny (model P w) A _ R E { s with heap:=((s.heap.update a (Obj.mapSeq fun _=>#[])).push (seqObj "tuple" vs.toArray 0)).push (seqObj "list" #[] 0) }
 generalize hg:((s.heap.update a (Obj.mapSeq fun _=>#[])).push (seqObj "tuple" vs.toArray 0)).push (seqObj "list" #[] 0)=hh
 have hk:∀ b o,b≠a→s.heap.get? b=some o→hh.get? b=some o:=fun b o hb e=>by
  subst hg
  exact Heap.get?_push_of_some _ (Heap.get?_push_of_some _ ((Heap.get?_update_ne _ _ _ _ hb).trans e))
 have ho6:hh.get? a=some (seqObj "list" #[] e1):=by
  subst hg
  exact Heap.get?_push_of_some _ (Heap.get?_push_of_some _ ho1)
 have he:∀ out:List Value,sortedHeap s.heap a vs out.toArray=hh.update a (Obj.mapSeq fun _=>out.toArray):=fun out=>by subst hg;rfl
 have ends:∀(st':SortSt) (out:List Value) (ps':List α),(arrOf st').map (·.2)=List.toArray out→failedOf st'=none→(∀ F:Value→α→Prop,Paired F vs ps→Paired F out ps')→out.length=vs.length→ps'.Perm ps→FJ K ps'→
  wpAny (model P w) A (do
   let touched:=(← seqEpoch a) != e1
   Builtin.List.listUpdate (.ref a) fun _=>(arrOf st').map (·.2)
   if let some e:=failedOf st' then rule "list.sort.comparison-raised";throw e
   if touched then rule "list.sort.modified";raiseError "ValueError" "list modified during sort"
   ret .none) R E { s with heap:=hh }:=fun st' out ps' h1 hf h3 h4 h5 h6=>by
  refine wpAny_bind (seqEpoch_at ho6 rfl (wpAny_bind (listUpdate_at ho6 rfl ?_ (Nat.zero_le _) (by rw[h1,List.size_toArray];omega))))
  rw[h1,hf]
  simp only[bne_self_eq_false,Bool.false_eq_true,if_false]
  have q:=h out ps' h3 h4 h5 h6
  rw[he]at q
  exact wpAny_pure q
 dsimp only
 by_cases c2:vs.toArray.size<2
 ·rw[if_pos c2,if_pos c2]
  refine wpAny_bind (wpAny_pure ?_)
  rw[StateT.run_pure]
  refine wpAny_bind (wpAny_pure (ends (SortSt.mk' general' (vs.toArray.zip vs.toArray) #[] 7 none) vs ps ?_ rfl (fun _ x=>x) rfl (List.Perm.refl _) ?_))
  ·show((pairsOf vs).map (·.2))=_
   apply Array.toList_inj.mp
   rw[Array.toList_map,pairsOf_toList]
   exact List.map_snd_zip (Nat.le_refl _)
  ·have hl:vs.length=ps.length:=Paired.length r
   rw[List.size_toArray]at c2
   match ps,hl with
   | [],_=>exact .nil
   | [_],_=>exact List.pairwise_singleton _ _
   | _::_::_,hl=>simp at hl;omega
 ·rw[if_neg c2,if_neg c2]
  rw[List.size_toArray]at c2
  have r':Paired (K.At hh) vs ps:=Paired.imp' (fun v p x=>K.keep (fun b o e c=>hk b o (fun z=>by subst z;rw[ho]at e;cases e;exact absurd (Value.type.inj c) (by decide)) e) x) r
  refine wpAny_bind (K.kind (s:={ s with heap:=hh }) (by omega) r' (wpAny_bind (wpAny_mono (QL K (s:={ s with heap:=hh }) (ks:=vs)
   (Q:=fun st' s'=>s'={ s with heap:=hh }∧∃ out ps',(arrOf st').map (·.2)=List.toArray out∧failedOf st'=none∧out.length=vs.length∧(∀ F:Value→α→Prop,Paired F vs ps→Paired F out ps')∧ps'.Perm ps∧FJ K ps')
   r' nd rfl (by omega) h64 fun st' out ps' h1 hf h4 h3 h5 h6=>⟨rfl,out,ps',h1,hf,h4,h3,h5,h6⟩) ?_ fun _ _ e=>e)))
  rintro⟨_,st'⟩ s' ⟨rfl,out,ps',h1,hf,h4,h3,h5,h6⟩
  exact ends st' out ps' h1 hf h3 h4 h5 h6
theorem Oe {l:Addr}{vs:List Value}{ps:List α}{Q:Value→Shared→Prop}(hl:Rn P w A.in1 s l vs)(r:Paired (K.At s.heap) vs ps)(nd:ps.Nodup)(h64:vs.length<64)
 (h:∀(D:Addr) (h':Heap) (t' c:Nat) (out:List Value) (ps':List α),s.heap.objs.size≤D→(∀ b o,s.heap.get? b=some o→h'.get? b=some o)→h'.get? D=some (seqObj "list" out.toArray c)→(∀ F:Value→α→Prop,Paired F vs ps→Paired F out ps')→out.length=vs.length→ps'.Perm ps→FJ K ps'→Q (.ref D) { s with heap:=h',toks:=t' }):
 wpAny (model P w) A (call (.builtin "sorted") [.ref l]) Q E s:=by
 have hz0:sizeLine=16777216:=sizeLine_eq
 refine Calls.call_function_entry kind_sorted plain_sorted entry_sorted (args_sorted1 _) ?_
 unfold Builtin.«sorted»
 refine wpAny_bind (m:=checkCount "sorted" 1 1 _) (wpAny_pure (wpAny_bind (hl _ _ fun h1 t1 kp1 RB=>wpAny_bind (wpAny_newList ?_ (by omega)))))
 have hn:(h1.push (seqObj "list" vs.toArray 0)).get? h1.objs.size=some (seqObj "list" vs.toArray 0):=Heap.get?_push_size _ rfl
 have kp:∀ b o,s.heap.get? b=some o→(h1.push (seqObj "list" vs.toArray 0)).get? b=some o:=fun b o e=>Heap.get?_push_of_some _ (kp1 b o e)
 have r':Paired (K.At (h1.push (seqObj "list" vs.toArray 0))) vs ps:=Paired.imp' (fun v p x=>K.keep (fun b o e _=>kp b o e) x) r
 refine wpAny_bind (wpAny_holding (wpAny_call_entry (s:={ s with heap:=h1.push (seqObj "list" vs.toArray 0),toks:=t1 }) slot_list_sort ⟨_,hn,rfl⟩ entry_list_sort (Ro K (s:={ s with heap:=h1.push (seqObj "list" vs.toArray 0),toks:=t1 }) hn r' nd h64 fun out ps' m1 m2 m3 m4=>⟨_,rfl,wpAny_pure ⟨_,rfl,?_⟩⟩) (args_list_sort _)))
 have lt:s.heap.objs.size<h1.objs.size:=RB
 obtain⟨c,hc⟩:∃ c,(sortedHeap (h1.push (seqObj "list" vs.toArray 0)) h1.objs.size vs out.toArray).get? h1.objs.size=some (seqObj "list" out.toArray c):=⟨_,get?_update_seq (Heap.get?_push_of_some _ (Heap.get?_push_of_some _ (get?_update_seq hn fun _=>#[]))) fun _=>out.toArray⟩
 refine h h1.objs.size _ t1 c out ps' (Nat.le_of_lt lt) (fun b o e=>?_) hc m1 m2 m3 m4
 have hb:b≠h1.objs.size:=Nat.ne_of_lt (Nat.lt_trans (Heap.lt_size e) lt)
 exact(Heap.get?_update_ne _ _ _ _ hb).trans (Heap.get?_push_of_some _ (Heap.get?_push_of_some _ ((Heap.get?_update_ne _ _ _ _ hb).trans (kp b o e))))
theorem Nk {a kS:Addr}{ks out:List Value}{e1 cs:Nat}{st:SortSt}{R:PySem.Fin→Shared→Prop}(ho:s.heap.get? a=some (seqObj "list" #[] e1))(hk:s.heap.get? kS=some (seqObj "list" ks.toArray cs))(ne:a≠kS)(h1:(arrOf st).map (·.2)=List.toArray out)(hf:failedOf st=none)(hz:out.length≤64)(hz2:ks.length≤64)
 (h:R (.done (.ret .none)) { s with heap:=(s.heap.update kS (Obj.mapSeq fun _=>#[])).update a (Obj.mapSeq fun _=>out.toArray) }):
 wpAny (model P w) A (ksk_tail a false e1 (.ref kS) st) R E s:=by
 have hs:sizeLine=16777216:=sizeLine_eq
 unfold ksk_tail
 simp only[Bool.false_eq_true,if_false,h1,hf]
 refine wpAny_bind (listUpdate_at hk rfl ?_ (by rw[List.size_toArray];omega) (Nat.zero_le _))
 have ho7:(s.heap.update kS (Obj.mapSeq fun _=>#[])).get? a=some (seqObj "list" #[] e1):=(Heap.get?_update_ne _ _ _ _ ne).trans ho
 refine wpAny_bind (wpAny_letGo ?_)
 refine wpAny_bind (seqEpoch_at (s:={ s with heap:=s.heap.update kS (Obj.mapSeq fun _=>#[]) }) ho7 rfl ?_)
 refine wpAny_bind (listUpdate_at (s:={ s with heap:=s.heap.update kS (Obj.mapSeq fun _=>#[]) }) ho7 rfl ?_ (Nat.zero_le _) (by rw[List.size_toArray];omega))
 show wpAny _ _ (if(e1 != e1)=true then _ else ret .none) _ _ _
 rw[if_neg (by simp)]
 exact wpAny_pure h
theorem UH {a kS:Addr}{ks vs:List Value}{zs:List α}{e1 cs:Nat}{R:PySem.Fin→Shared→Prop}(ho:s.heap.get? a=some (seqObj "list" #[] e1))(hk:s.heap.get? kS=some (seqObj "list" ks.toArray cs))(ne:a≠kS)(r:Paired (K.At s.heap) ks zs)(nd:zs.Nodup)(hl:ks.length=vs.length)(h64:vs.length<64)
 (h:∀(out:List Value) (zs':List α),(∀ F:Value→α→Prop,Paired F vs zs→Paired F out zs')→out.length=vs.length→zs'.Perm zs→FJ K zs'→R (.done (.ret .none)) { s with heap:=(s.heap.update kS (Obj.mapSeq fun _=>#[])).update a (Obj.mapSeq fun _=>out.toArray) }):
 wpAny (model P w) A (ksk_end a false vs.toArray e1 (.ref kS) ks.toArray) R E s:=by
 unfold ksk_end
 dsimp only
 rw[if_neg (by decide)]
 by_cases c2:vs.toArray.size<2
 ·rw[if_pos c2,if_pos c2]
  refine wpAny_bind (wpAny_pure ?_)
  rw[StateT.run_pure]
  refine wpAny_bind (wpAny_pure ?_)
  refine Nk (out:=vs) ho hk ne ?_ rfl (by omega) (by omega) (h vs zs (fun _ x=>x) rfl (List.Perm.refl _) ?_)
  ·show(ks.toArray.zip vs.toArray).map (·.2)=_
   apply Array.toList_inj.mp
   rw[Array.toList_map,ksk_zip]
   exact List.map_snd_zip (by simp[hl])
  ·have hz:ks.length=zs.length:=Paired.length r
   rw[List.size_toArray]at c2
   match zs,(show zs.length<2 by omega)with
   | [],_=>exact .nil
   | [_],_=>exact List.pairwise_singleton _ _
 ·rw[if_neg c2,if_neg c2]
  rw[List.size_toArray]at c2
  refine wpAny_bind (K.kind (by omega) r (wpAny_bind (wpAny_mono (QL K (Q:=fun st' s'=>s'=s∧∃ out zs',(arrOf st').map (·.2)=List.toArray out∧failedOf st'=none∧out.length=vs.length∧(∀ F:Value→α→Prop,Paired F vs zs→Paired F out zs')∧zs'.Perm zs∧FJ K zs')
   r nd hl (by omega) h64 fun st' out zs' h1 hf h4 h3 h5 h6=>⟨rfl,out,zs',h1,hf,h4,h3,h5,h6⟩) ?_ fun _ _ e=>e)))
  rintro⟨_,st'⟩ s' ⟨rfl,out,zs',h1,hf,h4,h3,h5,h6⟩
  exact Nk ho hk ne h1 hf (by omega) (by omega) (h out zs' h3 h4 h5 h6)
theorem Rp {J:Shared→Prop}{a kS:Addr}{f:Value}{vs:List Value}{zs:List α}{Kv:Value→α→Prop}(lift:∀ s' v z,J s'→Kv v z→K.At s'.heap v z)(nd:zs.Nodup){e1:Nat}{R:PySem.Fin→Shared→Prop}(hJ:J s)(ho:s.heap.get? a=some (seqObj "list" #[] e1))(hk:s.heap.get? kS=some (seqObj "list" #[] 0))(ne:a≠kS)(hl:zs.length=vs.length)(h64:vs.length<64)
 (turn:∀(i:Nat) (v:Value) (z:α),vs[i]?=some v→zs[i]?=some z→∀ s',J s'→wpAny (model P w) A (call f [v]) (fun r s''=>Kv r z∧J s''∧∀ o,(s'.heap.get? a=some o→s''.heap.get? a=some o)∧(s'.heap.get? kS=some o→s''.heap.get? kS=some o)) (fun _ _=>False) s')
 (push:∀(s':Shared) (ks:List Value) (c:Nat) (v:Value) (z:α),Kv v z→J s'→s'.heap.get? kS=some (seqObj "list" ks.toArray c)→ks.length<64→J { s' with heap:=s'.heap.update kS (Obj.mapSeq (·.push v)) })
 (h:∀(s':Shared) (ks:List Value) (c:Nat) (out:List Value) (zs':List α),J s'→s'.heap.get? a=some (seqObj "list" #[] e1)→s'.heap.get? kS=some (seqObj "list" ks.toArray c)→(∀ F:Value→α→Prop,Paired F vs zs→Paired F out zs')→out.length=vs.length→zs'.Perm zs→FJ K zs'→R (.done (.ret .none)) { s' with heap:=(s'.heap.update kS (Obj.mapSeq fun _=>#[])).update a (Obj.mapSeq fun _=>out.toArray) }):
 wpAny (model P w) A (ksk_rest a f false vs.toArray e1 (.ref kS)) R E s:=by
 have hs0:sizeLine=16777216:=sizeLine_eq
 unfold ksk_rest
 refine wpAny_bind (wpAny_rule ?_)
 first
  | rw[List.forIn_toArray]
  | (rw[← Array.forIn_toList];simp only[List.toList_toArray])
  | rw[← Array.forIn_toList]
 refine wpAny_bind (ksk_fold (fun i s'=>∃(ks:List Value) (c:Nat),J s'∧s'.heap.get? a=some (seqObj "list" #[] e1)∧s'.heap.get? kS=some (seqObj "list" ks.toArray c)∧Paired Kv ks (zs.take i)) vs 0 s
  ⟨[],0,hJ,ho,hk,.nil⟩ ?step ?done)
 case step=>
  rintro j x s' hx ⟨ks,c,J',ho',hk',r⟩
  simp only[Nat.zero_add]at r ⊢
  have hj:j<vs.length:=(List.getElem?_eq_some_iff.mp hx).1
  obtain⟨z,hzj⟩:∃ z,zs[j]?=some z:=⟨_,List.getElem?_eq_getElem (by omega)⟩
  have hz:ks.length≤vs.length:=by
   have h1:=Paired.length r
   rw[List.length_take]at h1
   omega
  refine wpAny_bind (wpAny_attempt (wpAny_mono (turn j x z hx hzj s' J') (fun v s'' he=>?_) fun _ _ hF=>hF.elim))
  obtain⟨tx,J2,kp⟩:=he
  try dsimp only
  have na:=(kp _).1 ho'
  have nk:=(kp _).2 hk'
  refine wpAny_bind (listUpdate_at nk rfl ?_ (by rw[List.size_toArray];omega) (Nat.le_trans (Nat.le_of_eq (Array.size_push ..)) (by rw[List.size_toArray];omega)))
  have ek:zs.take (j+1)=zs.take j++[z]:=by rw[List.take_add_one,hzj];simp
  obtain⟨c2,hc2⟩:∃ c2,(s''.heap.update kS (Obj.mapSeq (·.push v))).get? kS=some (seqObj "list" (ks++[v]).toArray c2):=⟨_,by
   have:=get?_update_seq nk (·.push v)
   rw[show ks.toArray.push v=(ks++[v]).toArray by simp]at this
   exact this⟩
  exact wpAny_pure ⟨rfl,ks++[v],c2,push _ _ _ _ _ tx J2 nk (by omega),(Heap.get?_update_ne _ _ _ _ ne).trans na,hc2,by rw[ek];exact Paired.snoc r tx⟩
 case done=>
  rintro s' ⟨ks,c,J',ho',hk',r⟩
  have r':Paired Kv ks zs:=by
   rw[List.take_of_length_le (by omega)]at r
   exact r
  try dsimp only
  refine wpAny_bind (listItems_at hk' rfl ?_)
  exact UH K ho' hk' ne (Paired.imp' (fun v z x=>lift s' v z J' x) r') nd ((Paired.length r').trans hl) h64 fun out zs' a1 a2 a3 a4=>h s' ks c out zs' J' ho' hk' a1 a2 a3 a4
theorem Of {l f:Addr}{vs:List Value}{Q:Value→Shared→Prop}(hl:Rn P w A.in1 s l vs)(h64:vs.length<64)
 (h:∀(hh:Heap) (t1:Nat) (e1 D kS:Nat) (R:PySem.Fin→Shared→Prop),(∀ b o,s.heap.get? b=some o→hh.get? b=some o)→s.heap.objs.size≤D→D<kS→hh.get? D=some (seqObj "list" #[] e1)→hh.get? kS=some (seqObj "list" #[] 0)→(∀ s',Q (.ref D) s'→R (.done (.ret .none)) s')→wpAny (model P w) A.in1.in1 (ksk_rest D (.ref f) false vs.toArray e1 (.ref kS)) R E { s with heap:=hh,toks:=t1 }):
 wpAny (model P w) A (call (.builtin "sorted") [.ref l] [("key",.ref f)]) Q E s:=by
 have hs0:sizeLine=16777216:=sizeLine_eq
 refine call_function_entry_kw kind_sorted plain_sorted entry_sorted (by ksk_a1) ?_
 unfold Builtin.«sorted»
 refine wpAny_bind (m:=checkCount "sorted" 1 1 _) (wpAny_pure (wpAny_bind (hl _ _ fun h1 t1 kp1 RB=>wpAny_bind (wpAny_newList ?_ (by omega)))))
 have hn:(h1.push (seqObj "list" vs.toArray 0)).get? h1.objs.size=some (seqObj "list" vs.toArray 0):=Heap.get?_push_size _ rfl
 have kp:∀ b o,s.heap.get? b=some o→(h1.push (seqObj "list" vs.toArray 0)).get? b=some o:=fun b o e=>Heap.get?_push_of_some _ (kp1 b o e)
 have lt:s.heap.objs.size<h1.objs.size:=RB
 refine wpAny_bind (wpAny_holding (wpAny_call_entry_kw (s:={ s with heap:=h1.push (seqObj "list" vs.toArray 0),toks:=t1 }) slot_list_sort ⟨_,hn,rfl⟩ entry_list_sort (KSt.sort_keyed (s:={ s with heap:=h1.push (seqObj "list" vs.toArray 0),toks:=t1 }) hn h64 fun hh e1 kS hk hkS ho2 hk2=>?_) (by ksk_a2)))
 have hz:(h1.push (seqObj "list" vs.toArray 0)).objs.size=h1.objs.size+1:=size_push' _ _
 refine h hh t1 e1 h1.objs.size kS _ (fun b o e=>hk b o (Nat.ne_of_lt (Nat.lt_trans (Heap.lt_size e) lt)) (kp b o e)) (Nat.le_of_lt lt) (by have:(h1.push (seqObj "list" vs.toArray 0)).objs.size<kS:=hkS;omega) ho2 hk2 fun s' q=>?_
 exact⟨_,rfl,wpAny_pure ⟨_,rfl,q⟩⟩
end
end L2.GS
namespace L2.GS
open PySem PySem.Spec PyProof.Rows L2 L2.PSt
section
variable {P:Program}{w:World}{A:Around}{E:Value→Shared→Prop}{s:Shared}
def Sy (P:Program)(w:World):KK P w Str where
 At:=fun _ v z=>KSt.TxAt v z
 lt:=KSt.slt
 κ:=oneType'
 d:=PSt.d0
 ord:=KSt.slt_ord
 keep:=fun _ x=>x
 ask:=fun hx hy _ h=>KSt.slt_ask hx hy h
 kind:=fun h2 r h=>KSt.keys_kind h2 r h
abbrev CK:=Str×Int×Int
def clt (p q:CK):Bool:=if p.1=q.1 then L2.T3 p.2 q.2 else KSt.slt p.1 q.1
theorem QM {p q:CK}:clt p q=false↔(p.1=q.1∧L2.T3 p.2 q.2=false)∨q.1.cps.toList<p.1.cps.toList:=by
 unfold clt
 by_cases e:p.1=q.1
 ·rw[if_pos e]
  refine⟨fun h=>.inl ⟨e,h⟩,fun h=>?_⟩
  rcases h with h | h
  ·exact h.2
  ·rw[e]at h;exact absurd h (List.lt_irrefl _)
 ·rw[if_neg e]
  unfold KSt.slt
  rw[decide_eq_false_iff_not]
  refine⟨fun h=>.inr ?_,fun h=>?_⟩
  ·by_cases c:q.1.cps.toList<p.1.cps.toList
   ·exact c
   ·exact absurd (Nd (List.le_antisymm (List.not_lt.mp c) (List.not_lt.mp h))) e
  ·rcases h with h | h
   ·exact absurd h.1 e
   ·intro z;exact absurd (List.lt_trans h z) (List.lt_irrefl _)
theorem Rq (k:Nat→CK):StrT.Ord (fun i j=>clt (k i) (k j)) where
 tr:=fun a b c h1 h2=>by
  rw[QM]at h1 h2 ⊢
  rcases h1 with⟨e1,m1⟩ | l1
  ·rcases h2 with⟨e2,m2⟩ | l2
   ·exact .inl ⟨e2.trans e1,(L2.Nb fun i=>(k i).2).tr a b c m1 m2⟩
   ·rw[e1]at l2;exact .inr l2
  ·rcases h2 with⟨e2,m2⟩ | l2
   ·rw[← e2]at l1;exact .inr l1
   ·exact .inr (List.lt_trans l1 l2)
 as:=fun a b h1=>by
  rw[QM]
  unfold clt at h1
  by_cases e:(k a).1=(k b).1
  ·rw[if_pos e]at h1
   exact .inl ⟨e.symm,(L2.Nb fun i=>(k i).2).as a b h1⟩
  ·rw[if_neg e]at h1
   exact .inr (of_decide_eq_true h1)
theorem clt_eq {p q:CK}(h1:clt p q=false)(h2:clt q p=false):p=q:=by
 rw[QM]at h1 h2
 obtain⟨a,b,c⟩:=p
 obtain⟨d,e,f⟩:=q
 rcases h1 with⟨e1,m1⟩ | l1
 ·rcases h2 with⟨_,m2⟩ | l2
  ·simp only[L2.T3]at m1 m2
   dsimp only at e1
   subst e1
   repeat' split at m1
   all_goals repeat' split at m2
   all_goals simp only[decide_eq_false_iff_not]at *
   all_goals first | (exfalso;omega) | (congr 2 <;> omega)
  ·rw[e1]at l2;exact absurd l2 (List.lt_irrefl _)
 ·rcases h2 with⟨e2,_⟩ | l2
  ·rw[e2]at l1;exact absurd l1 (List.lt_irrefl _)
  ·exact absurd (List.lt_trans l1 l2) (List.lt_irrefl _)
theorem slt_eq {p q:Str}(h1:KSt.slt p q=false)(h2:KSt.slt q p=false):p=q:=by
 unfold KSt.slt at h1 h2
 rw[decide_eq_false_iff_not]at h1 h2
 exact Nd (List.le_antisymm (List.not_lt.mp h2) (List.not_lt.mp h1))
def Ml (h:Heap)(v:Value)(p:CK):Prop:=∃ a t u x,v=.ref a∧IsTup h a #[.str p.1 t,.int p.2.1 u,.int p.2.2 x]
theorem Rr {x y:Value}{p q:CK}(hx:Ml s.heap x p)(hy:Ml s.heap y q){C:Bool→Shared→Prop}(h:C (clt p q) s):
 wpAny (model P w) A (keyLt' (tuples' true) x y) C (fun _ _=>False) s:=by
 obtain⟨a,t,u,z,rfl,o,ho,hc,n,hd⟩:=hx
 obtain⟨a',t',u',z',rfl,o',ho',hc',n',hd'⟩:=hy
 refine PySem.W.kat_lt ho hd ho' hd' (PySem.W.kat_cons (wpAny_eqBool_str ?_))
 unfold clt L2.T3 at h
 cases e:decide (p.1=q.1)with
 | true=>
  have e':p.1=q.1:=by simpa using e
  rw[if_pos e']at h
  refine PySem.W.kat_yes (PySem.W.kat_cons (wpAny_eqBool_int ?_))
  cases e2:(p.2.1==q.2.1)with
  | true=>
   have e3:p.2.1=q.2.1:=by simpa using e2
   rw[if_pos e3]at h
   refine PySem.W.kat_yes (PySem.W.kat_cons (wpAny_eqBool_int ?_))
   cases e4:(p.2.2==q.2.2)with
   | true=>
    have e5:p.2.2=q.2.2:=by simpa using e4
    refine PySem.W.kat_yes (PySem.W.kat_nil ?_)
    have:decide (p.2.2<q.2.2)=false:=by simp[e5]
    rw[this]at h
    exact h
   | false=>exact PySem.W.kat_no (PySem.W.kat_one _ _ (lt_int h))
  | false=>
   have e3:¬ p.2.1=q.2.1:=by simpa using e2
   rw[if_neg e3]at h
   exact PySem.W.kat_no (PySem.W.kat_one _ _ (lt_int h))
 | false=>
  have e':¬ p.1=q.1:=by simpa using e
  rw[if_neg e']at h
  exact PySem.W.kat_no (oneLt_str h)
theorem Og {α:Type}{At:Value→α→Prop}(f:∀ v p,At v p→∃(a:Addr) (o:Obj) (xs:Array Value) (n:Nat) (z:Str) (t:Tok),v=.ref a∧s.heap.get? a=some o∧o.cls=.type "tuple"∧o.data=.seq xs n∧xs[0]?=some (.str z t)){vs:List Value}{ps:List α}{Q:SortKind→Shared→Prop}(h2:2≤vs.length)(r:Paired At vs ps)(h:Q (tuples' true) s):wpAny (model P w) A (keyKind' vs.toArray) Q E s:=by
 obtain⟨fs,t,hf,hi⟩:∃ fs:List Value,PySem.W.KatTups s.heap vs fs∧fs.length=vs.length∧∀ v∈fs,∃ i t,v=.str i t:=by
  clear h2 h
  induction r with
  | nil=>exact⟨[],.nil,rfl,fun v hv=>by cases hv⟩
  | cons r _ ih=>
   obtain⟨fs,t,hf,hi⟩:=ih
   obtain⟨a,o,xs,n,z,t1,rfl,ho,hc,hd,hx⟩:=f _ _ r
   exact⟨_::fs,.cons ho hc hd hx t,by simp[hf],fun v hv=>by
    rcases List.mem_cons.mp hv with rfl | hv
    ·exact⟨_,_,rfl⟩
    ·exact hi v hv⟩
 refine PySem.W.kat_kind (T:=.type "str") t (by omega) (fun v hv=>?_) (by rfl) h
 obtain⟨i,t,rfl⟩:=hi v hv
 exact PySem.W.Looks.of_pure rfl
theorem Mm {h h':Heap}{a:Addr}{xs:Array Value}(k:∀ b o,h.get? b=some o→o.cls=.type "tuple"→h'.get? b=some o)(x:IsTup h a xs):IsTup h' a xs:=by
 obtain⟨o,e,c,d⟩:=x
 exact⟨o,k _ _ e c,c,d⟩
def Nl (P:Program)(w:World):KK P w CK where
 At:=Ml
 lt:=clt
 κ:=tuples' true
 d:=(PSt.d0,0,0)
 ord:=Rq
 keep:=fun k ⟨a,t,u,x,e,i⟩=>⟨a,t,u,x,e,Mm k i⟩
 ask:=fun hx hy _ h=>Rr hx hy h
 kind:=fun h2 r h=>Og (fun v p ⟨a,t,u,x,e,o,ho,hc,n,hd⟩=>⟨a,o,_,n,p.1,t,e,ho,hc,hd,rfl⟩) h2 r h
end
end L2.GS
namespace L2.GS
open PySem PySem.Spec PyProof.Rows L2 L2.PSt
section
variable {P:Program}{w:World}{A:Around}{E:Value→Shared→Prop}{s:Shared}
theorem QN {l:Addr}{vs:List Value}(hl:s.heap.IsList l vs.toArray∨IsTup s.heap l vs.toArray)(h64:vs.length<64):Rn P w A s l vs:=fun Q E h=>by
 have hz0:sizeLine=16777216:=sizeLine_eq
 have fin:Q vs { s with heap:=(s.heap.push (seqObj "list" #[] 0)).update s.heap.objs.size (Obj.mapSeq (·++vs.toArray)) }:=by
  refine h _ s.toks (fun b o e=>(Heap.get?_update_ne _ _ _ _ (Nat.ne_of_lt (Heap.lt_size e))).trans (Heap.get?_push_of_some _ e)) ?_
  rw[Heap.size_update,size_push'];exact Nat.lt_succ_self _
 rcases hl with hl | hl
 ·exact collect_list hl fin (by omega)
 ·exact LP hl fin (by omega)
theorem Oh {I d:Addr}{o:Obj}{es:Array DictEntry}{ep:Nat}(hh:A.handled=none)(hx:o.ExactDict)(hd:o.data=.dict es ep)(ne:d≠I):
 WalksS P w A I [I,d] [I] (fun a b=>b=a) es.size (fun i v=>∃ e,es[i]?=some e∧v=e.key) (fun i s=>s.heap.IsKeyIter I d i es.size ep∧s.heap.get? d=some o) where
 sub:=fun b hb=>by simp at hb;simp[hb]
 grefl:=fun _=>rfl
 gtrans:=fun _ _ _ h1 h2=>h2.trans h1
 frame:=fun i s h' tk st _ hk=>⟨st.1.at fun o e=>hk I (by simp) o e,hk d (by simp) _ st.2⟩
 item:=fun i s Q E hi st hQ=>by
  have he:es[i]?=some es[i]:=Array.getElem?_eq_getElem hi
  refine Pl st.1 ⟨st.2,hx,hd⟩ he fun h' st' sb=>hQ _ _ ⟨_,he,rfl⟩ ⟨st',(sb.2 d ne).trans st.2⟩ ⟨fun b o hb e=>(sb.2 b (by simpa using hb)).trans e,rfl,rfl,rfl,Nat.le_refl _⟩
 done:=fun s Q E st hQ=>Rc hh st.1 ⟨st.2,hx,hd⟩ (Nat.le_refl _) fun h' eb=>hQ _ ⟨fun b o hb e=>eb b o (by simpa using hb) e,rfl,rfl,rfl,Nat.le_refl _⟩
 self:=fun i s Q E st h=>wpAny_pyIter_keyiter st.1 h
theorem Oi {d:Addr}{o:Obj}{es:Array DictEntry}{ep:Nat}(hh':A.handled=none)(hs:(d==sysModules)=false)(x:LI s.heap d o es ep)(h64:es.size<64):Rn P w A s d (es.toList.map (·.key)):=fun Q E h=>by
 have hz0:sizeLine=16777216:=sizeLine_eq
 unfold collect
 refine wpAny_bind (wpAny_runValue (codeAny_builtin F.entry_proto_collect ?_))
 rw[Around.under_plainId F.plain_proto_collect _]
 show wpAny _ A.in1 (newList [] >>= fun l=>again (.builtin "list.__iadd__" ⟨[l,.ref d],[]⟩)) _ _ s
 refine wpAny_bind (wpAny_newObj_type ?_)
 refine wpAny_pure ⟨plainId_quiet F.plain_list_iadd _,codeAny_builtin F.entry_list_iadd ?_⟩
 rw[Around.under_plainId F.plain_list_iadd _]
 have ld:d<s.heap.objs.size:=Heap.lt_size x.at_
 have x1:LI (s.heap.push { cls:=.type "list",data:=.seq ([]:List Value).toArray }) d o es ep:=⟨Heap.get?_push_of_some _ x.at_,x.ex,x.data⟩
 have t1:Shared.TypeIs { s with heap:=s.heap.push { cls:=.type "list",data:=.seq ([]:List Value).toArray } } (.ref d) "dict":=x1.ty
 have hS₁:(s.heap.push { cls:=.type "list",data:=.seq ([]:List Value).toArray }).get? s.heap.objs.size=some { cls:=.type "list",data:=.seq ([]:List Value).toArray }:=Heap.get?_push_size _ rfl
 have h1:Builtin.List.listSameRef (.ref s.heap.objs.size) (.ref d)=false:=by simp[Builtin.List.listSameRef,Nat.ne_of_gt ld]
 show wpAny _ A.in1 (Builtin.List.listExtendWith (.ref s.heap.objs.size) (.ref d) (.ref s.heap.objs.size)) _ _ _
 unfold Builtin.List.listExtendWith
 refine wpAny_bind (wpAny_typeOf t1 ?_)
 rw[if_neg (by rw[h1];decide)]
 refine wpAny_bind (Pk (s:={ s with heap:=s.heap.push { cls:=.type "list",data:=.seq ([]:List Value).toArray } }) x1 hs ?_)
 refine wpAny_bind (wpAny_holding ?_)
 have RB:(s.heap.push { cls:=.type "list",data:=.seq ([]:List Value).toArray }).objs.size=s.heap.objs.size+1:=size_push' _ _
 rw[RB]
 generalize hg:(s.heap.push { cls:=.type "list",data:=.seq ([]:List Value).toArray }).push { cls:=.type "dict_keyiterator",data:=.fields #[.ref d,.int 0 0,.int es.size 0,.int ep 0] }=hh
 have x2:LI hh d o es ep:=by subst hg;exact⟨Heap.get?_push_of_some _ x1.at_,x.ex,x.data⟩
 have t2:Shared.TypeIs { s with heap:=hh } (.ref d) "dict":=x2.ty
 have k2:∀ b o,s.heap.get? b=some o→hh.get? b=some o:=fun b o e=>by subst hg;exact Heap.get?_push_of_some _ (Heap.get?_push_of_some _ e)
 have hS2:hh.get? s.heap.objs.size=some { cls:=.type "list",data:=.seq ([]:List Value).toArray }:=by subst hg;exact Heap.get?_push_of_some _ hS₁
 have hI2:hh.IsKeyIter (s.heap.objs.size+1) d 0 es.size ep:=by subst hg;rw[← RB];exact⟨_,Heap.get?_push_size _ rfl,rfl,rfl⟩
 unfold Builtin.List.listLengthHint
 refine wpAny_bind (wpAny_specialOf t2 F.slot_dict_len.lookup ?_)
 (generalize hid:("dict.__len__":String)=id0;(fail_if_success (clear hid id0));wp_delta;rw[show splitId id0=some ("dict","__len__")from by subst hid;nofun];subst hid)
 refine wpAny_bind (wpAny_isInstance (b:=true) t2 (by rw[isSubtype_type];kernel_rfl) ?_)
 rw[if_neg (by decide)]
 refine(show wpAny _ _ (if _=true then _ else _) _ _ _ from ?_)
 rw[if_pos (by nofun)]
 refine wpAny_bind (wpAny_typeOf t2 ?_)
 refine(show wpAny _ _ (pure false) _ _ _ from wpAny_pure ?_)
 rw[if_pos (by nofun)]
 refine wpAny_bind (wpAny_rule ?_)
 refine wpAny_bind ?_
 show wpAny _ A.in1 (updateSeq s.heap.objs.size (·.push .none) >>= fun _=>updateSeq s.heap.objs.size (·.pop)) _ _ _
 refine wpAny_bind (wpAny_updateSeq (s:={ s with heap:=hh }) hS2 rfl ?_)
 have hS3:=Heap.get?_update_self (Obj.mapSeq (·.push Value.none)) hS2 rfl
 refine wpAny_updateSeq hS3 rfl ?_
 have hS4:=Heap.get?_update_self (Obj.mapSeq (·.pop)) hS3 rfl
 have oth:∀ b o,b≠s.heap.objs.size→hh.get? b=some o→((hh.update s.heap.objs.size (Obj.mapSeq (·.push Value.none))).update s.heap.objs.size (Obj.mapSeq (·.pop))).get? b=some o:=
  fun b o hb e=>(Heap.get?_update_other _ _ (Ne.symm hb)).trans ((Heap.get?_update_other _ _ (Ne.symm hb)).trans e)
 have nI:s.heap.objs.size+1≠s.heap.objs.size:=Nat.succ_ne_self _
 have lI:s.heap.objs.size+1<hh.objs.size:=by obtain⟨o,e,_⟩:=hI2;exact Heap.lt_size e
 have W:=Oh (P:=P) (w:=w) (A:=A.in1) (I:=s.heap.objs.size+1) hh' x.ex x.data (Nat.ne_of_lt (Nat.lt_succ_of_lt ld))
 refine wpAny_pure ⟨plainId_quiet F.plain_extend_loop _,codeAny_extend_loopS W (by omega) s.heap.objs.size (by simp;exact Nat.ne_of_gt ld) _ es.size 0 _ _ _ rfl (Nat.zero_le _) ⟨hI2.at fun o e=>oth _ o nI e,oth _ _ (Nat.ne_of_lt ld) x2.at_⟩ hS4 (ItemsOf.nil _) fun s' acc' c' hm hS' hacc=>?_⟩
 show wpAny _ A (load s.heap.objs.size >>= _) _ _ s'
 refine wpAny_bind (wpAny_load hS' ?_)
 have ea:acc'.toList=es.toList.map (·.key):=by
  obtain⟨e1,e2⟩:=hacc
  apply List.ext_getElem?
  intro i
  rw[List.getElem?_map,Array.getElem?_toList,Array.getElem?_toList]
  by_cases hi:i<acc'.size
  ·obtain⟨e,q1,q2⟩:=e2 i _ (Array.getElem?_eq_getElem hi)
   rw[q1,Array.getElem?_eq_getElem hi,q2]
   rfl
  ·rw[Array.getElem?_eq_none (by omega),Array.getElem?_eq_none (by omega)]
   rfl
 refine wpAny_pure ?_
 rw[ea,Moved.eq_with hm]
 refine h s'.heap s'.toks (fun b o e=>hm.heap b o ?_ (oth b o (Nat.ne_of_lt (Heap.lt_size e)) (k2 b o e))) ?_
 ·have:=Heap.lt_size e
  simp
  exact⟨Nat.ne_of_lt this,Nat.ne_of_lt (Nat.lt_succ_of_lt this)⟩
 ·exact Heap.lt_size hS'
end
end L2.GS
namespace L2.GS
open PySem PySem.Spec PyProof.Rows L2 L2.PSt
def CeV (H:Hp)(v:V)(c:CK):Prop:=∃ b,v=.ref b∧H b=some (.tup [.str c.1,.int c.2.1,.int c.2.2])
def YI (_:Hp)(v:V)(z:Str):Prop:=v=.str z
def ckK (c:CK):List BY:=[.inr c.1,.inl c.2.1,.inl c.2.2]
section
variable {X:Cx}{pins:List (Addr×Obj)}{σ:St}{H:Hp}{s:Shared}
theorem Nn {v:V}{u:Value}{c:CK}(I:Ap X pins σ H s)(r:Aw v u)(h:CeV H v c):(Nl X.prog X.w).At s.heap u c:=by
 obtain⟨b,rfl,hb⟩:=h
 cases r
 obtain⟨its,rv,pl,_⟩:=I.tuple (A0.of hb)
 cases rv with
 | cons r1 rv=>
  cases rv with
  | cons r2 rv=>
   cases rv with
   | cons r3 rv=>
    cases rv
    obtain⟨t,rfl⟩:=r1
    obtain⟨t2,rfl⟩:=r2
    obtain⟨t3,rfl⟩:=r3
    exact⟨b,t,t2,t3,rfl,pl⟩
theorem Rs {v:V}{u:Value}{z:Str}(_:Ap X pins σ H s)(r:Aw v u)(h:YI H v z):(Sy X.prog X.w).At s.heap u z:=by
 cases h
 exact r
theorem Mn {α:Type}{P0:V→Value→Prop}{ps0:List (V×α)}:∀{ps:List (V×α)} {its:List Value},(∀ p∈ps,p∈ps0)→Paired P0 (ps.map (·.1)) its→Paired (fun v z=>∃ p,p∈ps0∧P0 p.1 v∧p.2=z) its (ps.map (·.2))
 | [],_,_,.nil=>.nil
 | p::ps,_,h,.cons r t=>.cons ⟨p,h p List.mem_cons_self,r,rfl⟩ (Mn (fun z hz=>h z (List.mem_cons_of_mem _ hz)) t)
theorem Mo {α:Type}{ps:List (V×α)}{P0:V→Value→Prop}:∀{out:List Value} {zs:List α},Paired (fun v z=>∃ p,p∈ps∧P0 p.1 v∧p.2=z) out zs→∃ qs:List (V×α),(∀ p∈qs,p∈ps)∧qs.map (·.2)=zs∧Paired P0 (qs.map (·.1)) out
 | _,_,.nil=>⟨[],(fun _ h=>nomatch h),rfl,.nil⟩
 | _,_,.cons ⟨p,h1,h2,h3⟩ t=>by
  obtain⟨qs,a,b,c⟩:=Mo t
  exact⟨p::qs,fun z hz=>(List.mem_cons.mp hz).elim (fun e=>e▸h1) (a z),by rw[List.map_cons,h3,b],.cons h2 c⟩
theorem QO {α:Type}{K:KK X.prog X.w α}{Hv:Hp→V→α→Prop}(lift:∀{v u z},Aw v u→Hv H v z→K.At s.heap u z):∀{ps:List (V×α)} {its:List Value},(∀ p∈ps,Hv H p.1 p.2)→A3 (ps.map (·.1)) its→Paired (K.At s.heap) its (ps.map (·.2))
 | [],_,_,.nil=>.nil
 | p::ps,_,h,.cons r t=>.cons (lift r (h p (by simp))) (QO lift (fun q hq=>h q (List.mem_cons_of_mem _ hq)) t)
def UI:List V→Hp→VK→Prop:=fun xs H Q=>∃(a:Addr) (kvs:List (List BY×V)) (cs:List CK),xs=[V.ref a]∧Rd H a (.dT kvs)∧kvs.map (·.1)=cs.map ckK∧kvs.length<64∧
 ∀(l:Addr) (us:List V) (cs':List CK),H l=none→cs'.Perm cs→cs'.Pairwise (fun p q=>clt q p=false)→Paired (CeV H) us cs'→Q (.ref l) (upd H l (.lst us))
theorem call_sortD (hc:X.calm=true):DD X (.builtin "sorted") UI:=by
 intro pins s σ H xs us Q I r h
 obtain⟨a,kvs,cs,rfl,ha,hk,h64,q⟩:=h
 obtain⟨u,rfl,ru⟩:=Hy r
 cases ru
 obtain⟨z,y,xs,rx,o,es,ep,h1,h2,h3,h4,h5⟩:=(show BI X.prog X.w H s.heap a (.dT kvs)from Pc I.hok ha)
 have he:es.size=kvs.length:=by rw[Paired.length rx,← Array.length_toList,h4,List.length_map]
 obtain⟨ps,e1,e2,e3⟩:∃ ps:List (V×CK),ps.map (·.2)=cs∧A3 (ps.map (·.1)) (es.toList.map (·.key))∧∀ p∈ps,CeV H p.1 p.2:=by
  rw[h4,List.map_map]
  clear h1 h2 h3 h4 h5 he h64 q z ha
  induction rx generalizing cs with
  | nil=>
   cases cs with
   | nil=>exact⟨[],rfl,.nil,fun p hp=>nomatch hp⟩
   | cons c cs=>cases hk
  | @cons p q ps qs hh _ ih=>
   cases cs with
   | nil=>cases hk
   | cons c cs=>
    rw[List.map_cons,List.map_cons]at hk
    injection hk with k1 k2
    obtain⟨ps',a1,a2,a3⟩:=ih cs k2
    refine⟨(.ref q.2.1,c)::ps',by rw[List.map_cons,a1],.cons rfl a2,fun p' hp=>?_⟩
    rcases List.mem_cons.mp hp with e | hp
    ·subst e
     refine⟨q.2.1,rfl,?_⟩
     rw[hh.2.1,k1]
     rfl
    ·exact a3 p' hp
 have nd:cs.Nodup:=by
  have kx:xs.map (·.1)=kvs.map (·.1):=by
   clear h1 h2 h3 h4 h5 he h64 q z hk e1 e2 e3 ha
   induction rx with
   | nil=>rfl
   | cons hh _ ih=>rw[List.map_cons,List.map_cons,ih,hh.1]
  rw[kx,hk]at h5
  exact List.Pairwise.of_map ckK (fun a b hab e=>hab (by rw[e])) h5
 subst e1
 have hl2:ps.length=kvs.length:=by have:=e2.length;simp only[List.length_map,Array.length_toList]at this;omega
 refine Oe (Nl X.prog X.w) (Oi (I.ok.hd hc) y ⟨h1,h2,h3⟩ (by omega)) (QO (K:=Nl X.prog X.w) (Hv:=CeV) (fun r h=>Nn I r h) e3 e2) nd (by simp only[List.length_map,Array.length_toList];omega) fun D h' t' c out ps' hD kp hc m1 m2 m3 m4=>?_
 obtain⟨qs,a1,a2,a3⟩:=Mo (m1 _ (Mn (P0:=Aw) (fun _ h=>h) e2))
 subst a2
 have hq:qs.length=out.length:=by have:=Paired.length a3;rwa [List.length_map]at this
 simp only[List.length_map,Array.length_toList]at m2
 have hs:sizeLine=16777216:=sizeLine_eq
 refine⟨.ref D,_,I.laid (t':=t') kp hD (show BI X.prog X.w _ _ _ (.lst (qs.map (·.1)))from⟨by rw[List.length_map];omega,out,c,a3,hc⟩),rfl,q _ _ _ (I.hok.fresh hD) m3 m4 ?_⟩
 exact Fe fun p hp=>e3 p (a1 p hp)
end
end L2.GS
namespace L2.GS
open PySem PySem.Spec PyProof.Rows L2 L2.PSt
section
variable {X:Cx}{pins:List (Addr×Obj)}{σ:St}{H2:Hp}{s2:Shared}
def KH {α:Type}(lt:α→α→Bool)(Hv:Hp→V→α→Prop)(X:Cx)(a:Addr)(q:Str)(sp:Sp)(H2:Hp)(Q:VK):Prop:=∃ ps:List (V×α),(As X.K H2 a (ps.map (·.1))∨A0 X.K H2 a (ps.map (·.1)))∧ps.length<64∧(ps.map (·.2)).Nodup∧
 (∀ p∈ps,sp [p.1] (Jj q H2) (fun v H'=>Hv H2 v p.2∧H'=Jj q H2) E0)∧
 ∀(l:Addr) (qs:List (V×α)),H2 l=none→(∀ p∈qs,p∈ps)→(qs.map (·.2)).Perm (ps.map (·.2))→(qs.map (·.2)).Pairwise (fun p q=>lt q p=false)→Q (.ref l) (upd H2 l (.lst (qs.map (·.1))))
def UJ (X:Cx)(k:Nat)(te tl:TE):TE:=fun σ H Q=>te σ H fun x H1=>tl σ H1 fun f H2=>∃(a fa:Addr) (q:Str) (sp:Sp),x=.ref a∧f=.ref fa∧
 (∀ base',LM X σ q H2 base'→FV X.prog X.w X.K X.mg base' k fa sp)∧(KH KSt.slt YI X a q sp H2 Q∨KH clt CeV X a q sp H2 Q)
theorem LS {α:Type}(K:KK X.prog X.w α){Hv:Hp→V→α→Prop}(lift:∀{pins σ H s v u z},Ap X pins σ H s→Aw v u→Hv H v z→K.At s.heap u z){k:Nat}{a fa:Addr}{q:Str}{sp:Sp}{Q:VK}(hr:Bx (k+2) X.A)(hfn:∀ y,X.fn y=true)(I2:Ap X pins σ H2 s2)
 (hF:∀ base',LM X σ q H2 base'→FV X.prog X.w X.K X.mg base' k fa sp) (h:KH K.lt Hv X a q sp H2 Q):wpAny (model X.prog X.w) X.A (call (.builtin "sorted") [.ref a] [("key",.ref fa)]) (fun u s'=>∃ v H',Ap X pins σ H' s'∧Aw v u∧Q v H') X.xe s2:=by
 obtain⟨ps,ha,h64,nd,hsp,hend⟩:=h
 obtain⟨its,rv,pl⟩:∃ its,A3 (ps.map (·.1)) its∧(s2.heap.IsList a its.toArray∨IsTup s2.heap a its.toArray):=by
  rcases ha with ha | ha
  ·obtain⟨its,rv,pl,_⟩:=I2.list ha
   exact⟨its,rv,.inl pl.isList⟩
  ·obtain⟨its,rv,pl,_⟩:=I2.tuple ha
   exact⟨its,rv,.inr pl⟩
 have hlen:ps.length=its.length:=by have:=rv.length;rwa [List.length_map]at this
 refine Of (QN pl (by omega)) (by omega) fun hh t1 e1 D kS R hk2 hD0 hkS hD hS hR=>?_
 have fD:FI X pins H2 D:=I2.fpOk hD0 (I2.hok.fresh hD0)
 have lS:s2.heap.objs.size≤kS:=Nat.le_of_lt (Nat.lt_of_le_of_lt hD0 hkS)
 have fS:FI X pins H2 kS:=I2.fpOk lS (I2.hok.fresh lS)
 have nst:∀ b,FI X pins H2 b→b∉Dy X.stack:=fun b f z=>(List.mem_cons.mp (I2.stkSub b z)).elim f.2.1 f.2.2.1
 have ne:D≠kS:=Nat.ne_of_lt hkS
 refine Rp K (J:=fun s'=>Ap X pins σ H2 s') (zs:=ps.map (·.2)) (Kv:=fun u z=>∃ v,Aw v u∧Hv H2 v z) (fun s' u z I' ⟨v,r,h⟩=>lift I' r h) nd (I2.kept (t':=t1) fun b o e=>hk2 b o e) hD hS ne (by rw[List.length_map];exact hlen) (by omega) ?turn ?push ?fin
 case turn=>
  intro i v z hv hz s' I'
  have hi:i<ps.length:=by rw[hlen];exact(List.getElem?_eq_some_iff.mp hv).1
  have hz':ps[i].2=z:=by
   rw[List.getElem?_map,List.getElem?_eq_getElem hi]at hz
   exact Option.some.inj hz
  have hx:(ps.map (·.1))[i]?=some ps[i].1:=by rw[List.getElem?_map,List.getElem?_eq_getElem hi];rfl
  obtain⟨u,hu,rvu⟩:=rv.get hx
  rw[hv]at hu
  cases hu
  obtain⟨fd,prs,oc,od,sl,eo,hb,F⟩:=hF _ (I'.wider (q:=q) hfn)
  have hq:=hsp ps[i] (List.getElem_mem hi)
  have hl2:[v].length=prs.length:=F.len _ _ _ _ hq
  refine wpAny_call (codeAny_mono (F.run X.A.in1.in1 X.stack s' (Jj q H2) ⟨[v],[]⟩ [v] [ps[i].1] _ E0 hr.in1.in1 (I'.envL (q:=q) hfn).in1.in1 (hb s' [v] I'.kIn hl2) (.cons rvu .nil) hq) fun r s'' hq=>?_)
  cases r with
  | error e=>exact False.elim hq
  | ok fl=>
   cases fl with
   | next=>exact False.elim hq
   | brk=>exact False.elim hq
   | cont=>exact False.elim hq
   | ret u=>
    have hq2:=hq
    obtain⟨v',H',os,bare,un,hok,r',ev,eH⟩:=hq2
    refine⟨?_,?_,fun o=>⟨fun e=>un.keep _ o e (Cj fD.1) (nst _ fD) (by simp),fun e=>un.keep _ o e (Cj fS.1) (nst _ fS) (by simp)⟩⟩
    ·rw[← hz']
     exact⟨v',r',ev⟩
    ·obtain⟨v2,H3,I3,_,e3⟩:=I'.afterL (q:=q) (Q:=fun _ H3=>H3=H2) (show CE X.stack X.prog X.w (Jj q H2) s' _ u s'' from⟨v',H',os,bare,un,hok,r',fun _=>by rw[eH];exact Rk⟩)
     rw[← e3]
     exact I3
 case push=>
  intro s' ks c v z _ I' hk' _
  obtain⟨f0,f1,f2,f3,f4,f5⟩:=fS
  exact I'.turned (t':=s'.toks) (it:=kS) (fun b o hb e=>(Heap.get?_update_ne _ _ _ _ hb).trans e) f0 f1 f3 f4 f5
 case fin=>
  intro s' ks c out zs' I' hD' hS' hF' ho hperm hrise
  refine hR _ ?_
  obtain⟨qs,m1,m2,m3⟩:=Mo (hF' _ (Mn (P0:=Aw) (fun _ h=>h) rv))
  subst m2
  have I3:Ap X pins σ H2 { s' with heap:=s'.heap.update kS (Obj.mapSeq fun _=>#[]) }:=by
   obtain⟨f0,f1,f2,f3,f4,f5⟩:=fS
   exact I'.turned (t':=s'.toks) (it:=kS) (fun b o hb e=>(Heap.get?_update_ne _ _ _ _ hb).trans e) f0 f1 f3 f4 f5
  have hD3:(s'.heap.update kS (Obj.mapSeq fun _=>#[])).get? D=some (seqObj "list" #[] e1):=(Heap.get?_update_ne _ _ _ _ ne).trans hD'
  have I4:=I3.adopt (t':=s'.toks) (it:=D) (o:=.lst (qs.map (·.1))) (h':=(s'.heap.update kS (Obj.mapSeq fun _=>#[])).update D (Obj.mapSeq fun _=>out.toArray)) (fun b o hb e=>(Heap.get?_update_ne _ _ _ _ hb).trans e) fD
   ⟨by rw[List.length_map];have:=Paired.length m3;rw[List.length_map]at this;have hs:sizeLine=16777216:=sizeLine_eq;omega,out,_,m3,get?_update_seq hD3 _⟩
  exact⟨.ref _,_,I4,rfl,hend _ qs fD.1 m1 hperm hrise⟩
theorem pe_sortG {k:Nat}{e lam:Expr}{te tl:TE}{p pos kp:Pos}(hr:Bx (k+2) X.A)(hg:Gl X "sorted")(hm:X.mg "sorted"=none)(he:PE X e te)(hl:PE X lam tl)(hfn:∀ y,X.fn y=true:=by intro _;rfl)
 (hs:starEach [e] X.env=(false,eval e X.env)::starEach [] X.env:=by rfl) (hk:keywordEach [⟨some "key",lam,kp⟩] X.env=[(some (Str.ofString "key"),eval lam X.env)]:=by rfl):
 PE X (.Call (.Name "sorted" p) [e] [⟨some "key",lam,kp⟩] pos) (UJ X k te tl):=by
 intro pins s σ H Q I h
 refine wpAny_Call_Name_kw (Dz I hg hm Jg ?_)
 refine callWith_kw ?_ (by rw[hs];rfl) (by rw[hs];rfl) (by rw[hk];rfl) (by rw[hk];rfl)
 rw[hs,hk]
 show wpAny _ _ (spliced ((false,eval e X.env)::backTo pos (starEach [] X.env))) _ _ s
 refine Calls.spliced_cons (Bq (he pins s σ H _ I h) fun u s1 ⟨x,H1,I1,r1,q1⟩=>Calls.spliced_nil ?_)
 refine wpAny_evalAll_cons (wpAny_bind (Bq (hl pins s1 σ H1 _ I1 q1) fun v s2 ⟨y,H2,I2,r2,q2⟩=>wpAny_bind (wpAny_standAt (wpAny_pure (wpAny_evalAll_nil ?_)))))
 obtain⟨a,fa,q,sp,rfl,rfl,hF,hq⟩:=q2
 cases r1
 cases r2
 rcases hq with hq | hq
 ·exact LS (Sy X.prog X.w) Rs hr hfn I2 hF hq
 ·exact LS (Nl X.prog X.w) Nn hr hfn I2 hF hq
end
end L2.GS
namespace L2
open PySem PySem.Spec PyProof.Rows PySem.W
def Wx (b:Bool)(us:List V):HO:=if b=true then .lst us else .tup us
def U5 (b:Bool)(K:PySem.W.Frag)(H:Hp)(a:Addr)(us:List V):Prop:=if b=true then As K H a us else A0 K H a us
theorem U5.of {b:Bool}{K:PySem.W.Frag}{H:Hp}{a:Addr}{us:List V}(h:H a=some (Wx b us)):U5 b K H a us:=by
 cases b with
 | true=>exact As.of h
 | false=>exact A0.of h
theorem U5.or {b:Bool}{K:PySem.W.Frag}{H:Hp}{a:Addr}{us:List V}(h:U5 b K H a us):As K H a us∨A0 K H a us:=by
 cases b with
 | true=>exact .inl h
 | false=>exact .inr h
end L2
namespace L2.DP
open PySem PySem.Spec PyProof.Rows PySem.W L2
end L2.DP
namespace L2.DP
open PySem PySem.Spec PyProof.Rows PySem.W L2
end L2.DP
namespace L2.TSt
open PySem PySem.Spec PyProof.Rows PySem.W L2
def FJ (xs:Array Nat):Prop:=∀(i j a b:Nat),i<j→xs[i]?=some a→xs[j]?=some b→a<b
theorem IK {xs:Array Nat}{j:Nat}(hr:FJ xs):∀(fuel lo hi:Nat),hi-lo≤fuel→lo≤hi→hi≤xs.size→(∀ x a,x<lo→xs[x]?=some a→a<j)→(∀ x a,hi≤x→xs[x]?=some a→j≤a)→
 SetTable.below.go xs j fuel lo hi≤xs.size∧(∀ x a,x<SetTable.below.go xs j fuel lo hi→xs[x]?=some a→a<j)∧∀ x a,SetTable.below.go xs j fuel lo hi≤x→xs[x]?=some a→j≤a
 | 0,lo,hi,h,hl,hs,h1,h2=>⟨by show lo≤_;omega,h1,fun x a hx e=>h2 x a (by have:lo≤x:=hx;omega) e⟩
 | fuel+1,lo,hi,h,hl,hs,h1,h2=>by
  unfold SetTable.below.go
  by_cases c:lo<hi
  ·rw[if_pos c]
   dsimp only
   have hm:(lo+hi) / 2<xs.size:=by omega
   have eg:xs[(lo+hi) / 2]?=some xs[(lo+hi) / 2]:=Array.getElem?_eq_getElem hm
   have em:xs.getD ((lo+hi) / 2) j=xs[(lo+hi) / 2]:=by rw[Array.getD_eq_getD_getElem?,eg];rfl
   rw[em]
   by_cases d:xs[(lo+hi) / 2]<j
   ·rw[if_pos d]
    refine IK hr fuel _ hi (by omega) (by omega) hs (fun x a hx e=>?_) h2
    by_cases q:x=(lo+hi) / 2
    ·rw[q,eg]at e;cases e;exact d
    ·exact Nat.lt_trans (hr x _ a _ (by omega) e eg) d
   ·rw[if_neg d]
    refine IK hr fuel lo _ (by omega) (by omega) (by omega) h1 (fun x a hx e=>?_)
    by_cases q:x=(lo+hi) / 2
    ·rw[q,eg]at e;cases e;omega
    ·have:=hr _ x _ a (by omega) eg e
     omega
  ·rw[if_neg c]
   exact⟨by omega,h1,fun x a hx e=>h2 x a (by omega) e⟩
theorem IL {xs:Array Nat}{j:Nat}(hr:FJ xs):SetTable.below xs j≤xs.size∧(∀ x a,x<SetTable.below xs j→xs[x]?=some a→a<j)∧∀ x a,SetTable.below xs j≤x→xs[x]?=some a→j≤a:=
 IK hr xs.size 0 xs.size (by omega) (Nat.zero_le _) (Nat.le_refl _) (fun x a h=>absurd h (Nat.not_lt_zero _)) (fun x a h e=>absurd (Array.getElem?_eq_some_iff.mp e).1 (by omega))
theorem Hh {t:SetTable}{i j:Nat}(hr:FJ t.place)(h:t.place[i]?=some j):t.slot j=.live i:=by
 obtain⟨b0,b1,b2⟩:=IL (j:=j) hr
 have hi:=(Array.getElem?_eq_some_iff.mp h).1
 have e:SetTable.below t.place j=i:=by
  rcases Nat.lt_trichotomy (SetTable.below t.place j) i with c | c | c
  ·have hq:SetTable.below t.place j<t.place.size:=by omega
   have:=b2 _ _ (Nat.le_refl _) (Array.getElem?_eq_getElem hq)
   have:=hr _ _ _ _ c (Array.getElem?_eq_getElem hq) h
   omega
  ·exact c
  ·exact absurd (b1 i j c h) (Nat.lt_irrefl _)
 unfold SetTable.slot
 dsimp only
 rw[e,h,if_pos (by simp)]
theorem Rt {t:SetTable}{i j:Nat}(h:t.slot j=.live i):t.place[i]?=some j:=by
 unfold SetTable.slot at h
 dsimp only at h
 split at h
 ·rename_i c
  cases h
  exact beq_iff_eq.mp c
 ·split at h <;> cases h
theorem F3 {α:Type}{xs:Array α}{p:Nat}{x:α}(hp:p≤xs.size)(i:Nat):(SetTable.insertAt xs p x)[i]?=if i<p then xs[i]? else if i=p then some x else xs[i-1]?:=by
 unfold SetTable.insertAt
 rw[Array.getElem?_append,Array.size_push,Array.size_extract,Array.getElem?_push,Array.size_extract,Array.getElem?_extract,Array.getElem?_extract]
 have e1:min p xs.size-0=p:=by omega
 have e2:min xs.size xs.size-p=xs.size-p:=by omega
 rw[e1,e2]
 by_cases c:i<p
 ·rw[if_pos (by omega),if_neg (by omega),if_pos c,if_pos c,Nat.zero_add]
 ·by_cases d:i=p
  ·subst d
   simp
  ·rw[if_neg (by omega),if_neg c,if_neg d]
   by_cases q:i-(p+1)<xs.size-p
   ·rw[if_pos q,show p+(i-(p+1))=i-1 by omega]
   ·rw[if_neg q]
    have:xs.size≤i-1:=by omega
    exact(Array.getElem?_eq_none this).symm
theorem QP {xs:Array Nat}{j:Nat}(hr:FJ xs)(hn:∀ i:Nat,xs[i]?≠some j):FJ (SetTable.insertAt xs (SetTable.below xs j) j):=by
 obtain⟨b0,b1,b2⟩:=IL (j:=j) hr
 have b2':∀ x a,SetTable.below xs j≤x→xs[x]?=some a→j<a:=fun x a hx e=>Nat.lt_of_le_of_ne (b2 x a hx e) fun z=>hn x (z▸e)
 intro i k a b hik ha hb
 rw[F3 b0]at ha hb
 by_cases c:i<SetTable.below xs j
 ·rw[if_pos c]at ha
  by_cases d:k<SetTable.below xs j
  ·rw[if_pos d]at hb
   exact hr _ _ _ _ hik ha hb
  ·rw[if_neg d]at hb
   by_cases q:k=SetTable.below xs j
   ·rw[if_pos q]at hb
    cases hb
    exact b1 _ _ c ha
   ·rw[if_neg q]at hb
    exact Nat.lt_trans (b1 _ _ c ha) (b2' _ _ (by omega) hb)
 ·rw[if_neg c]at ha
  rw[if_neg (by omega),if_neg (by omega)]at hb
  by_cases q:i=SetTable.below xs j
  ·rw[if_pos q]at ha
   cases ha
   exact b2' _ _ (by omega) hb
  ·rw[if_neg q]at ha
   exact hr _ _ _ _ (by omega) ha hb
def RK (m:Nat)(tk:Nat→Prop)(hh:Int)(j:Nat):Prop:=∃ n,n<10*SetTable.turns m∧(Dl { (SetTable.fresh 0 0 true)with mask:=m } n (SetTable.probeStart { (SetTable.fresh 0 0 true)with mask:=m } hh)).j=j∧∀ n'<n,tk (Dl { (SetTable.fresh 0 0 true)with mask:=m } n' (SetTable.probeStart { (SetTable.fresh 0 0 true)with mask:=m } hh)).j
theorem LU {t:SetTable}{m:Nat}(e:t.mask=m):∀(n:Nat) (p:SetTable.Probe),Dl t n p=Dl { (SetTable.fresh 0 0 true)with mask:=m } n p
 | 0,p=>rfl
 | n+1,p=>by
  show Dl t n (t.advance p)=Dl _ n (SetTable.advance _ p)
  rw[LU e n,show t.advance p=SetTable.advance { (SetTable.fresh 0 0 true)with mask:=m } p by subst e;rfl]
theorem RK.mono {m:Nat}{tk tk':Nat→Prop}{hh:Int}{j:Nat}(h:RK m tk hh j)(i:∀ x,tk x→tk' x):RK m tk' hh j:=by
 obtain⟨n,a,b,c⟩:=h
 exact⟨n,a,b,fun n' h'=>i _ (c n' h')⟩
def QR (xs:Array Nat)(j:Nat):Prop:=∃ i:Nat,xs[i]?=some j
structure RT (t:SetTable)(es:Array (Int×Value)):Prop where
 rise:FJ t.place
 rch:∀(i j:Nat) (e:Int×Value),t.place[i]?=some j→es[i]?=some e→RK t.mask (QR t.place) e.1 j
theorem KI (t:SetTable):∀(k:Nat) (p:SetTable.Probe),k≤p.more→(Dl t k p).j=p.j+k
 | 0,p,_=>rfl
 | k+1,p,h=>by
  have e:t.advance p={ p with j:=p.j+1,more:=p.more-1 }:=by
   unfold SetTable.advance
   rw[if_pos (by omega)]
  show(Dl t k (t.advance p)).j=_
  rw[KI t k _ (by rw[e];show k≤p.more-1;omega),e]
  show p.j+1+k=_
  omega
theorem LV {t:SetTable}{owner:Array (Option Nat)}{j:Nat}(hs:owner.size=t.mask+1):∀(fuel i p:Nat),i≤t.mask→SetTable.layClean.free t.mask owner fuel i p=some j→
 ∃ n,n<10*fuel∧(Dl t n ⟨i,SetTable.runEnd t.mask i-i,i,p,none⟩).j=j∧owner[j]?=some none∧∀ n'<n,∃ z,owner[(Dl t n' ⟨i,SetTable.runEnd t.mask i-i,i,p,none⟩).j]?=some (some z)
 | 0,i,p,_,h=>by cases h
 | fuel+1,i,p,hi,h=>by
  unfold SetTable.layClean.free at h
  have rl:=II t.mask i
  have rm:SetTable.runEnd t.mask i≤t.mask:=by unfold SetTable.runEnd;split <;> omega
  have ri:i≤SetTable.runEnd t.mask i:=by unfold SetTable.runEnd;split <;> omega
  have none_of:∀ k,k≤SetTable.runEnd t.mask i-i→(owner.getD (i+k) (some 0)).isNone=true→owner[i+k]?=some none:=fun k hk hx=>by
   rw[Array.getD_eq_getD_getElem?,Array.getElem?_eq_getElem (by omega)]at hx
   rw[Array.getElem?_eq_getElem (by omega)]
   simp at hx
   rw[hx]
  have some_of:∀ k,k≤SetTable.runEnd t.mask i-i→(owner.getD (i+k) (some 0)).isNone=false→∃ z,owner[i+k]?=some (some z):=fun k hk hx=>by
   rw[Array.getD_eq_getD_getElem?,Array.getElem?_eq_getElem (by omega)]at hx
   rw[Array.getElem?_eq_getElem (by omega)]
   cases q:owner[i+k]'(by omega)with
   | none=>rw[q]at hx;cases hx
   | some z=>exact⟨z,rfl⟩
  cases hf:(List.range (SetTable.runEnd t.mask i+1-i)).find? fun k=>(owner.getD (i+k) (some 0)).isNone with
  | some x=>
   rw[hf]at h
   cases h
   rw[List.find?_range_eq_some]at hf
   obtain⟨f1,f2,f3⟩:=hf
   rw[List.mem_range]at f2
   refine⟨x,by omega,?_,none_of x (by omega) f1,fun n' hn'=>?_⟩
   ·rw[KI t x _ (by show x≤SetTable.runEnd t.mask i-i;omega)]
   ·rw[KI t n' _ (by show n'≤SetTable.runEnd t.mask i-i;omega)]
    exact some_of n' (by omega) (by simpa using f3 n' hn')
  | none=>
   rw[hf]at h
   dsimp only at h
   rw[List.find?_range_eq_none]at hf
   obtain⟨n,a,b,c,d⟩:=LV hs fuel _ _ (Nat.le_of_lt_succ (Nat.mod_lt _ (Nat.succ_pos _))) h
   have er:=DW t (SetTable.runEnd t.mask i-i) ⟨i,SetTable.runEnd t.mask i-i,i,p,none⟩ rfl
   refine⟨SetTable.runEnd t.mask i-i+1+n,by omega,?_,c,fun n' hn'=>?_⟩
   ·rw[FA,er];exact b
   ·by_cases q:n'≤SetTable.runEnd t.mask i-i
    ·rw[KI t n' _ q]
     exact some_of n' q (by simpa using hf n' (by omega))
    ·obtain⟨x,rfl⟩:∃ x,n'=SetTable.runEnd t.mask i-i+1+x:=⟨n'-(SetTable.runEnd t.mask i-i+1),by omega⟩
     rw[FA,er]
     exact d x (by omega)
theorem No {xs:Array Nat}{y:Nat}:QR xs y↔y∈xs.toList:=by
 unfold QR
 rw[List.mem_iff_getElem?]
 simp only[Array.getElem?_toList]
theorem Ru {xs:Array Nat}{p j y:Nat}(h:QR xs y):QR (SetTable.insertAt xs p j) y:=by
 rw[No]at h ⊢
 rw[(SetTable.insertAt_perm xs p j).mem_iff,Array.toList_push]
 exact List.mem_append_left _ h
abbrev tM (m:Nat):SetTable:={ (SetTable.fresh 0 0 true)with mask:=m }
def Rv (m:Nat)(all:List Int)(k:Nat)(owner:Array (Option Nat)):Prop:=(∀ x,x<k→∃ j:Nat,owner[j]?=some (some x))∧∀ j x:Nat,owner[j]?=some (some x)→∃ h,all[x]?=some h∧RK m (fun y=>∃ z,owner[y]?=some (some z)) h j
theorem Jn {m:Nat}(hm:O7 m)(all:List Int):∀(hs:List Int) (owner:Array (Option Nat)) (k:Nat),all.drop k=hs→UD m k owner→Rv m all k owner→k+hs.length≤m→
 ∃ o',hs.foldl (fun acc h=>do
  let (owner,k) ← acc
  let j ← SetTable.layClean.free m owner (SetTable.turns m) (SetTable.bits h%(m+1)) (SetTable.bits h)
  pure (owner.setIfInBounds j (some k),k+1)) (some (owner,k))=some (o',k+hs.length)∧UD m (k+hs.length) o'∧Rv m all (k+hs.length) o'
 | [],owner,k,_,h,q,_=>⟨owner,rfl,h,q⟩
 | x::hs,owner,k,ed,⟨h1,h2,h3⟩,⟨g1,g2⟩,hk=>by
  rw[List.length_cons]at hk ⊢
  have ax:all[k]?=some x:=by
   have:=congrArg (fun l=>l[0]?) ed
   simpa [List.getElem?_drop]using this
  have ed':all.drop (k+1)=hs:=by
   rw[← List.drop_drop,ed];rfl
  obtain⟨e,he⟩:=LQ (l:=owner.toList) (by rw[h2,Array.length_toList,h1];omega)
  rw[Array.getElem?_toList]at he
  have hle:e≤m:=by have:=(Array.getElem?_eq_some_iff.mp he).1;omega
  obtain⟨q,_,q2,eq⟩:=Ng hm (p:=(SetTable.bits x%(m+1),SetTable.bits x)) (Nat.le_of_lt_succ (Nat.mod_lt _ (Nat.succ_pos _))) (Rm x) hle
  obtain⟨j,ej,hj⟩:=Ni h1 he q (SetTable.turns m) _ _ (by unfold SetTable.turns;omega) eq
  have hlt:=(Array.getElem?_eq_some_iff.mp hj).1
  have hc:HJ (owner.setIfInBounds j (some k)).toList=k+1:=by
   rw[Array.toList_setIfInBounds,Nh (by rw[Array.getElem?_toList];exact hj),h2]
  have hd:∀ i z:Nat,(owner.setIfInBounds j (some k))[i]?=some (some z)→z<k+1:=fun i z hz=>by
   rw[Array.getElem?_setIfInBounds]at hz
   split at hz
   ·simp at hz;omega
   ·have:=h3 i z hz;omega
  have keep:∀ i z:Nat,owner[i]?=some (some z)→(owner.setIfInBounds j (some k))[i]?=some (some z):=fun i z hz=>by
   rw[Array.getElem?_setIfInBounds,if_neg (fun w=>by rw[← w,hj]at hz;cases hz)];exact hz
  have self:(owner.setIfInBounds j (some k))[j]?=some (some k):=by
   rw[Array.getElem?_setIfInBounds,if_pos rfl,if_pos hlt]
  obtain⟨n,n1,n2,_,n3⟩:=LV (t:=tM m) h1 _ _ _ (Nat.le_of_lt_succ (Nat.mod_lt _ (Nat.succ_pos _))) ej
  have hq:Rv m all (k+1) (owner.setIfInBounds j (some k)):=by
   refine⟨fun y hy=>?_,fun i y hy=>?_⟩
   ·by_cases c:y=k
    ·exact⟨j,c▸self⟩
    ·obtain⟨i,hi⟩:=g1 y (by omega)
     exact⟨i,keep _ _ hi⟩
   ·rw[Array.getElem?_setIfInBounds]at hy
    by_cases c:j=i
    ·rw[if_pos c,if_pos hlt]at hy
     injection hy with hy
     injection hy with hy
     subst hy
     exact⟨x,ax,n,n1,by rw[← c];exact n2,fun n' hn'=>let ⟨z,hz⟩:=n3 n' hn';⟨z,keep _ _ hz⟩⟩
    ·rw[if_neg c]at hy
     obtain⟨h,e1,e2⟩:=g2 i y hy
     exact⟨h,e1,e2.mono fun y ⟨z,hz⟩=>⟨z,keep _ _ hz⟩⟩
  obtain⟨o',a,b,b'⟩:=Jn hm all hs (owner.setIfInBounds j (some k)) (k+1) ed' ⟨by simp[h1],hc,hd⟩ hq (by omega)
  rw[show k+(hs.length+1)=k+1+hs.length by omega]
  refine⟨o',?_,b,b'⟩
  rw[List.foldl_cons]
  rw[← a]
  congr 1
  show(SetTable.layClean.free m owner (SetTable.turns m) (SetTable.bits x%(m+1)) (SetTable.bits x)).bind _=_
  rw[ej]
  rfl
theorem Oj {m:Nat}(hm:O7 m){hs:Array Int}(hl:hs.size≤m):∃ owner,SetTable.layClean m hs=some owner∧UD m hs.size owner∧Rv m hs.toList hs.size owner:=by
 have no:∀ j k:Nat,(Array.replicate (m+1) (none:Option Nat))[j]?=some (some k)→False:=fun j k h=>by
  rw[Array.getElem?_replicate]at h
  split at h <;> simp at h
 obtain⟨o',a,b,c⟩:=Jn hm hs.toList hs.toList (Array.replicate (m+1) none) 0 rfl ⟨by simp,by simp[HJ,List.countP_replicate],fun j k h=>(no j k h).elim⟩ ⟨fun x h=>absurd h (Nat.not_lt_zero _),fun j k h=>(no j k h).elim⟩ (by rw[Array.length_toList];omega)
 rw[Nat.zero_add,Array.length_toList]at a b c
 refine⟨o',?_,b,c⟩
 unfold SetTable.layClean
 rw[← Array.foldl_toList]
 exact congrArg (Option.map (·.1)) a
theorem Rx {t:SetTable}{hs:Array Int}{wanted m:Nat}(em:SetTable.sizeAbove wanted-1=m)(hm:O7 m)(hl:hs.size≤m):∃ t' order,t.relaid hs wanted=some (t',order)∧t'.mask=m∧t'.dummies=#[]∧t'.place.size=hs.size∧order.size=hs.size∧(∀ k∈order.toList,k<hs.size)∧FJ t'.place∧(∀ k,k<hs.size→k∈order.toList)∧∀ i j k:Nat,t'.place[i]?=some j→order[i]?=some k→∃ h,hs[k]?=some h∧RK m (QR t'.place) h j:=by
 obtain⟨owner,a,⟨h1,h2,h3⟩,g1,g2⟩:=Oj hm hl
 unfold SetTable.relaid SetTable.laid
 rw[em,a]
 have ll:=LR (owner:=owner) rfl (m+1) (by rw[Array.length_toList,h1];exact Nat.le_refl _)
 rw[List.take_of_length_le (by rw[Array.length_toList,h1];exact Nat.le_refl _),h2]at ll
 have mem:∀ j k:Nat,(j,k)∈(List.range (m+1)).filterMap (fun j=>(owner.getD j none).map (j,·))↔owner[j]?=some (some k):=by
  intro j k
  rw[List.mem_filterMap]
  constructor
  ·rintro⟨j',_,hj⟩
   cases q:owner.getD j' none with
   | none=>rw[q]at hj;cases hj
   | some z=>
    rw[q]at hj
    cases hj
    rw[Array.getD_eq_getD_getElem?]at q
    cases q2:owner[j]? with
    | none=>rw[q2]at q;cases q
    | some y=>rw[q2]at q;exact congrArg some q
  ·intro h
   refine⟨j,List.mem_range.mpr (by have:=(Array.getElem?_eq_some_iff.mp h).1;omega),?_⟩
   rw[Array.getD_eq_getD_getElem?,h]
   rfl
 have pw:((List.range (m+1)).filterMap (fun j=>(owner.getD j none).map (j,·))).Pairwise fun x y=>x.1<y.1:=by
  refine List.Pairwise.filterMap _ (fun a a' haa b hb b' hb'=>?_) List.pairwise_lt_range
  cases q:owner.getD a none with
  | none=>rw[q]at hb;cases hb
  | some z=>
   cases q':owner.getD a' none with
   | none=>rw[q']at hb';cases hb'
   | some z'=>
    rw[q]at hb;rw[q']at hb'
    cases hb;cases hb'
    exact haa
 obtain⟨live,el⟩:∃ live,live=(List.range (m+1)).filterMap (fun j=>(owner.getD j none).map (j,·)):=⟨_,rfl⟩
 rw[← el]at ll mem pw
 refine⟨{ mask:=m,place:=(live.map (·.1)).toArray,dummies:=#[],finger:=t.finger,led:=t.led,moves:=t.movedTo m,plain:=t.plain },(live.map (·.2)).toArray,by rw[el];rfl,rfl,rfl,?_,?_,fun k hk=>?_,?_,fun k hk=>?_,fun i j k hp ho=>?_⟩
 ·rw[List.size_toArray,List.length_map,ll]
 ·rw[List.size_toArray,List.length_map,ll]
 ·rw[List.toList_toArray,List.mem_map]at hk
  obtain⟨⟨j,k'⟩,hq,rfl⟩:=hk
  exact h3 j _ ((mem j k').mp hq)
 ·intro i k a b hik ha hb
  rw[List.getElem?_toArray,List.getElem?_map]at ha hb
  cases qa:live[i]? with
  | none=>rw[qa]at ha;cases ha
  | some x=>
   cases qb:live[k]? with
   | none=>rw[qb]at hb;cases hb
   | some y=>
    rw[qa]at ha;rw[qb]at hb
    cases ha;cases hb
    obtain⟨i1,rfl⟩:=List.getElem?_eq_some_iff.mp qa
    obtain⟨k1,rfl⟩:=List.getElem?_eq_some_iff.mp qb
    exact List.pairwise_iff_getElem.mp pw i k i1 k1 hik
 ·obtain⟨j,hj⟩:=g1 k hk
  rw[List.toList_toArray,List.mem_map]
  exact⟨(j,k),(mem j k).mpr hj,rfl⟩
 ·rw[List.getElem?_toArray,List.getElem?_map]at hp ho
  cases q:live[i]? with
  | none=>rw[q]at hp;cases hp
  | some x=>
   rw[q]at hp ho
   cases hp;cases ho
   obtain⟨h,e1,e2⟩:=g2 _ _ ((mem x.1 x.2).mp (List.mem_of_getElem? q))
   refine⟨h,by rw[← Array.getElem?_toList];exact e1,e2.mono fun y ⟨z,hz⟩=>?_⟩
   rw[No,List.toList_toArray,List.mem_map]
   exact⟨(y,z),(mem y z).mpr hz,rfl⟩
theorem QS {α:Type}{es:Array α}:∀{l:List Nat},(∀ k∈l,k<es.size)→∀ i:Nat,(l.filterMap (es[·]?))[i]?=(l[i]?).bind (es[·]?)
 | [],_,i=>by simp
 | x::l,h,i=>by
  have hx:=h x (by simp)
  rw[List.filterMap_cons,Array.getElem?_eq_getElem hx]
  cases i with
  | zero=>simp[hx]
  | succ i=>
   have:=QS (l:=l) (fun k hk=>h k (List.mem_cons_of_mem _ hk)) i
   simpa using this
end L2.TSt
namespace L2.TSt
open PySem PySem.Spec PyProof.Rows PySem.W L2
section
variable {P:Program}{w:World}{A:Around}{E:Value→Shared→Prop}{s:Shared}
def TU (P:Program)(w:World)(D:Addr→Prop)(h:Heap)(S:Addr)(ks:List (List BY)):Prop:=
 ∃ o es ep t,h.get? S=some o∧o.ExactSet∧o.data=.set es ep t∧t.place.size=es.size∧t.dummies=#[]∧O7 t.mask∧es.size*5<t.mask*3∧es.size=ks.length∧(∀ e∈es.toList,∃ k∈ks,∃ a,D a∧e.2=.ref a∧(TK P w).is h k a)∧RT t es∧∀ k∈ks,∃ e∈es.toList,∃ a,D a∧e.2=.ref a∧(TK P w).is h k a∧e.1=(TK P w).hash k
theorem Jo {t:SetTable}{hashAt:Nat→Int}{h:Int}{e:Nat}{p0:SetTable.Probe}{W:Nat→Prop}(hW:∀ y i,t.slot y=.live i→hashAt i≠h→W y)(hd:t.dummies=#[])(he:t.slot e=.empty):∀(n n0 fuel:Nat) (p:SetTable.Probe),p=Dl t n0 p0→Sw t p→n<fuel→(Dl t n p).j=e→(∀ n'<n0,W (Dl t n' p0).j)→
 (∃ j n1,SetTable.probe.go t hashAt h fuel p=some (.empty j none)∧t.slot j=.empty∧(Dl t n1 p0).j=j∧n1≤n0+n∧∀ n'<n1,W (Dl t n' p0).j)∨∃ j i q n1 n',SetTable.probe.go t hashAt h fuel p=some (.candidate j i q)∧t.slot j=.live i∧Sw t q∧q=Dl t (n1+1) p0∧(Dl t n1 p0).j=j∧n1+1+n'=n0+n∧(Dl t n' q).j=e∧n'<n∧∀ n'<n1,W (Dl t n' p0).j
 | n,n0,0,p,_,_,hf,_,_=>absurd hf (Nat.not_lt_zero _)
 | n,n0,fuel+1,p,ep,st,hf,ej,hw=>by
  unfold SetTable.probe.go
  cases hs:t.slot p.j with
  | empty=>exact .inl ⟨p.j,n0,by rw[st.hd],hs,by rw[ep],by omega,hw⟩
  | dummy=>
   exfalso
   unfold SetTable.slot at hs
   rw[hd]at hs
   dsimp only at hs
   split at hs
   ·cases hs
   ·rw[if_neg (by simp[SetTable.has])]at hs
    cases hs
  | live i=>
   have hn:0<n:=Nat.pos_of_ne_zero fun z=>by
    subst z
    rw[show p.j=e from ej,he]at hs
    cases hs
   obtain⟨n,rfl⟩:∃ k,n=k+1:=⟨n-1,by omega⟩
   have ea:t.advance p=Dl t (n0+1) p0:=by rw[FA,← ep];rfl
   dsimp only
   by_cases c:(hashAt i==h)=true
   ·rw[if_pos c]
    exact .inr ⟨p.j,i,_,n0,n,rfl,hs,st.next,ea,by rw[ep],by omega,ej,Nat.lt_succ_self _,hw⟩
   ·rw[if_neg c]
    have hw':∀ n'<n0+1,W (Dl t n' p0).j:=fun n' hn'=>by
     by_cases q:n'=n0
     ·rw[q,← ep];exact hW _ i hs fun z=>c (by rw[z];exact beq_self_eq_true _)
     ·exact hw n' (by omega)
    rcases Jo hW hd he n (n0+1) fuel _ ea st.next (by omega) ej hw' with⟨j,n1,a,b,c,d,f⟩ | ⟨j,i,q,n1,n',a,b,c,d,f,g,g',l,l'⟩
    ·exact .inl ⟨j,n1,a,b,c,by omega,f⟩
    ·exact .inr ⟨j,i,q,n1,n',a,b,c,d,f,by omega,g',by omega,l'⟩
theorem Np {S a:Addr}{o:Obj}{es:Array (Int×Value)}{ep:Nat}{t:SetTable}{k:List BY}{hh:Int}{e N:Nat}{Q:SetFound→Shared→Prop}(hu:A.units<cLine)(hS:s.heap.get? S=some o)(hd:o.data=.set es ep t)(h1:t.place.size=es.size)(h2:t.dummies=#[])(h3:O7 t.mask)(h4:es.size≤t.mask)
 (hk:(TK P w).is s.heap k a) (hes:∀ e∈es.toList,∃ k',∃ b,e.2=.ref b∧(TK P w).is s.heap k' b) (he:e≤t.mask) (hem:t.slot e=.empty) (hN:N<10*SetTable.turns t.mask) (heN:(Dl t N (t.probeStart hh)).j=e)
 (hq:∀ j n1,t.slot j=.empty→(Dl t n1 (t.probeStart hh)).j=j→n1≤N→(∀ n'<n1,∃ i,t.slot (Dl t n' (t.probeStart hh)).j=.live i∧∀ x,es[i]?=some x→x.1≠hh∨∃ k' b,k'≠k∧x.2=.ref b∧(TK P w).is s.heap k' b)→Q (.free j false) s)
 (hq2:(∃ x∈es.toList,∃ b,x.2=.ref b∧(TK P w).is s.heap k b)→Q (.there none) s):∀(n n0 fuel:Nat) (stand:Option SetTable.Probe),n0+n=N→n<fuel→stand.getD (t.probeStart hh)=Dl t n0 (t.probeStart hh)→Sw t (stand.getD (t.probeStart hh))→(∀ n'<n0,∃ i,t.slot (Dl t n' (t.probeStart hh)).j=.live i∧∀ x,es[i]?=some x→x.1≠hh∨∃ k' b,k'≠k∧x.2=.ref b∧(TK P w).is s.heap k' b)→
 wpAny (model P w) A (setSearchFrom S (.ref a) hh true fuel stand) Q E s
 | n,n0,0,_,_,hf,_,_,_=>absurd hf (Nat.not_lt_zero _)
 | n,n0,fuel+1,stand,hn,hf,ep0,st,hw=>by
  have go:=fun(hashAt:Nat→Int) (hW:∀ i x,es[i]?=some x→hashAt i=x.1)=>Jo (t:=t) (hashAt:=hashAt) (h:=hh) (e:=e) (p0:=t.probeStart hh) (W:=fun y=>∃ i,t.slot y=.live i∧∀ x,es[i]?=some x→x.1≠hh∨∃ k' b,k'≠k∧x.2=.ref b∧(TK P w).is s.heap k' b) (fun y i hs hne=>⟨i,hs,fun x hx=>.inl (by rw[← hW i x hx];exact hne)⟩) h2 hem n n0 (10*SetTable.turns t.mask) (stand.getD (t.probeStart hh)) ep0 st (by omega) (by rw[ep0,← FA,hn];exact heN) hw
  unfold setSearchFrom
  refine wpAny_bind (wpAny_setState_of hS hd (FC h1 h2 h4) ?_)
  dsimp only
  rw[QH h3]
  simp only[Bool.false_eq_true,if_false]
  have go:=go _ (fun i x hx=>by show(es[i]?.map (·.1)).getD 0=_;rw[hx];rfl)
  split
  ·rename_i met hm
   rcases go with⟨j,n1,ee,f1,f2,f3,f4⟩ | ⟨j,i,q,n1,n',ee,hl,sq,eq,f2,f3,f4,f5,f6⟩
   ·have ee:=hm.symm.trans ee
    cases ee
    dsimp only
    exact wpAny_pure (hq j n1 f1 f2 (by omega) f4)
   ·have ee:=hm.symm.trans ee
    cases ee
    dsimp only
    have hi:=Oa hl
    rw[h1]at hi
    obtain⟨k',b,eb,hb⟩:=hes es[i] (Array.getElem_mem_toList hi)
    have hx:es[i]?=some (es[i].1,.ref b):=by rw[← eb];exact Array.getElem?_eq_getElem hi
    rw[hx]
    dsimp only
    have sm:t.sameMemory t.moves t.mask=some true:=by simp[SetTable.sameMemory]
    have tail:wpAny (model P w) A (do
     let equal ← holding [.ref b] (eqBool (.ref b) (.ref a))
     let (es',_,t') ← setState S
     if true&&equal then return .there none
     let some samx:=t'.sameMemory t.moves t.mask | unsupported "set.changed-during-lookup:is-the-new-block-at-the-old-address"
     let still ← match (if samx then t'.slot j else .empty)with
      | .live i'=>match es'[i']? with
       | some (_,y')=>do pure (if ← isSame y' (.ref b)then some i' else none)
       | none=>pure none
      | _=>pure none
     match still with
     | none=>rule "set.search.anew";setSearchFrom S (.ref a) hh true fuel none
     | some i'=>if equal then return .there (some i')else setSearchFrom S (.ref a) hh true fuel (some q)) Q E s:=by
     refine wpAny_bind (wpAny_holding ((TK P w).eqBool hu hb hk ?_))
     refine wpAny_bind (wpAny_setState_of hS hd (FC h1 h2 h4) ?_)
     by_cases nk:k'=k
     ·rw[decide_eq_true nk]
      dsimp only
      simp only[Bool.and_self,if_true]
      exact wpAny_pure (hq2 ⟨_,Array.getElem_mem_toList hi,b,eb,nk▸hb⟩)
     rw[decide_eq_false nk]
     simp only[Bool.and_false,Bool.false_eq_true,if_false,sm,if_true,hl,hx]
     refine wpAny_bind (wpAny_isSame_ref_self (wpAny_bind (wpAny_pure ?_)))
     simp only[if_true]
     refine Np hu hS hd h1 h2 h3 h4 hk hes he hem hN heN hq hq2 n' (n1+1) fuel (some q) (by omega) (by omega) eq sq fun m hm'=>?_
     by_cases c:m=n1
     ·rw[c,f2]
      exact⟨i,hl,fun x hx'=>by rw[hx]at hx';cases hx';exact .inr ⟨k',b,nk,rfl,hb⟩⟩
     ·exact f6 m (by omega)
    by_cases hled:(!t.led)=true
    ·rw[if_pos hled]
     refine wpAny_bind (UE hk (fun y hy=>?_) ?_)
     ·obtain⟨z,hz,rfl⟩:=List.mem_map.mp hy
      rw[Array.toList_filter]at hz
      obtain⟨k2,b2,e2,h2'⟩:=hes z (List.mem_filter.mp hz).1
      exact⟨k2,b2,e2,h2'⟩
     rw[if_neg Bool.false_ne_true]
     exact tail
    ·rw[if_neg hled]
     exact tail
  ·rename_i hm
   exfalso
   rcases go with⟨j,n1,ee,_⟩ | ⟨j,i,q,n1,n',ee,_⟩
   ·exact hm _ ee
   ·exact hm _ ee
end
end L2.TSt
namespace L2.TSt
open PySem PySem.Spec PyProof.Rows PySem.W L2
section
variable {P:Program}{w:World}{A:Around}{E:Value→Shared→Prop}{s:Shared}
theorem UK {D:Addr→Prop}{S a:Addr}{o:Obj}{es:Array (Int×Value)}{ep:Nat}{t t1:SetTable}{ks:List (List BY)}{k:List BY}{hh:Int}{j0:Nat}{Q:Bool→Shared→Prop}(ho:s.heap.get? S=some o)(hx:o.ExactSet)(hd:o.data=.set es ep t)(h3:O7 t.mask)(h4:es.size*5<t.mask*3)(h5:es.size=ks.length)(h1:t.place.size=es.size)(rt:RT t es)(hf:t.slot j0=.empty)(hr:RK t.mask (QR t.place) hh j0)(eh:hh=(TK P w).hash k)(ha:∀ k∈ks,∃ e∈es.toList,∃ a,D a∧e.2=.ref a∧(TK P w).is s.heap k a∧e.1=(TK P w).hash k)
 (h6:∀ e∈es.toList,∃ k∈ks,∃ a,D a∧e.2=.ref a∧(TK P w).is s.heap k a) (hk:(TK P w).is s.heap k a) (hD:D a) (hl:ks.length<64) (q0:t1.place=SetTable.insertAt t.place (SetTable.below t.place j0) j0) (q2:t1.dummies=#[]) (q3:t1.mask=t.mask)
 (h:∀ h',(∀ b o,b≠S→s.heap.get? b=some o→h'.get? b=some o)→TU P w D h' S (ks++[k])→Q true { s with heap:=h' }):
 wpAny (model P w) A (do
  storeSet S (SetTable.insertAt es (SetTable.below t.place j0) (hh,.ref a)) t1
  if(!false&&t1.tooFull)=true then do
   setRelay S (SetTable.grown (es.size+1))
   pure true
  else pure true) Q E s:=by
 have hz:sizeLine=16777216:=sizeLine_eq
 have pm:=SetTable.insertAt_perm es (SetTable.below t.place j0) (hh,Value.ref a)
 have sz:(SetTable.insertAt es (SetTable.below t.place j0) (hh,Value.ref a)).size=es.size+1:=by
  rw[← Array.length_toList,pm.length_eq,Array.length_toList,Array.size_push]
 have mem:∀ e∈(SetTable.insertAt es (SetTable.below t.place j0) (hh,Value.ref a)).toList,∃ k'∈ks++[k],∃ b,D b∧e.2=.ref b∧(TK P w).is s.heap k' b:=fun e he=>by
  have:=pm.mem_iff.mp he
  rw[Array.toList_push,List.mem_append]at this
  rcases this with z | z
  ·obtain⟨k',m1,m2⟩:=h6 e z
   exact⟨k',List.mem_append_left _ m1,m2⟩
  ·rw[List.mem_singleton.mp z]
   exact⟨k,by simp,a,hD,rfl,hk⟩
 have q1:t1.place.size=es.size+1:=by
  rw[q0,← Array.length_toList,(SetTable.insertAt_perm t.place _ j0).length_eq,Array.length_toList,Array.size_push,h1]
 have all:∀ k'∈ks++[k],∃ e∈(SetTable.insertAt es (SetTable.below t.place j0) (hh,Value.ref a)).toList,∃ b,D b∧e.2=.ref b∧(TK P w).is s.heap k' b∧e.1=(TK P w).hash k':=fun k' hk'=>by
  have mm:∀ e,e∈es.toList∨e=(hh,Value.ref a)→e∈(SetTable.insertAt es (SetTable.below t.place j0) (hh,Value.ref a)).toList:=fun e he=>pm.mem_iff.mpr (by rw[Array.toList_push];simpa using he)
  rcases List.mem_append.mp hk' with z | z
  ·obtain⟨e,m1,m2⟩:=ha k' z
   exact⟨e,mm e (.inl m1),m2⟩
  ·rw[List.mem_singleton.mp z]
   exact⟨_,mm _ (.inr rfl),a,hD,rfl,hk,eh⟩
 have rt1:RT t1 (SetTable.insertAt es (SetTable.below t.place j0) (hh,Value.ref a)):=by
  have bl:=(IL (j:=j0) rt.rise).1
  refine⟨?_,fun i j e hp he=>?_⟩
  ·rw[q0]
   exact QP rt.rise fun i hi=>by rw[Hh rt.rise hi]at hf;cases hf
  ·rw[q0,F3 bl]at hp
   rw[F3 (by omega)]at he
   rw[q3,q0]
   have up:∀{hx jx},RK t.mask (QR t.place) hx jx→RK t.mask (QR (SetTable.insertAt t.place (SetTable.below t.place j0) j0)) hx jx:=fun r=>r.mono fun y hy=>Ru hy
   split at hp
   ·rename_i c
    rw[if_pos c]at he
    exact up (rt.rch _ _ _ hp he)
   ·rename_i c
    rw[if_neg c]at he
    split at hp
    ·rename_i d
     rw[if_pos d]at he
     cases hp;cases he
     exact up hr
    ·rename_i d
     rw[if_neg d]at he
     exact up (rt.rch _ _ _ hp he)
 generalize SetTable.insertAt es (SetTable.below t.place j0) (hh,Value.ref a)=es1 at *
 refine wpAny_bind (wpAny_storeSet_of ho hd ?_ (by omega))
 have hg:(s.heap.update S (Obj.putSet es1 t1)).get? S=some { o with data:=.set es1 (ep+1) t1 }:=by
  have:=Heap.get?_update_self (Obj.putSet es1 t1) ho (by rw[putSet_of es1 t1 hd];rfl)
  rw[putSet_of es1 t1 hd]at this;exact this
 have kp:∀ b u,b≠S→s.heap.get? b=some u→(s.heap.update S (Obj.putSet es1 t1)).get? b=some u:=fun b u hb e=>(Heap.get?_update_ne _ _ _ _ hb).trans e
 have mem1:∀ e∈es1.toList,∃ k'∈ks++[k],∃ b,D b∧e.2=.ref b∧(TK P w).is (s.heap.update S (Obj.putSet es1 t1)) k' b:=fun e he=>by
  obtain⟨k',m1,b,m0,m2,m3⟩:=mem e he
  exact⟨k',m1,b,m0,m2,Hg ho hd kp m3⟩
 have all1:∀ k'∈ks++[k],∃ e∈es1.toList,∃ b,D b∧e.2=.ref b∧(TK P w).is (s.heap.update S (Obj.putSet es1 t1)) k' b∧e.1=(TK P w).hash k':=fun k' hk'=>let ⟨e,m1,b,m0,m2,m3,m4⟩:=all k' hk';⟨e,m1,b,m0,m2,Hg ho hd kp m3,m4⟩
 have ll:(ks++[k]).length=es.size+1:=by rw[List.length_append,h5];rfl
 have tf:t1.tooFull=decide (t.mask*3≤(es.size+1)*5):=by
  unfold SetTable.tooFull SetTable.fill
  rw[q1,q2,q3]
  rfl
 by_cases c:t.mask*3≤(es.size+1)*5
 ·rw[tf,decide_eq_true c,if_pos (by decide)]
  obtain⟨m,em,mm,m64⟩:∃ m,SetTable.sizeAbove (SetTable.grown (es.size+1))-1=m∧O7 m∧(es.size+1)*5<m*3∧SetTable.sizeAbove (SetTable.grown (es.size+1))≤128:=by
   rcases h3 with z | z | z
   ·have:es.size=4:=by omega
    rw[this]
    exact⟨31,by nofun,.inr (.inl rfl),by decide,by nofun⟩
   ·have:es.size=18:=by omega
    rw[this]
    exact⟨127,by nofun,.inr (.inr rfl),by decide,by nofun⟩
   ·omega
  refine wpAny_bind ?_
  rw[QJ]
  have hs1:es1.size≤t1.mask:=by rw[sz,q3];rcases h3 with z | z | z <;> omega
  refine wpAny_bind (wpAny_setState_of (s:={ s with heap:=s.heap.update S (Obj.putSet es1 t1) }) hg rfl (FC (by rw[q1,sz]) q2 hs1) ?_)
  dsimp only
  rw[if_neg (by omega)]
  obtain⟨t',order,r1,r2,r3,r4,r5,r6,r7,r8,r9⟩:=Rx (t:=t1) (hs:=es1.map (·.1)) em mm (by rw[Array.size_map];omega)
  rw[Array.size_map,sz]at r4 r5 r6 r8
  have hlt6:∀ k∈order.toList,k<es1.size:=fun k hk=>by rw[sz];exact r6 k hk
  have so:(order.filterMap (es1[·]?)).size=es1.size:=by
   have:(order.toList.filterMap (es1[·]?)).length=order.toList.length:=by
    have:∀ l:List Nat,(∀ k∈l,k<es.size+1)→(l.filterMap (es1[·]?)).length=l.length:=by
     intro l
     induction l with
     | nil=>intro _;rfl
     | cons x l ih=>
      intro hx
      have hlt:x<es1.size:=by rw[sz];exact hx x (by simp)
      rw[List.filterMap_cons,Array.getElem?_eq_getElem hlt]
      simp only[List.length_cons]
      rw[ih fun k hk=>hx k (List.mem_cons_of_mem _ hk)]
    exact this _ r6
   rw[← Array.length_toList,Array.toList_filterMap,this,Array.length_toList,r5,sz]
  refine wpAny_bind ?_
  rw[r1]
  dsimp only
  rw[if_neg (by rw[so];simp)]
  refine wpAny_pure ?_
  dsimp only
  refine wpAny_storeSet_of (s:={ s with heap:=s.heap.update S (Obj.putSet es1 t1) }) hg rfl ?_ (by rw[so];omega)
  refine wpAny_pure (h _ (fun b u hb e=>(Heap.get?_update_ne _ _ _ _ hb).trans (kp b u hb e)) ⟨{ o with data:=.set (order.filterMap (es1[·]?)) (ep+1+1) t' },_,_,_,?_,?_,rfl,?_,r3,?_,?_,?_,fun e he=>?_,⟨r7,fun i j e hp he=>?_⟩,fun k' hk'=>?_⟩)
  ·have:=Heap.get?_update_self (Obj.putSet (order.filterMap (es1[·]?)) t') hg (by rw[putSet_of _ t' rfl];rfl)
   rw[putSet_of _ t' rfl]at this;exact this
  ·exact hx
  ·rw[r4,so,sz]
  ·rw[r2];exact mm
  ·rw[so,sz,r2];exact m64.1
  ·rw[so,sz,ll]
  ·rw[Array.toList_filterMap,List.mem_filterMap]at he
   obtain⟨i,_,hi⟩:=he
   obtain⟨k',m1,b,m0,m2,m3⟩:=mem1 e (Array.mem_toList_iff.mpr (Array.mem_of_getElem? hi))
   exact⟨k',m1,b,m0,m2,Hg hg rfl (fun b u hb e=>(Heap.get?_update_ne _ _ _ _ hb).trans e) m3⟩
  ·rw[← Array.getElem?_toList,Array.toList_filterMap,QS hlt6 i]at he
   cases qo:order.toList[i]? with
   | none=>rw[qo]at he;cases he
   | some x=>
    rw[qo]at he
    have he:es1[x]?=some e:=he
    obtain⟨hx,e1,e2⟩:=r9 i j x hp (by rw[← Array.getElem?_toList];exact qo)
    rw[Array.getElem?_map,he]at e1
    cases e1
    rw[r2]
    exact e2
  ·obtain⟨e,m1,b,m0,m2,m3,m4⟩:=all1 k' hk'
   obtain⟨x,hx⟩:=List.mem_iff_getElem?.mp m1
   rw[Array.getElem?_toList]at hx
   refine⟨e,?_,b,m0,m2,Hg hg rfl (fun b u hb e=>(Heap.get?_update_ne _ _ _ _ hb).trans e) m3,m4⟩
   rw[Array.toList_filterMap,List.mem_filterMap]
   exact⟨x,r8 x (by have:=(Array.getElem?_eq_some_iff.mp hx).1;omega),hx⟩
 ·rw[tf,decide_eq_false c]
  simp only[Bool.not_false,Bool.and_false,Bool.false_eq_true,if_false]
  exact wpAny_pure (h _ kp ⟨_,_,_,_,hg,hx,rfl,by rw[q1,sz],q2,by rw[q3];exact h3,by rw[sz,q3];omega,by rw[sz,ll],mem1,rt1,all1⟩)
theorem Xk {D:Addr→Prop}{S a:Addr}{ks:List (List BY)}{k:List BY}{Q:Bool→Shared→Prop}(hu:A.units<cLine)(hS:TU P w D s.heap S ks)(hk:(TK P w).is s.heap k a)(hD:D a)(hl:ks.length<64)
 (h:k∉ks→∀ h',(∀ b o,b≠S→s.heap.get? b=some o→h'.get? b=some o)→TU P w D h' S (ks++[k])→Q true { s with heap:=h',toks:=s.toks+(TK P w).draws k })  (hF:k∈ks→Q false { s with toks:=s.toks+(TK P w).draws k }):wpAny (model P w) A (setAdd S (.ref a)) Q E s:=by
 obtain⟨o,es,ep,t,ho,hx,hd,h1,h2,h3,h4,h5,h6,rt,ha⟩:=hS
 have hm:es.size≤t.mask:=by omega
 unfold setAdd
 refine wpAny_holding (wpAny_bind ((TK P w).pyHash hu hk ?_))
 unfold setAddHashed setAddHashedIn
 refine wpAny_holding (wpAny_bind (wpAny_setState_of ho hd (FC h1 h2 hm) ?_))
 dsimp only
 rw[show byScan (.ref a) es=false by simp[byScan,Value.scannable]]
 simp only[Bool.false_eq_true,if_false]
 obtain⟨e,he,hem⟩:=Ob h2 (by rw[h1];exact hm)
 obtain⟨n,hn1,hn2⟩:=Vp h3 (Jl t ((TK P w).hash k)) he
 unfold setSearch
 have am:=LU (t:=t) rfl
 refine wpAny_bind (Np (s:={ s with toks:=s.toks+(TK P w).draws k }) hu ho hd h1 h2 h3 hm hk (fun x hx=>?_) he hem hn1 hn2 (fun j n1 f1 f2 f3 f4=>?_) (fun fd=>?_) n 0 100000 none (Nat.zero_add _) ?_ rfl (Jl t _) (fun _ h=>absurd h (Nat.not_lt_zero _)))
 ·obtain⟨k',m1,b,_,m2,m3⟩:=h6 x hx
  exact⟨k',b,m2,m3⟩
 ·have hn:k∉ks:=fun hm'=>by
   obtain⟨x,m1,b,_,m2,m3,m4⟩:=ha k hm'
   obtain⟨i,hi⟩:=List.mem_iff_getElem?.mp m1
   rw[Array.getElem?_toList]at hi
   have hip:i<t.place.size:=by have:=(Array.getElem?_eq_some_iff.mp hi).1;omega
   have hpl:=Array.getElem?_eq_getElem hip
   obtain⟨n2,g1,g2,g3⟩:=rt.rch i _ x hpl hi
   have g2:(Dl t n2 (t.probeStart ((TK P w).hash k))).j=t.place[i]:=by rw[m4,← am]at g2;exact g2
   have g3:∀ n'<n2,QR t.place (Dl t n' (t.probeStart ((TK P w).hash k))).j:=fun n' h'=>by rw[am];have:=g3 n' h';rw[m4]at this;exact this
   rcases Nat.lt_trichotomy n1 n2 with c | c | c
   ·obtain⟨i',hi'⟩:=g3 n1 c
    rw[f2]at hi'
    rw[Hh rt.rise hi']at f1
    cases f1
   ·rw[c,g2]at f2
    rw[← f2,Hh rt.rise hpl]at f1
    cases f1
   ·obtain⟨i',s1,s2⟩:=f4 n2 c
    rw[g2,Hh rt.rise hpl]at s1
    cases s1
    rcases s2 x hi with z | ⟨k',b',nk,e2,is'⟩
    ·exact z m4
    ·rw[m2]at e2
     cases e2
     exact nk ((TK P w).inj is' m3)
  have hr:RK t.mask (QR t.place) ((TK P w).hash k) j:=⟨n1,by omega,by rw[← am];exact f2,fun n' h'=>by
   obtain⟨i,s1,_⟩:=f4 n' h'
   rw[am]at s1
   exact⟨i,Rt s1⟩⟩
  dsimp only
  refine wpAny_bind (wpAny_setState_of (s:={ s with toks:=s.toks+(TK P w).draws k }) ho hd (FC h1 h2 hm) ?_)
  dsimp only
  have hp:(t.put j).1.place=SetTable.insertAt t.place (SetTable.below t.place j) j∧(t.put j).1.dummies=#[]∧(t.put j).1.mask=t.mask:=by
   refine⟨rfl,?_,rfl⟩
   ·show(if SetTable.has t.dummies j=true then _ else t.dummies)=#[]
    rw[h2,if_neg (by simp[SetTable.has])]
  obtain⟨p1,p2,p3⟩:=hp
  have hq:=fun t1 (e1:SetTable.place t1=(t.put j).1.place) (e2:t1.dummies=(t.put j).1.dummies) (e3:t1.mask=(t.put j).1.mask)=>UK (A:=A) (E:=E) (s:={ s with toks:=s.toks+(TK P w).draws k }) (j0:=j) (hh:=(TK P w).hash k) ho hx hd h3 h4 h5 h1 rt f1 hr rfl ha h6 hk hD hl (t1:=t1) (by rw[e1,p1]) (by rw[e2,p2]) (by rw[e3,p3]) (fun h' hk' hT=>h hn h' hk' hT)
  split
  ·refine wpAny_bind (QI hk fun b=>?_)
   cases b with
   | true=>exact hq _ rfl rfl rfl
   | false=>exact hq _ rfl rfl rfl
  ·refine wpAny_bind (wpAny_pure ?_)
   exact hq _ rfl rfl rfl
 ·obtain⟨x,hx,b,e1,e2⟩:=fd
  obtain⟨k',m1,b',_,m2,m3⟩:=h6 x hx
  rw[e1]at m2
  cases m2
  have:=(TK P w).inj m3 e2
  subst this
  exact wpAny_pure (hF m1)
 ·have:SetTable.turns t.mask≤142:=by
   unfold SetTable.turns
   rcases h3 with z | z | z <;> rw[z] <;> decide
  omega
end
end L2.TSt
namespace L2.TSt
open PySem PySem.Spec PyProof.Rows PySem.W L2
def dd {α:Type}[DecidableEq α](l:List α):List α:=l.foldl (fun acc x=>if x∈acc then acc else acc++[x]) []
theorem dd_snoc {α:Type}[DecidableEq α](l:List α)(x:α):dd (l++[x])=if x∈dd l then dd l else dd l++[x]:=by
 unfold dd
 rw[List.foldl_append]
 rfl
theorem Mp {α:Type}[DecidableEq α]{x:α}:∀(n:Nat) (l:List α),l.length=n→(x∈dd l↔x∈l)
 | 0,l,h=>by rw[List.length_eq_zero_iff.mp h];rfl
 | n+1,l,h=>by
  obtain⟨m,y,rfl⟩:∃ m y,l=m++[y]:=by
   have:l≠[]:=fun z=>by rw[z]at h;cases h
   exact⟨l.dropLast,l.getLast this,(List.dropLast_concat_getLast this).symm⟩
  have ih:=Mp (x:=x) n m (by rw[List.length_append]at h;exact Nat.succ.inj h)
  have ihy:=Mp (x:=y) n m (by rw[List.length_append]at h;exact Nat.succ.inj h)
  rw[dd_snoc,List.mem_append,List.mem_singleton]
  split
  ·rename_i c
   rw[ih]
   constructor
   ·exact .inl
   ·rintro(z | z)
    ·exact z
    ·rw[z];exact ihy.mp c
  ·rw[List.mem_append,List.mem_singleton,ih]
theorem Jp {α:Type}[DecidableEq α]:∀(n:Nat) (l:List α),l.length=n→(dd l).length≤n
 | 0,l,h=>by rw[List.length_eq_zero_iff.mp h];exact Nat.le_refl _
 | n+1,l,h=>by
  obtain⟨m,y,rfl⟩:∃ m y,l=m++[y]:=by
   have:l≠[]:=fun z=>by rw[z]at h;cases h
   exact⟨l.dropLast,l.getLast this,(List.dropLast_concat_getLast this).symm⟩
  have ih:=Jp n m (by rw[List.length_append]at h;exact Nat.succ.inj h)
  rw[dd_snoc]
  split
  ·omega
  ·rw[List.length_append];exact Nat.succ_le_succ ih
theorem dd_nd {α:Type}[DecidableEq α]:∀(n:Nat) (l:List α),l.length=n→l.Nodup→dd l=l
 | 0,l,h,_=>by rw[List.length_eq_zero_iff.mp h];rfl
 | n+1,l,h,nd=>by
  obtain⟨m,y,rfl⟩:∃ m y,l=m++[y]:=by
   have:l≠[]:=fun z=>by rw[z]at h;cases h
   exact⟨l.dropLast,l.getLast this,(List.dropLast_concat_getLast this).symm⟩
  have hm:m.length=n:=by rw[List.length_append]at h;exact Nat.succ.inj h
  rw[List.nodup_append]at nd
  have ih:=dd_nd n m hm nd.1
  rw[dd_snoc,ih,if_neg fun z=>nd.2.2 y z y (by simp) rfl]
theorem dd_two {α:Type}[DecidableEq α]{l:List α}{x:α}(h:x∈l):(dd (l++[x])).length<(l++[x]).length:=by
 rw[dd_snoc,if_pos ((Mp _ l rfl).mpr h),List.length_append]
 exact Nat.lt_succ_of_le (Jp _ l rfl)
theorem KJ {α:Type}[DecidableEq α]{l:List α}{i:Nat}{x:α}(h:l[i]?=some x):dd (l.take (i+1))=if x∈dd (l.take i)then dd (l.take i)else dd (l.take i)++[x]:=by
 rw[List.take_add_one,h]
 exact dd_snoc _ _
section
variable {prog:Program}{w:World}{A:Around}{E:Value→Shared→Prop}{s:Shared}
def Ry (prog:Program)(w:World)(h:Heap)(its:List Value)(n:Nat):Prop:=(∃ zs:List Str,Paired (fun v z=>∃ t,v=Value.str z t) its zs∧n=(dd zs).length)∨∃ ks:List (List BY),Paired (fun v k=>∃ b,v=Value.ref b∧(TK prog w).is h k b) its ks∧n=(dd ks).length
theorem Ry.le {h:Heap}{its:List Value}{n:Nat}(x:Ry prog w h its n):n≤its.length:=by
 rcases x with⟨zs,p,rfl⟩ | ⟨ks,p,rfl⟩
 ·rw[Paired.length p];exact Jp _ _ rfl
 ·rw[Paired.length p];exact Jp _ _ rfl
theorem Rz {Q:Value→Shared→Prop}{l:Addr}{its:List Value}{n:Nat}(hh:A.handled=none)(hu:A.units+3<cLine)(hl:s.heap.IsList l its.toArray∨s.heap.IsTuple l its.toArray)(h64:its.length<64)(el:Ry prog w s.heap its n)
 (hQ:∀ h' tk,(∀ b o,s.heap.get? b=some o→h'.get? b=some o)→Xj h' s.heap.objs.size n→Q (.ref s.heap.objs.size) { s with heap:=h',toks:=tk }):
 wpAny (model prog w) A (call (.type "set") [.ref l]) Q E s:=by
 rcases el with⟨zs,hp,rfl⟩ | ⟨ks,hp,rfl⟩
 ·have ll:its.length=zs.length:=Paired.length hp
  refine Nj (T:=fun S I i h=>Heap.SetOf (strKind prog w) h S (fun z=>decide (z∈dd (zs.take i))) (dd (zs.take i)).length) hh hl (fun S I i h h' _ ne hT kp=>QD hT fun o e=>kp _ _ (by simpa using ne) e) (fun S I i v s' Q E hi hv hT hq=>?_) (fun led S I h _ _ _ hS=>⟨_,_,_,_,hS,⟨rfl,rfl,rfl⟩,rfl,(fun e he=>by cases he),(fun k=>⟨fun z=>(by cases z),fun⟨e,he,_⟩=>(by cases he)⟩),(by show 0<4096;decide),rfl,rfl⟩) fun h' tk I kp hT=>hQ h' tk kp ?_
  ·obtain⟨z,hz,t,rfl⟩:=UF hp hv
   have is:(strKind prog w).is z (.str z t)=true:=Mj _ _
   have l1:(dd (zs.take i)).length≤i:=by have:=Jp _ (zs.take i) rfl;rw[List.length_take]at this;omega
   unfold setAdd
   refine wpAny_holding (wpAny_bind ((strKind prog w).pyHash is ?_))
   refine wpAny_setAddHashed_of is rfl hT (by show(dd (zs.take i)).length+1<4096;omega) fun h' hsb hso2=>hq _ _ _ (fun c o hc e=>by rw[hsb.2 c hc];exact e) (Nat.le_succ _) ?_
   dsimp only
   rw[KJ hz]
   by_cases c:z∈dd (zs.take i)
   ·rw[if_pos (decide_eq_true c)]at hso2
    rw[if_pos c]
    have e:(fun k'=>decide (k'∈dd (zs.take i))||decide (k'=z))=fun k'=>decide (k'∈dd (zs.take i)):=funext fun k'=>by
     by_cases d:k'=z
     ·subst d;simp[c]
     ·simp[d]
    rw[← e];exact hso2
   ·rw[if_neg (by simpa using c)]at hso2
    rw[if_neg c,List.length_append]
    have e:(fun k'=>decide (k'∈dd (zs.take i))||decide (k'=z))=fun k'=>decide (k'∈dd (zs.take i)++[z]):=funext fun k'=>by
     simp
    rw[← e];exact hso2
  ·obtain⟨o,es,ep,t,e1,e2,e3,_,_,_,e7,e8⟩:=hT
   rw[ll,List.take_length]at e8
   exact⟨o,es,ep,t,e1,e2,e3,e7,e8⟩
 ·have ll:its.length=ks.length:=Paired.length hp
  have hp':Paired (fun v k=>∃ b,b<s.heap.objs.size∧v=Value.ref b∧(TK prog w).is s.heap k b) its ks:=Paired.imp' (fun v k ⟨b,h1,h2⟩=>⟨b,by obtain⟨o,i,n,e,_⟩:=h2;exact Heap.lt_size e,h1,h2⟩) hp
  refine Nj (T:=fun S I i h=>s.heap.objs.size≤S∧TU prog w (·<s.heap.objs.size) h S (dd (ks.take i))∧Paired (fun v k=>∃ b,b<s.heap.objs.size∧v=Value.ref b∧(TK prog w).is h k b) its ks) hh hl (fun S I i h h' hI ne hT kp=>?_) (fun S I i v s' Q E hi hv hT hq=>?_) (fun led S I h lS _ kp hS=>?_) fun h' tk I kp hT=>hQ h' tk kp ?_
  ·obtain⟨lS,⟨o,es,ep,t,ho,r1,r2,r3,r4,r5,r6,r7,r8,r9,r10⟩,hp⟩:=hT
   have kb:∀{k b},b<s.heap.objs.size→(TK prog w).is h k b→(TK prog w).is h' k b:=fun hb x=>Mk x fun o e=>kp _ _ (by simp;omega) e
   exact⟨lS,⟨o,es,ep,t,kp _ _ (by simpa using ne) ho,r1,r2,r3,r4,r5,r6,r7,(fun e he=>let ⟨k,m1,b,m2,m3,m4⟩:=r8 e he;⟨k,m1,b,m2,m3,kb m2 m4⟩),r9,fun k hk=>let ⟨e,m1,b,m2,m3,m4,m5⟩:=r10 k hk;⟨e,m1,b,m2,m3,kb m2 m4,m5⟩⟩,Paired.imp' (fun v k ⟨b,h1,h2,h3⟩=>⟨b,h1,h2,kb h1 h3⟩) hp⟩
  ·obtain⟨lS,hT,hp⟩:=hT
   obtain⟨k,hk,b,hb,rfl,hkb⟩:=UF hp hv
   have l1:(dd (ks.take i)).length≤i:=by have:=Jp _ (ks.take i) rfl;rw[List.length_take]at this;omega
   refine Xk (show A.in1.in1.in1.units<cLine from hu) hT hkb hb (by omega) (fun hn h' hkp hT2=>hq _ _ _ hkp (Nat.le_add_right _ _) ⟨lS,?_,Paired.imp' (fun v k ⟨b,h1,h2,h3⟩=>⟨b,h1,h2,Mk h3 fun o e=>hkp _ _ (Nat.ne_of_lt (Nat.lt_of_lt_of_le h1 lS)) e⟩) hp⟩) fun hm=>hq _ _ _ (fun c o _ e=>e) (Nat.le_add_right _ _) ⟨lS,?_,hp⟩
   ·rw[KJ hk,if_neg hn];exact hT2
   ·rw[KJ hk,if_pos hm];exact hT
  ·exact⟨lS,⟨_,_,_,_,hS,⟨rfl,rfl,rfl⟩,rfl,rfl,rfl,.inl rfl,(by show 0*5<7*3;decide),rfl,(fun e he=>by cases he),⟨(fun i j a b _ h=>by cases h),(fun i j e h=>by cases h)⟩,fun k hk=>by cases hk⟩,Paired.imp' (fun v k ⟨b,h1,h2,h3⟩=>⟨b,h1,h2,Mk h3 fun o e=>kp _ _ e⟩) hp'⟩
  ·obtain⟨_,⟨o,es,ep,t,ho,r1,r2,r3,r4,r5,r6,r7,r8,_⟩,hp⟩:=hT
   refine⟨o,es,ep,t,ho,r1,r2,FC r3 r4 (by omega),?_⟩
   rw[r7,ll,List.take_length]
end
section
variable {X:Cx}
def QT (K:PySem.W.Frag)(te:TE):TE:=fun σ H Q=>te σ H fun x H1=>∃(a:Addr) (us:List V) (n:Nat),x=.ref a∧(As K H1 a us∨A0 K H1 a us)∧us.length<64∧((∃ zs:List Str,us=zs.map V.str∧n=(dd zs).length)∨∃ ks:List (List BY),Paired (fun v k=>∃ b,v=.ref b∧H1 b=some (.tup (k.map kV))) us ks∧n=(dd ks).length)∧Q (.int n) H1
theorem pe_lensetU {e:Expr}{te:TE}{p p2 pos pos2:Pos}(hu:X.A.units+3<cLine)(hc:X.calm=true)(hg:Gl X "len")(hm:X.mg "len"=none)(hv:bootBuiltins "len"=some (.builtin "len"))(hg2:Gl X "set")(hm2:X.mg "set"=none)(he:PE X e te)
 (hs:starEach [e] X.env=(false,eval e X.env)::starEach [] X.env:=by rfl):
 PE X (.Call (.Name "len" p) [.Call (.Name "set" p2) [e] [] pos2] [] pos) (QT X.K te):=by
 intro pins s σ H Q I h
 refine wpAny_Call_Name_kw (Dz I hg hm hv ?_)
 refine PyProof.Rows.callWith_builtin1 ?_ rfl rfl
 show wpAny _ _ (spliced ((false,eval (.Call (.Name "set" p2) [e] [] pos2) X.env)::backTo pos (starEach [] X.env))) _ _ s
 refine Calls.spliced_cons ?_
 refine wpAny_Call_Name_kw (Dz I hg2 hm2 UB ?_)
 refine PyProof.Rows.callWith_type1 ?_ hs rfl
 rw[hs]
 show wpAny _ _ (spliced ((false,eval e X.env)::backTo pos2 (starEach [] X.env))) _ _ s
 refine Calls.spliced_cons (Bq (he pins s σ H _ I h) fun u s1 ⟨x,H1,I1,r1,q1⟩=>Calls.spliced_nil ?_)
 obtain⟨a,us,n,rfl,hq,h64,hel,q⟩:=q1
 cases r1
 obtain⟨its,rv,pl⟩:∃ its,A3 us its∧(s1.heap.IsList a its.toArray∨s1.heap.IsTuple a its.toArray):=by
  rcases hq with hq | hq
  ·obtain⟨its,rv,pl,_⟩:=I1.list hq
   exact⟨its,rv,.inl pl.isList⟩
  ·obtain⟨its,rv,pl,_⟩:=I1.tuple hq
   exact⟨its,rv,.inr pl⟩
 have hlen:=rv.length
 have el:Ry X.prog X.w s1.heap its n:=by
  rcases hel with⟨zs,rfl,nd⟩ | ⟨ks,hp,nd⟩
  ·refine .inl ⟨zs,?_,nd⟩
   clear hq hlen h64 nd q pl
   induction zs generalizing its with
   | nil=>cases rv;exact .nil
   | cons z zs ih=>
    cases rv with
    | cons r t=>exact .cons r (ih _ t)
  ·refine .inr ⟨ks,?_,nd⟩
   clear hq hlen h64 nd q pl
   induction hp generalizing its with
   | nil=>cases rv;exact .nil
   | cons r t ih=>
    cases rv with
    | cons r' t'=>
     obtain⟨b,rfl,hb⟩:=r
     cases r'
     exact .cons ⟨b,rfl,KB I1.hok hb⟩ (ih _ t')
 have hle:=el.le
 refine Rz (I.ok.hd hc) hu pl (by omega) el fun h' tk hk hso=>?_
 obtain⟨o,es,ep,t,e1,e2,e3,e7,e8⟩:=hso
 refine Calls.spliced_nil (call_len_set e1 e2 e3 e7 (by rw[e8];omega) ?_)
 have I2:Ap X pins σ H1 { s1 with heap:=h',toks:=tk }:=I1.kept (t':=tk) fun b o e=>hk b o e
 exact⟨.int n,H1,I2.tok _,⟨_,by rw[e8]⟩,q⟩
end
end L2.TSt
namespace L2
open PySem PySem.Spec PyProof.Rows PySem.W L2
section
variable {X:Cx}
def Xl (K:PySem.W.Frag):List V→Hp→VK→Prop:=fun xs H Q=>∃(x:V) (p:Addr) (ty:String) (b:Bool),xs=[x,.ref p]∧Fb K H x (.type ty)∧H p=some (.tup [.ty "list",.ty "tuple"])∧PySem.W.kitAny K (.type ty) [.type "list",.type "tuple"]=some b∧Q (.bl b) H
theorem IM:DD X (.builtin "isinstance") (Xl X.K):=by
 intro pins s σ H xs us Q I r h
 obtain⟨x,p,tn,b,rfl,ty,hp,hk,q⟩:=h
 generalize et:Value.type tn=t at ty hk
 obtain⟨u,w',rfl,rx,r2⟩:=NS r
 cases r2
 obtain⟨_,its,rv',ob,ho,hcl,n,hd⟩:=I.hok p _ hp
 have e:its=[.type "list",.type "tuple"]:=by
  cases rv' with
  | cons r t=>
   cases r
   cases t with
   | cons r t=>
    cases r
    cases t
    rfl
 subst e
 obtain⟨oc,od,oda,osl⟩:=ob
 dsimp only at hcl hd
 subst hcl hd
 have fin:∀ tk,∃ y H',Ap X pins σ H' { s with toks:=tk }∧Aw y (.bool b)∧Q y H':=fun tk=>⟨.bl b,H,I.tok tk,rfl,q⟩
 cases ty with
 | non=>cases (show u=Value.none from rx);exact PySem.W.kia_tup PySem.W.kitx_none I.kIn True.intro ho hk (fun z=>nomatch z) fin
 | bl y=>cases (show u=Value.bool y from rx);exact PySem.W.kia_tup PySem.W.kitx_bool I.kIn True.intro ho hk (fun z=>nomatch z) fin
 | int i=>obtain⟨t,q⟩:=(show ∃ t,u=Value.int i t from rx);cases q;exact PySem.W.kia_tup PySem.W.kitx_int I.kIn True.intro ho hk (fun z=>nomatch z) fin
 | str y=>obtain⟨t,q⟩:=(show ∃ t,u=Value.str y t from rx);cases q;exact PySem.W.kia_tup PySem.W.kitx_str I.kIn True.intro ho hk (fun z=>nomatch z) fin
 | flt y=>obtain⟨t,q⟩:=(show ∃ t,u=Value.float y t from rx);cases q;exact PySem.W.kia_tup PySem.W.kitx_float I.kIn True.intro ho hk (fun z=>nomatch z) fin
 | @lst a xs ea=>
  cases (show u=Value.ref a from rx)
  obtain⟨_,_,n,_,h1⟩:=(show BI X.prog X.w H s.heap a (.lst xs)from I.hok a _ ea)
  exact PySem.W.kia_tup PySem.W.kitx_list I.kIn ⟨_,h1,rfl⟩ ho hk (fun z=>nomatch z) fin
 | @frz a ob xs ea=>
  cases (show u=Value.ref a from rx)
  obtain⟨_,_,_,n,_,h1⟩:=(show BI X.prog X.w H s.heap a (.frz ob (.lst xs))from I.hok a _ ea)
  exact PySem.W.kia_tup PySem.W.kitx_list I.kIn ⟨_,h1,rfl⟩ ho hk (fun z=>nomatch z) fin
 | @tup a xs ea=>
  cases (show u=Value.ref a from rx)
  obtain⟨_,_,_,p⟩:=(show BI X.prog X.w H s.heap a (.tup xs)from I.hok a _ ea)
  obtain⟨o,h1,h2,_⟩:=p
  exact PySem.W.kia_tup PySem.W.kitx_tuple I.kIn ⟨o,h1,h2⟩ ho hk (fun z=>nomatch z) fin
 | @dK a kvs ea=>
  cases (show u=Value.ref a from rx)
  obtain⟨_,_,vs,_,p⟩:=(show BI X.prog X.w H s.heap a (.dK kvs)from I.hok a _ ea)
  obtain⟨o,es,ep,h1,h2,_⟩:=p
  exact PySem.W.kia_tup PySem.W.kitx_dict I.kIn ⟨o,h1,h2.1⟩ ho hk (fun z=>nomatch z) fin
 | @dT a kvs ea=>
  cases (show u=Value.ref a from rx)
  obtain⟨_,_,xs,_,o,es,ep,h1,h2,_⟩:=(show BI X.prog X.w H s.heap a (.dT kvs)from I.hok a _ ea)
  exact PySem.W.kia_tup PySem.W.kitx_dict I.kIn ⟨o,h1,h2.1⟩ ho hk (fun z=>nomatch z) fin
 | ins e=>cases et
theorem R0 {k:Nat}(hu:X.A.units+k<cLine):FS X (compareOp .Eq) (fun x y H Q=>∃ a b xs ys n,x=.ref a∧y=.ref b∧H a=some (.tup xs)∧H b=some (.tup ys)∧xs.length=ys.length∧n<k∧(∀(j:Nat) (u v:V),xs[j]?=some u→ys[j]?=some v→KC H n u v)∧Q (.bl true) H):=by
 intro pins s σ H x y v u Q I rx ry h
 obtain⟨a,b,xs,ys,n,rfl,rfl,ha,hb,hl,hn,hx,q⟩:=h
 cases rx
 cases ry
 obtain⟨its,r1,p1,_⟩:=I.tuple (A0.of ha)
 obtain⟨its2,r2,p2,_⟩:=I.tuple (A0.of hb)
 refine SeqAt.eq_tupleAt (e:=fun _=>true) (show s.heap.IsTuple a its.toArray from p1) (show s.heap.IsTuple b its2.toArray from p2) (by omega) (LK I (n:=n) r1 r2 fun j u v e1 e2 u' v' ru rv=>(hx j u v e1 e2).at I (A:=X.A.in1) (show X.A.units+1+n<cLine by omega) ru rv) ⟨.bl true,H,I,?_,q⟩
 rw[List.size_toArray,List.size_toArray,← r1.length,← r2.length,Jh,hl]
 simp[Aw]
end
end L2
namespace Mx
structure YJ (x y:Int):Prop where
 pos:0<y
 cop:Nat.gcd x.natAbs y.natAbs=1
theorem QU {m n:Nat}:Nat.gcd n (m%n)=Nat.gcd m n:=by
 rw[Nat.gcd_comm m n,Nat.gcd_rec n m,Nat.gcd_comm]
end Mx
namespace Mx
end Mx
namespace Fs
open PySem L2 Mx
structure Df (K:PySem.W.Frag)(mg:Str→Option Value)(x:Str)(st:Stmt)(ps:List Str)(f:Addr)(fd:FuncData):Prop where
 fn:Fun K x x st f fd
 gl:mg x=some (.ref f)
 b:IA K fd ps []
theorem AR {X:Cx}{k:Nat}{f:Addr}{fd:FuncData}{ps:List Str}{sp:Sp}{x:Str}{st:Stmt}{e:Expr}{es:List Expr}{t:TA}{p pos:Pos}(D:Df X.K X.mg x st ps f fd)(F:A1 X.prog X.w X.K X.mg X.base Bo k f fd ps sp)(hr:Bx k X.A)
 (ha:PA X (e::es) t) (hg:Gl X x:=by rfl) (hdb:(x==("__debug__":Str))=false:=by decide) (he:starEach (e::es) X.env=(false,eval e X.env)::starEach es X.env:=by rfl) (hpl:(backTo pos (starEach es X.env)).any (·.1)=false:=by rfl):
 PE X (.Call (.Name x p) (e::es) [] pos) (Sn sp [] E0 t):=E6 F hr hg D.gl D.fn.kp D.b .nil VX ha hdb he hpl
theorem IN:bootBuiltins "abs"=some (.builtin "abs"):=by nofun
def KeepX (p:Addr)(H H':Hp):Prop:=∀ b o,b≠p→H b=some o→H' b=some o
theorem KeepX.refl (p:Addr)(H:Hp):KeepX p H H:=fun _ _ _ e=>e
theorem KeepX.trans {p:Addr}{H H1 H2:Hp}(a:KeepX p H H1)(b:KeepX p H1 H2):KeepX p H H2:=fun c o hc e=>b c o hc (a c o hc e)
theorem KeepX.upd {p:Addr}{H:Hp}{o:HO}:KeepX p H (upd H p o):=fun b u hb e=>by rw[Ab hb];exact e
theorem AF.keep {p:Addr}{H H':Hp}(h:AF H H'):KeepX p H H':=fun b o _ e=>h b o e
theorem AF.new {H:Hp}{p:Addr}{o:HO}(h:H p=none):AF H (upd H p o):=fun b u e=>by rw[Ab (Am e h)];exact e
def Vq:St→Nat
 | [_,_,_,some (V.int n)]=>n.toNat
 | [_,_,_,some (V.int n),_]=>n.toNat
 | _=>0
theorem QV (i:Int):(if i<0 then -i else i)=(i.natAbs:Int):=by split <;> omega
theorem Xm {x:Int}(h1:-18446744073709551616<x)(h2:x<18446744073709551616):Sz 64 x:=by unfold Sz;omega
theorem Ag {x:Int}(h1:-18446744073709551616<x)(h2:x<18446744073709551616):Sz 4000 x:=(Xm h1 h2).mono (by decide)
theorem BH:2≤sizeLine:=by decide
theorem BE:3≤sizeLine:=by decide
def Xn:Sp:=fun vs H Q _=>∃ a b:Int,vs=[.int a,.int b]∧Q (.int (Nat.gcd a.natAbs b.natAbs:Nat)) H
theorem I0 {Q:VK}{v w:V}{H:Hp}(e:v=w)(q:Q w H):Q v H:=by rw[e];exact q
theorem Aa:bootBuiltins "isinstance"=some (.builtin "isinstance"):=by nofun
theorem IO:bootBuiltins "min"=some (.builtin "min"):=by nofun
theorem QW:bootBuiltins "int"=some (.type "int"):=by nofun
theorem Dq:bootBuiltins "bool"=some (.type "bool"):=by nofun
theorem DE:bootBuiltins "str"=some (.type "str"):=by nofun
theorem FD:bootBuiltins "list"=some (.type "list"):=by nofun
theorem Bk:bootBuiltins "tuple"=some (.type "tuple"):=by nofun
theorem EF {X:Cx}{x:Str}{C:Addr}{pos:Pos}(hm:X.mg x=some (.ref C))(hg:Gl X x:=by rfl)(hd:(x==("__debug__":Str))=false:=by decide):PE X (.Name x pos) (tC (.ref C)):=Jw hg hm rfl hd
theorem Bg {X:Cx}{x:Str}{T:String}{pos:Pos}(hm:X.mg x=none)(hv:bootBuiltins x=some (.type T))(hg:Gl X x:=by rfl)(hn:x≠"__name__":=by decide)(hd:(x==("__debug__":Str))=false:=by decide):PE X (.Name x pos) (tC (.ty T)):=RN hg hm hv rfl hn hd
theorem HK:bootBuiltins "ValueError"=some (.type "ValueError"):=by nofun
theorem S0:∀ cs:List Addr,A3 (cs.map V.ref) (cs.map Value.ref)
 | []=>.nil
 | _::cs=>.cons rfl (S0 cs)
theorem S1:∀(cs:List Addr) (vs:List Value),A3 (cs.map V.ref) vs→vs=cs.map Value.ref
 | [],_,.nil=>rfl
 | c::cs,_,.cons r t=>by cases r;rw[List.map_cons,S1 cs _ t]
theorem UL (K:PySem.W.Frag)(t:Value):PySem.W.kitOne K t t=some true:=by unfold PySem.W.kitOne;simp
def UM (mg:Str→Option Value)(x z:Str):Prop:=∃ u,mg x=some u∧Aw (.str z) u
def FK (mg:Str→Option Value)(x:Str)(i:Int):Prop:=∃ u,mg x=some u∧Aw (.int i) u
theorem Nq {X:Cx}{x z:Str}{pos:Pos}(hm:UM X.mg x z)(hg:Gl X x:=by rfl)(hd:(x==("__debug__":Str))=false:=by decide):PE X (.Name x pos) (tC (.str z)):=by
 obtain⟨u,h,r⟩:=hm
 exact Jw hg h r hd
theorem BN {X:Cx}{x:Str}{i:Int}{pos:Pos}(hm:FK X.mg x i)(hg:Gl X x:=by rfl)(hd:(x==("__debug__":Str))=false:=by decide):PE X (.Name x pos) (tC (.int i)):=by
 obtain⟨u,h,r⟩:=hm
 exact Jw hg h r hd
def Vr:R2:=fun x y H Q=>∃ i j,x=.str i∧y=.str j∧Q (.bl (!(Builtin.Str.occurrences j i 0 j.length 1).isEmpty)) H
theorem QX {X:Cx}:FS X (compareOp .In) Vr:=OM
theorem DX {n:Nat}(h:n≤1000):n<sizeLine:=Jd h
theorem BJ {n:Nat}(h:n≤1000):n≤sizeLine:=Nat.le_of_lt (Jd h)
theorem IP {z:Str}(L:Str){H:Hp}{D:Addr}(hz:z.length≤1000)(hD:H D=none):
 ∃ W:Nat→Nat→Hp→Prop,(∃ m,W 0 m (upd H D (.lst [])))∧∀ i m H',W i m H'→
  ((Va z).stop i H'∧H'=upd H D (.lst ((z.cps.toList.map fun c=>decide (c∈L.cps.toList)).map V.bl)))∨((Va z).go i H'∧∀(js:List Nat) (σ:St) (x:V) (H2:Hp),(Va z).yld i H' x H2→Ts (some x::Kj js σ) H2 fun b H3=>
    if b=true then Td Vr (O9 0) (tC (.str L)) (some x::Kj js σ) H3 fun v H4=>∃ xs,H4 D=some (.lst xs)∧xs.length<sizeLine∧∃ m',m'<m∧W (i+1) m' (upd H4 D (.lst (xs++[v])))
    else ∃ m',m'<m∧W (i+1) m' H3):=by
 have hs:z.cps.toList.length=z.cps.size:=by simp
 have hl:z.length=z.cps.size:=rfl
 refine⟨fun i m H'=>m=z.cps.size-i∧i≤z.cps.size∧H'=upd H D (.lst (((z.cps.toList.take i).map fun c=>decide (c∈L.cps.toList)).map V.bl)),⟨z.cps.size,by simp,Nat.zero_le _,by simp⟩,?_⟩
 rintro i m H' ⟨rfl,hi,rfl⟩
 by_cases hlt:i<z.cps.size
 ·refine .inr ⟨hlt,fun js σ x H2 y=>?_⟩
  obtain⟨e,c,hc,e2⟩:=y
  subst e e2
  unfold Ts
  dsimp only
  rw[if_pos rfl]
  refine⟨_,rfl,_,_,rfl,rfl,_,AE,?_,_,?_,rfl,hlt,?_⟩
  ·rw[List.length_map,List.length_map,List.length_take];exact DX (by omega)
  ·show z.cps.size-(i+1)<z.cps.size-i
   omega
  ·rw[HZ]
   congr 2
   have ht:z.cps.toList.take (i+1)=z.cps.toList.take i++[c]:=by
    rw[List.take_succ,show z.cps.toList[i]?=some c by simpa using hc]
    rfl
   rw[ht,List.map_append,List.map_append,StrLaws.found_one]
   rfl
 ·have e:i=z.cps.size:=by omega
  subst e
  refine .inl ⟨rfl,?_⟩
  have ht:z.cps.toList.take z.cps.size=z.cps.toList:=List.take_of_length_le (by omega)
  rw[ht]
theorem Gc {z L:Str}(h:∀ c∈z.cps.toList,c∈L.cps.toList):(z.cps.toList.map fun c=>decide (c∈L.cps.toList)).all id=true:=by
 rw[List.all_map,List.all_eq_true]
 intro c hc
 simpa using h c hc
structure Nm (z:Str):Prop where
 lo:1≤z.length
 hi:z.length≤6
 az:∀ c∈z.cps.toList,97≤c∧c≤122
theorem QY {z:Str}(h:Nm z):∀ c∈z.cps.toList,c∈(Str.ofString "abcdefghijklmnopqrstuvwxyz").cps.toList:=by
 intro c hc
 have ⟨a,b⟩:=h.az c hc
 have tab:∀ i,i<26→97+i∈(Str.ofString "abcdefghijklmnopqrstuvwxyz").cps.toList:=by nofun
 have:=tab (c-97) (by omega)
 rwa [show 97+(c-97)=c by omega]at this
theorem B9 {z:Str}(h:(decide (1≤z.length)&&decide (z.length≤6)&&z.cps.toList.all fun c=>decide (97≤c)&&decide (c≤122))=true):Nm z:=by
 simp only[Bool.and_eq_true,decide_eq_true_eq,List.all_eq_true]at h
 exact⟨h.1.1,h.1.2,fun c hc=>h.2 c hc⟩
inductive Vl where
 | none | num (t b:Int) | txt (z:Str) | tru (b:Bool) | flt (w z:Str) (r c:Int)
 deriving DecidableEq
def EG:List Str:=[Str.ofString "kind",Str.ofString "nought",Str.ofString "gone",Str.ofString "name",Str.ofString "shape",Str.ofString "blocked",Str.ofString "miss",Str.ofString "ring",Str.ofString "great"]
def Mq:Vl→Prop
 | .num t b=>YJ t b∧t.natAbs<10 ^ 30∧b.natAbs<10 ^ 30
 | .txt z=>z.length≤20∧∀ c∈z.cps.toList,c∈(Str.ofString "abcdefghijklmnopqrstuvwxyz0123456789 ").cps.toList
 | .flt w z r c=>w∈EG∧Nm z∧1≤r∧r≤16∧1≤c∧c≤8
 | _=>True
def QZ (K:PySem.W.Frag)(mg:Str→Option Value)(x:Str)(xs:List V):Prop:=∃(a:Addr) (o:Obj),mg x=some (.ref a)∧K.lookup a=some o∧o.cls=.type "tuple"∧∃ its n,o.data=.seq its n∧its.size≤sizeLine∧A3 xs its.toList
def Yk (K:PySem.W.Frag)(xs:List V):TE:=fun _ H Q=>∀ a,(∀ H',A0 K H' a xs)→Q (.ref a) H
theorem Hi {X:Cx}{x:Str}{xs:List V}{pos:Pos}(hm:QZ X.K X.mg x xs)(hg:Gl X x:=by rfl)(hd:(x==("__debug__":Str))=false:=by decide):PE X (.Name x pos) (Yk X.K xs):=by
 obtain⟨a,o,h,hl,hc,its,n,h1,h2,h3⟩:=hm
 intro pins s σ H Q I q
 exact DQ I hg h ⟨.ref a,H,I,rfl,q a fun H'=>.inr ⟨o,its,n,hl,hc,h1,h2,h3⟩⟩ hd
def Ff (H:Hp)(p:Addr):Vl→Prop
 | .none=>H p=some (.tup [.str (Str.ofString "none")])
 | .num t b=>H p=some (.tup [.str (Str.ofString "number"),.int t,.int b])
 | .txt z=>H p=some (.tup [.str (Str.ofString "text"),.str z])
 | .tru b=>H p=some (.tup [.str (Str.ofString "truth"),.bl b])
 | .flt w z r c=>∃ q,H p=some (.tup [.str (Str.ofString "fault"),.str w,.ref q])∧H q=some (.tup [.str z,.int r,.int c])
theorem Ff.same {H H':Hp}{p:Addr}{v:Vl}(h:Ff H p v)(s:AF H H'):Ff H' p v:=by
 cases v with
 | none=>exact s _ _ h
 | num t b=>exact s _ _ h
 | txt z=>exact s _ _ h
 | tru b=>exact s _ _ h
 | flt w z r c=>obtain⟨q,a,b⟩:=h;exact⟨q,s _ _ a,s _ _ b⟩
theorem Qa {w:Str}(h:w∈EG):Fc (.str w) (EG.map V.str)=true:=by
 unfold Fc
 rw[List.any_map,List.any_eq_true]
 exact⟨w,h,by simp[J6]⟩
theorem LW:(EG.map V.str).all B3=true:=by nofun
theorem FL {z y:Str}(h:z=y):V.bl (decide (V.str z=V.str y))=V.bl true:=by subst h;simp
theorem Ol {α:Type}{us:List α}(h:us.length=1):∃ a,us=[a]:=match us,h with | [a],_=>⟨a,rfl⟩
theorem LX {α:Type}{us:List α}(h:us.length=2):∃ a b,us=[a,b]:=match us,h with | [a,b],_=>⟨a,b,rfl⟩
theorem LY {α:Type}{us:List α}(h:us.length=3):∃ a b c,us=[a,b,c]:=match us,h with | [a,b,c],_=>⟨a,b,c,rfl⟩
abbrev kS (z:String):BY:=.inr (Str.ofString z)
theorem IQ {ns:List Int}{r:Int}(h0:0≤r)(h1:r<(ns.length:Int)):∃ v,Hb (ns.map V.int) r=some (V.int v):=by
 obtain⟨j,rfl⟩:∃ j:Nat,r=(j:Int):=⟨r.toNat,by omega⟩
 have hj:j<ns.length:=by omega
 exact⟨ns[j],BK (by rw[List.getElem?_map,List.getElem?_eq_getElem hj];rfl)⟩
abbrev vS (z:String):V:=.str (Str.ofString z)
def YK:List V:=[vS "yes",vS "no",vS "if",vS "sum",vS "count",vS "least",vS "most",vS "sumif",vS "find",vS "turn",vS "stack"]
def YL:List V:=[vS "grid",vS "outer"]
def R1 (z:Str):Bool:=Fc (.str z) YK||Fc (.str z) YL
def R3:Option Str→V
 | none=>.non
 | some z=>.str z
def Om:Option Str→Prop
 | none=>True
 | some z=>Nm z
def Kp (H H':Hp):Prop:=∀ a xs,H a=some (.tup xs)→H' a=some (.tup xs)
theorem Kp.same {H H':Hp}(s:AF H H'):Kp H H':=fun a xs e=>s _ _ e
theorem Kp.lst {H H':Hp}{p:Addr}{ys:List V}(hp:H p=some (.lst ys))(s:KeepX p H H'):Kp H H':=fun a xs e=>s _ _ (CJ e hp (by intro z;cases z)) e
theorem Kp.trans {H H1 H2:Hp}(a:Kp H H1)(b:Kp H1 H2):Kp H H2:=fun c xs e=>b c xs (a c xs e)
structure S2 where
 r:Int
 c:Int
 x:Bool
 y:Bool
abbrev Qb (c:S2):List V:=[.int c.r,.int c.c,.bl c.x,.bl c.y]
structure LZ (c:S2):Prop where
 r0:1≤c.r
 r1:c.r≤16
 c0:1≤c.c
 c1:c.c≤8
inductive Lf where
 | val (v:Vl) | cell (s:Option Str) (c:S2) | rng (s:Option Str) (c d:S2) | cols (s:Option Str) (a:Int) (x:Bool) (b:Int) (y:Bool) | gone | nam (z:Str) | par (i:Int) | flt (z:Str)
def Fg (H:Hp)(a:Addr):Lf→Prop
 | .val v=>∃ q,H a=some (.tup [vS "value",.ref q])∧Ff H q v
 | .cell s c=>∃ q,H a=some (.tup [vS "cell",R3 s,.ref q])∧H q=some (.tup (Qb c))
 | .rng s c d=>∃ q u,H a=some (.tup [vS "range",R3 s,.ref q,.ref u])∧H q=some (.tup (Qb c))∧H u=some (.tup (Qb d))
 | .cols s i x j y=>∃ q u,H a=some (.tup [vS "columns",R3 s,.ref q,.ref u])∧H q=some (.tup [.int i,.bl x])∧H u=some (.tup [.int j,.bl y])
 | .gone=>H a=some (.tup [vS "gone"])
 | .nam z=>H a=some (.tup [vS "name",.str z])
 | .par i=>H a=some (.tup [vS "param",.int i])
 | .flt z=>H a=some (.tup [vS "fault",.str z])
def Vs:Vl→Prop
 | .num t b=>b=1∧0≤t∧t≤999999999
 | .txt _=>True
 | .tru _=>True
 | _=>False
def La (pr:Nat):Lf→Prop
 | .val v=>Mq v∧Vs v
 | .cell s c=>Om s∧LZ c
 | .rng s c d=>Om s∧LZ c∧LZ d∧c.r≤d.r∧c.c≤d.c
 | .cols s i _ j _=>Om s∧1≤i∧i≤j∧j≤8
 | .gone=>True
 | .nam z=>Nm z∧R1 z=false
 | .par i=>0≤i∧i<pr
 | .flt z=>4≤pr∧z.length≤20
theorem Ff.kp {H H':Hp}{p:Addr}{v:Vl}(h:Ff H p v)(s:Kp H H'):Ff H' p v:=by
 cases v with
 | none=>exact s _ _ h
 | num t b=>exact s _ _ h
 | txt z=>exact s _ _ h
 | tru b=>exact s _ _ h
 | flt w z r c=>obtain⟨q,a,b⟩:=h;exact⟨q,s _ _ a,s _ _ b⟩
theorem Fg.kp {H H':Hp}{a:Addr}{l:Lf}(h:Fg H a l)(s:Kp H H'):Fg H' a l:=by
 cases l with
 | val v=>obtain⟨q,h1,h2⟩:=h;exact⟨q,s _ _ h1,Ff.kp h2 s⟩
 | cell z c=>obtain⟨q,h1,h2⟩:=h;exact⟨q,s _ _ h1,s _ _ h2⟩
 | rng z c d=>obtain⟨q,u,h1,h2,h3⟩:=h;exact⟨q,u,s _ _ h1,s _ _ h2,s _ _ h3⟩
 | cols z i x j y=>obtain⟨q,u,h1,h2,h3⟩:=h;exact⟨q,u,s _ _ h1,s _ _ h2,s _ _ h3⟩
 | gone=>exact s _ _ h
 | nam z=>exact s _ _ h
 | par i=>exact s _ _ h
 | flt z=>exact s _ _ h
theorem R4 {n:Int}:YJ n 1:=⟨by decide,by simp⟩
inductive Kd where
 | op (z:Str) | neg | own (z:Str) | sumif (z:Str) | grid (i j:Int) | wd (z:Str)
def On (t:Addr):Kd→List V→List V
 | .op z,us=>vS "op"::.str z::us
 | .neg,us=>vS "neg"::us
 | .own z,_=>[vS "own",.str z,.ref t]
 | .sumif z,us=>vS "sumif"::(us.take 1++.str z::us.drop 1)
 | .grid i j,us=>vS "grid"::.int i::.int j::us
 | .wd z,us=>.str z::us
def Lb:Kd→Bool
 | .own _=>true
 | _=>false
def UN:List Str:=["+","-","*","/","&","=","<"].map Str.ofString
def Kk:List (Str×Nat):=[("if",3),("sum",1),("count",1),("least",1),("most",1),("find",3),("turn",1),("stack",2),("outer",1)].map fun x=>(Str.ofString x.1,x.2)
def Gd:Kd→Nat→Prop
 | .op z,m=>z∈UN∧m=2
 | .neg,m=>m=1
 | .own z,m=>Nm z∧R1 z=false∧m≤3
 | .sumif z,m=>(z=Str.ofString "="∨z=Str.ofString "<")∧m=3
 | .grid i j,m=>1≤i∧i≤16∧1≤j∧j≤8∧m=2
 | .wd z,m=>(z,m)∈Kk
theorem Gd.le {k:Kd}{m:Nat}(h:Gd k m):m≤3:=by
 cases k with
 | op z=>have:=h.2;omega
 | neg=>have:m=1:=h;omega
 | own z=>exact h.2.2
 | sumif z=>have:=h.2;omega
 | grid i j=>have:=h.2.2.2.2;omega
 | wd z=>
  have h:(z,m)∈Kk:=h
  have:∀ x∈Kk,x.2≤3:=by nofun
  exact this _ h
theorem Yl {r:Int}(h0:0≤r)(h1:r<7):∃ c,Hb (Str.ofString "+-*/&=<").cps.toList r=some c∧(⟨#[c]⟩:Str)∈UN:=by
 have:r=0∨r=1∨r=2∨r=3∨r=4∨r=5∨r=6:=by omega
 rcases this with rfl | rfl | rfl | rfl | rfl | rfl | rfl
 all_goals exact⟨_,rfl,by nofun⟩
inductive Fm where
 | lf (l:Lf) | nd (k:Kd) (ps:List Fm)
inductive CP (H:Hp):V→Fm→Prop where
 | lf {a:Addr} {l:Lf} (h:Fg H a l):CP H (.ref a) (.lf l)
 | nd {a t:Addr} {k:Kd} {us:List V} {ps:List Fm} (h:H a=some (.tup (On t k us))) (ht:Lb k=true→H t=some (.tup us)) (hl:us.length=ps.length)
  (hh:∀(j:Nat) (u:V) (f:Fm),us[j]?=some u→ps[j]?=some f→CP H u f):CP H (.ref a) (.nd k ps)
theorem CP.kp {H H':Hp}{v:V}{f:Fm}(h:CP H v f)(s:Kp H H'):CP H' v f:=by
 induction h with
 | lf h=>exact .lf (Fg.kp h s)
 | nd h ht hl _ ih=>exact .nd (s _ _ h) (fun z=>s _ _ (ht z)) hl ih
abbrev Lc (H:Hp)(us:List V)(fs:List Fm):Prop:=Paired (CP H) us fs
inductive FO (pr:Nat):Nat→Fm→Prop where
 | lf {n:Nat} {l:Lf} (h:La pr l):FO pr (n+1) (.lf l)
 | nd {n:Nat} {k:Kd} {ps:List Fm} (h:Gd k ps.length) (hp:∀ f∈ps,FO pr n f):FO pr (n+1) (.nd k ps)
theorem FO.mono {pr:Nat}{n:Nat}{f:Fm}(h:FO pr n f):∀{m:Nat},n≤m→FO pr m f:=by
 induction h with
 | lf h=>
  intro m hm
  obtain⟨m,rfl⟩:∃ k,m=k+1:=⟨m-1,by omega⟩
  exact .lf h
 | nd h _ ih=>
  intro m hm
  obtain⟨m,rfl⟩:∃ k,m=k+1:=⟨m-1,by omega⟩
  exact .nd h fun f hf=>ih f hf (by omega)
abbrev zS (z:String):Str:=Str.ofString z
theorem R5 {z:Str}(h:z∈UN):z.length=1:=by
 have:∀ x∈UN,x.length=1:=by nofun
 exact this z h
theorem A2 {α:Type}{x:α}{r:List α}:Hb (x::r) 0=some x:=BK (j:=0) rfl
theorem Bz {α:Type}{x y:α}{r:List α}:Hb (x::y::r) 1=some y:=BK (j:=1) rfl
theorem B7 {α:Type}{x y z:α}{r:List α}:Hb (x::y::z::r) 2=some z:=BK (j:=2) rfl
theorem IR {α:Type}{x y z u:α}{r:List α}:Hb (x::y::z::u::r) 3=some u:=BK (j:=3) rfl
theorem CP.parts {H:Hp}{us:List V}{ps:List Fm}(hl:us.length=ps.length)(hh:∀(j:Nat) (u:V) (f:Fm),us[j]?=some u→ps[j]?=some f→CP H u f):Lc H us ps:=by
 induction us generalizing ps with
 | nil=>
  cases ps with
  | nil=>exact .nil
  | cons _ _=>simp at hl
 | cons u us ih=>
  cases ps with
  | nil=>simp at hl
  | cons p ps=>exact .cons (hh 0 u p rfl rfl) (ih (by simpa using hl) fun j u f e1 e2=>hh (j+1) u f (by simpa using e1) (by simpa using e2))
theorem AF.back0 {H H':Hp}{b:Addr}(s:AF H H')(h:H' b=none):H b=none:=by
 cases e:H b with
 | none=>rfl
 | some o=>rw[s _ _ e]at h;cases h
theorem YM {n:Nat}(h:n≤16000000):n≤sizeLine:=Nat.le_trans h (by decide)
def Wy:List (BY×List V):=[(kS "op",[.int 2,.int 3]),(kS "neg",[.int 1]),(kS "if",[.int 1,.int 2,.int 3]),(kS "sum",[.int 1]),(kS "count",[.int 1]),(kS "least",[.int 1]),(kS "most",[.int 1]),(kS "sumif",[.int 1,.int 3,.int 4]),(kS "find",[.int 1,.int 2,.int 3]),(kS "turn",[.int 1]),(kS "stack",[.int 1,.int 2]),(kS "grid",[.int 3,.int 4]),(kS "outer",[.int 1])]
def UO (k:Str):Option (List V):=(Wy.find? fun kt=>decide (kt.1=(Sum.inr k:BY))).map (·.2)
abbrev YN (K:PySem.W.Frag):List (BY×V)→List (BY×List V)→Prop:=Paired (fun(kv:BY×V) (kt:BY×List V)=>kv.1=kt.1∧∃ a,kv.2=.ref a∧∀ H,A0 K H a kt.2)
theorem Qc {K:PySem.W.Frag}{k:BY}{ys:List V}:∀{kvs:List (BY×V)} {kts:List (BY×List V)},YN K kvs kts→(kts.find? fun kt=>decide (kt.1=k)).map (·.2)=some ys→∃ a,EE kvs k=some (.ref a)∧∀ H,A0 K H a ys
 | _,_,.nil,h=>by simp at h
 | (kv::kvs),(kt::kts),.cons r t,h=>by
  obtain⟨e,a,ea,sq⟩:=r
  by_cases c:kt.1=k
  ·rw[List.find?_cons_of_pos (by simpa using c)]at h
   simp only[Option.map_some,Option.some.injEq]at h
   subst h
   exact⟨a,by rw[Eh (e.trans c),ea],sq⟩
  ·rw[List.find?_cons_of_neg (by simpa using c)]at h
   obtain⟨b,hb,sb⟩:=Qc t h
   exact⟨b,by rw[Dp (fun z=>c (e.symm.trans z))];exact hb,sb⟩
mutual
def Ei:Fm→Nat
 | .lf _=>1
 | .nd _ ps=>1+Mr ps
def Mr:List Fm→Nat
 | []=>0
 | f::fs=>Ei f+Mr fs
end
theorem UP {α β:Type}{F:α→β→Prop}:∀{xs:List α} {x:α} {ys:List β},Paired F (xs++[x]) ys→∃ ys' y,ys=ys'++[y]∧Paired F xs ys'∧F x y:=by
 intro A x B h
 induction A generalizing B with
 | nil=>
  rw[List.nil_append]at h
  cases h with
  | cons r t=>
   cases t
   exact⟨[],_,rfl,.nil,r⟩
 | cons a l ih=>
  rw[List.cons_append]at h
  cases h with
  | cons r t=>
   obtain⟨ys',y,rfl,p,q⟩:=ih t
   exact⟨_::ys',y,rfl,.cons r p,q⟩
theorem FM {α β:Type}{F:α→β→Prop}:∀{xs zs:List α} {ys ws:List β},Paired F xs ys→Paired F zs ws→Paired F (xs++zs) (ys++ws):=by
 intro A B C D h g
 induction h with
 | nil=>exact g
 | cons r t ih=>exact .cons r ih
theorem UQ {A:Around}{k:Nat}(hr:Bx k A):A.units+30<cLine:=by have:=hr.un;omega
theorem Nr {K:PySem.W.Frag}{k:BY}:∀{kvs:List (BY×V)} {kts:List (BY×List V)},YN K kvs kts→(kts.find? fun kt=>decide (kt.1=k)).map (·.2)=none→EE kvs k=none
 | _,_,.nil,_=>rfl
 | (kv::kvs),(kt::kts),.cons r t,h=>by
  obtain⟨e,a,ea,sq⟩:=r
  by_cases c:kt.1=k
  ·rw[List.find?_cons_of_pos (by simpa using c)]at h
   simp at h
  ·rw[List.find?_cons_of_neg (by simpa using c)]at h
   rw[Dp (fun z=>c (e.symm.trans z))]
   exact Nr t h
theorem Fh:1≤sizeLine:=by decide
theorem _root_.L2.Fun.okX {P:Program}{w:World}{K:PySem.W.Frag}{mg:Str→Option Value}{base:Heap}{x qual:Str}{st:Stmt}{f:Addr}{fd:FuncData}{N ps:List Str}{k:Nat}{sp:Sp}(F:Fun K x qual st f fd)(S:AZ N ps (AO st))(len:∀ vs H Q E,sp vs H Q E→vs.length=ps.length)
 (hb:∀(cdv:Value) (A:Around) (outer:List Env) (s:Shared) (H:Hp) (vs:List V) (Q:VK) (E:XK),Bx k (A.deeper (PyProof.Rows.envOfC qual (AO st) s.heap.objs.size f cdv))→sp vs H Q E→∀ Z:Prop,((∃ t,Jv (Do Bo P w K mg base N qual (AO st) f cdv A outer s H E).nox (B8 st) t∧t { nx:=fun _ H'=>Q .non H',rt:=Q } (EW N vs) H)→Z)→Z):A1 P w K mg base Bo (k+1) f fd ps sp:=F.ok S len fun cdv A outer s H vs Q E hr h=>hb cdv A outer s H vs Q E hr h _ id
theorem _root_.L2.Fun.okCX {P:Program}{w:World}{K:PySem.W.Frag}{mg:Str→Option Value}{base:Heap}{x qual:Str}{st:Stmt}{f:Addr}{fd:FuncData}{N ps:List Str}{k:Nat}{sp:Sp}(F:Fun K x qual st f fd)(S:AZ N ps (AO st))(len:∀ vs H Q E,sp vs H Q E→vs.length=ps.length)
 (hb:∀(cdv:Value) (A:Around) (outer:List Env) (s:Shared) (H:Hp) (vs:List V) (Q:VK) (E:XK),fd.code=cdv→Bx k (A.deeper (PyProof.Rows.envOfC qual (AO st) s.heap.objs.size f cdv))→sp vs H Q E→∀ Z:Prop,((∃ t,Jv (Do Bo P w K mg base N qual (AO st) f cdv A outer s H E).nox (B8 st) t∧t { nx:=fun _ H'=>Q .non H',rt:=Q } (EW N vs) H)→Z)→Z):A1 P w K mg base Bo (k+1) f fd ps sp:=F.okC S len fun cdv A outer s H vs Q E e hr h=>hb cdv A outer s H vs Q E e hr h _ id
def YO (N:List Str)(sc:Scope)(i:Nat)(x:Str):Bool:=decide (N[i]?=some x)&&(decide (sc.names.lookup x=some .local)||(decide (sc.names.lookup x=some .cell)||decide (sc.names.lookup x=some .free)))&&!(x==("__debug__":Str))&&!(x==("__classdict__":Str))
theorem AK {X:Cx}(i:Nat){x:Str}{pos:Pos}(h:YO X.N X.env.scope i x=true:=by kernel_rfl):PE X (.Name x pos) (O9 i):=by
 simp only[YO,Bool.and_eq_true,Bool.or_eq_true,decide_eq_true_eq,Bool.not_eq_true']at h
 exact PB h.1.1.1 h.1.1.2 h.1.2 h.2
def YQ (N ps:List Str)(sc:Scope):Bool:=decide (sc.kind=.function)&&decide (sc.isCoroutine=false)&&decide (sc.isGenerator=false)&&decide N.Nodup&&decide (N.take ps.length=ps)&&decide (∀ x∈ps,sc.names.lookup x=some .local∨sc.names.lookup x=some .cell)&&decide (∀ y∈sc.names,y.2≠.free)
theorem BC {N ps:List Str}{sc:Scope}(h:YQ N ps sc=true:=by kernel_rfl):AZ N ps sc:=by
 simp only[YQ,Bool.and_eq_true,decide_eq_true_eq]at h
 obtain⟨⟨⟨⟨⟨⟨a,b⟩,c⟩,d⟩,e⟩,f⟩,g⟩:=h
 exact⟨a,b,c,d,e,f,g⟩
theorem BO {j k:Nat}{A:Around}(hr:Bx k A)(h:j≤k:=by decide):Bx j A:=hr.mono h
theorem BB {CX:O6}{P:Program}{w:World}{K:PySem.W.Frag}{mg:Str→Option Value}{base:Heap}{N:List Str}{q:Str}{sc:Scope}{f:Addr}{cd:Value}{A:Around}{o:List Env}{s:Shared}{H:Hp}{E:XK}:(Do CX P w K mg base N q sc f cd A o s H E).nox.K=K:=rfl
theorem Au {CX:O6}{P:Program}{w:World}{K:PySem.W.Frag}{mg:Str→Option Value}{base:Heap}{N:List Str}{q:Str}{sc:Scope}{f:Addr}{cd:Value}{A:Around}{o:List Env}{s:Shared}{H:Hp}{E:XK}:(Do CX P w K mg base N q sc f cd A o s H E).nox.mg=mg:=rfl
theorem Vt {G:Prop}(h:∀ X:Prop,(G→X)→X):G:=h G id
def BD (K:PySem.W.Frag)(S:Addr×List Int)(H:Hp)(p:Addr)(k:Nat):Prop:=∃ c r:Int,H p=some (.lst [.ref S.1,.int c,.int r])∧As K H S.1 (S.2.map V.int)∧0≤c∧c≤k∧S.2.length≤63
theorem As.kl {K:PySem.W.Frag}{H H':Hp}{a p b:Addr}{ns:List Int}{r:List V}(h:As K H a (ns.map V.int))(hp:H p=some (.lst (.ref b::r)))(s:KeepX p H H'):As K H' a (ns.map V.int):=by
 rcases h with(h | ⟨o,h⟩) | h
 ·exact .inl (.inl (s _ _ (CJ h hp (by intro z;injection z with z;cases ns <;> simp at z)) h))
 ·exact .inl (.inr ⟨o,s _ _ (CJ h hp (by intro z;cases z)) h⟩)
 ·exact .inr h
section
variable {K:PySem.W.Frag}{S:Addr×List Int}{H H':Hp}{p D:Addr}{k n:Nat}
theorem BD.same (h:BD K S H p k)(s:AF H H'):BD K S H' p k:=by
 obtain⟨c,r,e,q,z⟩:=h
 exact⟨c,r,s _ _ e,s.seq q,z⟩
theorem BD.mono (h:BD K S H p k)(s:k≤n):BD K S H p n:=by
 obtain⟨c,r,e,q,y,v,w⟩:=h
 exact⟨c,r,e,q,y,by omega,w⟩
theorem BD.ob (h:BD K S H p k):∃ vs,H p=some (.lst vs):=by
 obtain⟨_,_,e,_⟩:=h
 exact⟨_,e⟩
theorem BD.ne (h:BD K S H p k)(hD:H D=none):D≠p:=fun z=>by
 obtain⟨vs,e⟩:=h.ob
 rw[← z,hD]at e;cases e
theorem BD.kp (h:BD K S H p k)(s:KeepX p H H'):Kp H H':=by
 obtain⟨_,e⟩:=h.ob
 exact Kp.lst e s
theorem BD.put {o:HO}(h0:BD K S H p k)(hD:H D=none)(h:BD K S H' p n):BD K S (upd H' D o) p n:=by
 have ne:=h0.ne hD
 obtain⟨_,_,_,q0,_⟩:=h0
 obtain⟨c,r,e,q,z⟩:=h
 refine⟨c,r,by rw[Ab (Ne.symm ne)];exact e,?_,z⟩
 rcases q0 with(q0 | ⟨o0,q0⟩) | q0
 ·have na:=Am q0 hD
  rcases q with(q | ⟨o1,q⟩) | q
  ·exact .inl (.inl (by rw[Ab na];exact q))
  ·exact .inl (.inr ⟨o1,by rw[Ab na];exact q⟩)
  ·exact .inr q
 ·have na:=Am q0 hD
  rcases q with(q | ⟨o1,q⟩) | q
  ·exact .inl (.inl (by rw[Ab na];exact q))
  ·exact .inl (.inr ⟨o1,by rw[Ab na];exact q⟩)
  ·exact .inr q
 ·exact .inr q0
end
def Vu (K:PySem.W.Frag):Sp:=fun vs H Q _=>∃(a:Addr) (ns:List Int),vs=[.ref a]∧As K H a (ns.map V.int)∧ns.length≤63∧∀(p:Addr) (H':Hp),H p=none→BD K (a,ns) H' p 0→AF H H'→Q (.ref p) H'
def Vv (K:PySem.W.Frag):Sp:=fun vs H Q _=>∃(p:Addr) (m:Int) (k:Nat) (S:Addr×List Int),vs=[.ref p,.int m]∧0<m∧Sz 4000 m∧BD K S H p k∧k≤10000000∧∀(r:Int) (H':Hp),0≤r→r<m→BD K S H' p (k+1)→KeepX p H H'→Q (.int r) H'
inductive Th where
 | non | bl (b:Bool) | int (i:Int) | str (z:Str) | lst | dic | tup (ts:List Th)
inductive Al (H:Hp):V→Th→Prop where
 | non:Al H .non .non
 | bl (b:Bool):Al H (.bl b) (.bl b)
 | int (i:Int):Al H (.int i) (.int i)
 | str (z:Str) (hz:z.length≤1000):Al H (.str z) (.str z)
 | lst {a:Addr} {xs:List V} (e:H a=some (.lst xs)):Al H (.ref a) .lst
 | dic {a:Addr} {kvs:List (BY×V)} (e:H a=some (.dK kvs)):Al H (.ref a) .dic
 | tup {a:Addr} {us:List V} {ts:List Th} (e:H a=some (.tup us)) (hn:us.length=ts.length) (hh:∀(j:Nat) (u:V) (t:Th),us[j]?=some u→ts[j]?=some t→Al H u t):Al H (.ref a) (.tup ts)
theorem Al.same {H H':Hp}{v:V}{th:Th}(h:Al H v th)(s:AF H H'):Al H' v th:=by
 induction h with
 | non=>exact .non
 | bl b=>exact .bl b
 | int i=>exact .int i
 | str z hz=>exact .str z hz
 | lst e=>exact .lst (s _ _ e)
 | dic e=>exact .dic (s _ _ e)
 | tup e hn hh ih=>exact .tup (s _ _ e) hn fun j u t a b=>ih j u t a b
theorem Al.ofP {H:Hp}{a:Addr}{us:List V}{ts:List Th}(e:H a=some (.tup us))(p:Paired (Al H) us ts):Al H (.ref a) (.tup ts):=by
 refine .tup e (Paired.length p) ?_
 intro j u t h1 h2
 obtain⟨t',h3,h4⟩:=BQ p h1
 rw[h2]at h3
 rw[Option.some.inj h3]
 exact h4
theorem Al.toP {H:Hp}:∀{us:List V} {ts:List Th},us.length=ts.length→(∀(j:Nat) (u:V) (t:Th),us[j]?=some u→ts[j]?=some t→Al H u t)→Paired (Al H) us ts
 | [],[],_,_=>.nil
 | [],_::_,h,_=>by simp at h
 | _::_,[],h,_=>by simp at h
 | u::us,t::ts,h,g=>.cons (g 0 u t rfl rfl) (Al.toP (by simpa using h) fun j a b h1 h2=>g (j+1) a b (by simpa using h1) (by simpa using h2))
def S3:Th→String
 | .non=>"NoneType" | .bl _=>"bool" | .int _=>"int" | .str _=>"str" | .lst=>"list" | .dic=>"dict" | .tup _=>"tuple"
theorem Al.ty {K:PySem.W.Frag}{H:Hp}{v:V}{th:Th}(h:Al H v th):Fb K H v (.type (S3 th)):=by
 cases h with
 | non=>exact .non
 | bl b=>exact .bl b
 | int i=>exact .int i
 | str z hz=>exact .str z
 | lst e=>exact .lst e
 | dic e=>exact .dK e
 | tup e hn hh=>exact .tup e
def isInt:Th→Bool | .int _=>true | _=>false
def S4:Th→Bool | .str _=>true | _=>false
def Ej:Th→Bool | .bl _=>true | _=>false
def YR:Th→Bool | .tup _=>true | _=>false
def IS:Th→Bool | .int i=>decide ((if i<0 then -i else i)≤999999999999999999999999999999) | _=>false
def UR:Th→Th→Bool | .int t,.int b=>decide (1≤b)&&decide (V.int ((Nat.gcd t.natAbs b.natAbs:Nat):Int)=V.int 1) | _,_=>false
def KL (a b:Th):Bool:=IS a&&IS b&&UR a b
def EH (L:Str)(z:Str):Bool:=(z.cps.toList.map fun c=>decide (c∈L.cps.toList)).all id
def Ld:Th→Bool | .str z=>!decide ((20:Int)<(z.length:Int))&&EH (Str.ofString "abcdefghijklmnopqrstuvwxyz0123456789 ") z | _=>false
def Le:Th→Bool | .str z=>Fc (.str z) (EG.map V.str) | _=>false
def B4:Th→Bool | .str z=>!decide ((z.length:Int)<1)&&!decide ((6:Int)<(z.length:Int))&&EH (Str.ofString "abcdefghijklmnopqrstuvwxyz") z | _=>false
def Bb (l:Int):Th→Bool | .int i=>decide (1≤i)&&decide (i≤l) | _=>false
def FU:Th→Bool | .tup [a,b,c]=>B4 a&&Bb 16 b&&Bb 8 c | _=>false
def Cw (k:Str)(ts:List Th):Bool:=
 if k=Str.ofString "none" then ts.isEmpty
 else if k=Str.ofString "number" then(match ts with | [a,b]=>KL a b | _=>false)
 else if k=Str.ofString "text" then(match ts with | [a]=>Ld a | _=>false)
 else if k=Str.ofString "truth" then(match ts with | [a]=>Ej a | _=>false)
 else if k=Str.ofString "fault" then(match ts with | [a,b]=>Le a&&FU b | _=>false)
 else false
def EY:Th→Bool | .tup (.str k::ts)=>Cw k ts | _=>false
def Fi (f:Th→Bool):Sp:=fun vs H Q _=>∃(v:V) (th:Th),vs=[v]∧Al H v th∧∀ H',AF H H'→Q (.bl (f th)) H'
def Xo (f:Th→Th→Bool):Sp:=fun vs H Q _=>∃(v u:V) (th tu:Th),vs=[v,u]∧Al H v th∧Al H u tu∧∀ H',AF H H'→Q (.bl (f th tu)) H'
def Xp:Sp:=fun vs H Q _=>∃(v:V) (th:Th) (l:Int),vs=[v,.int l]∧Al H v th∧∀ H',AF H H'→Q (.bl (Bb l th)) H'
def Xq:Sp:=fun vs H Q _=>∃ t b:Int,vs=[.int t,.int b]∧Q (.bl (UR (.int t) (.int b))) H
theorem US {z y:Str}:V.bl (decide (V.str z=V.str y))=V.bl (decide (z=y)):=by
 congr 1
 by_cases h:z=y
 ·subst h;simp
 ·rw[decide_eq_false h];exact decide_eq_false fun e=>h (by injection e)
theorem EZ {z y:Str}(h:z≠y):V.bl (decide (V.str z=V.str y))=V.bl false:=by rw[decide_eq_false fun e=>h (by injection e)]
theorem Ge {n:Nat}{m:Int}(h:(n:Int)≠m):V.bl (decide (V.int (n:Int)=V.int m))=V.bl false:=by rw[decide_eq_false fun e=>h (by injection e)]
theorem Ms {n:Nat}{m:Int}(h:(n:Int)=m):V.bl (decide (V.int (n:Int)=V.int m))=V.bl true:=by rw[decide_eq_true (by rw[h])]
theorem Nt {n:Nat}{m:Int}(h:(n:Int)=m):V.bl (!decide (V.int (n:Int)=V.int m))=V.bl false:=by rw[decide_eq_true (by rw[h])];rfl
theorem Nu {n:Nat}{m:Int}(h:(n:Int)≠m):V.bl (!decide (V.int (n:Int)=V.int m))=V.bl true:=by rw[decide_eq_false fun e=>h (by injection e)];rfl
theorem Oo {ts:List Th}(h:ts.length≠3):FU (.tup ts)=false:=by
 match ts,h with
 | [],_=>rfl
 | [_],_=>rfl
 | [_,_],_=>rfl
 | [_,_,_],h=>exact absurd rfl h
 | _::_::_::_::_,_=>rfl
theorem Vw (ts:List Th):Cw (Str.ofString "none") ts=ts.isEmpty:=by unfold Cw;rw[if_pos rfl]
theorem S5 (ts:List Th):Cw (Str.ofString "number") ts=(match ts with | [a,b]=>KL a b | _=>false):=by unfold Cw;rw[if_neg (by nofun),if_pos rfl]
theorem Vx (ts:List Th):Cw (Str.ofString "text") ts=(match ts with | [a]=>Ld a | _=>false):=by unfold Cw;rw[if_neg (by nofun),if_neg (by nofun),if_pos rfl]
theorem Vy (ts:List Th):Cw (Str.ofString "truth") ts=(match ts with | [a]=>Ej a | _=>false):=by unfold Cw;rw[if_neg (by nofun),if_neg (by nofun),if_neg (by nofun),if_pos rfl]
theorem Vz (ts:List Th):Cw (Str.ofString "fault") ts=(match ts with | [a,b]=>Le a&&FU b | _=>false):=by
 unfold Cw;rw[if_neg (by nofun),if_neg (by nofun),if_neg (by nofun),if_neg (by nofun),if_pos rfl]
theorem S6 {i:Int}(h:i.natAbs<10 ^ 30):IS (.int i)=true:=by
 show decide ((if i<0 then -i else i)≤999999999999999999999999999999)=true
 refine decide_eq_true ?_
 split <;> omega
def KM:Vl→Th
 | .none=>.tup [.str (Str.ofString "none")]
 | .num t b=>.tup [.str (Str.ofString "number"),.int t,.int b]
 | .txt z=>.tup [.str (Str.ofString "text"),.str z]
 | .tru b=>.tup [.str (Str.ofString "truth"),.bl b]
 | .flt w z r c=>.tup [.str (Str.ofString "fault"),.str w,.tup [.str z,.int r,.int c]]
theorem sT {H:Hp}{z:Str}(h:z.length≤1000):Al H (.str z) (.str z):=.str z h
theorem Ff.th {H:Hp}{p:Addr}{v:Vl}(ok:Mq v)(h:Ff H p v):Al H (.ref p) (KM v):=by
 cases v with
 | none=>exact .ofP h (.cons (sT (by nofun)) .nil)
 | num t b=>exact .ofP h (.cons (sT (by nofun)) (.cons (.int _) (.cons (.int _) .nil)))
 | txt z=>exact .ofP h (.cons (sT (by nofun)) (.cons (sT (Nat.le_trans ok.1 (by decide))) .nil))
 | tru b=>exact .ofP h (.cons (sT (by nofun)) (.cons (.bl _) .nil))
 | flt w z r c=>
  obtain⟨q,a,b⟩:=h
  obtain⟨hw,nm,_⟩:=ok
  have tab:∀ w∈EG,w.length≤1000:=by nofun
  exact .ofP a (.cons (sT (by nofun)) (.cons (sT (tab w hw)) (.cons (.ofP b (.cons (sT (Nat.le_trans nm.hi (by decide))) (.cons (.int _) (.cons (.int _) .nil)))) .nil)))
theorem Lg {v:Vl}(ok:Mq v):EY (KM v)=true:=by
 cases v with
 | none=>exact Vw _
 | num t b=>
  refine(S5 _).trans ?_
  have hp:=ok.1.pos
  show(IS (.int t)&&IS (.int b)&&(decide (1≤b)&&decide (V.int ((Nat.gcd t.natAbs b.natAbs:Nat):Int)=V.int 1)))=true
  rw[S6 ok.2.1,S6 ok.2.2,ok.1.cop,decide_eq_true (show 1≤b by omega)]
  rfl
 | txt z=>
  refine(Vx _).trans ?_
  have h1:=ok.1
  show(!decide ((20:Int)<(z.length:Int))&&EH (Str.ofString "abcdefghijklmnopqrstuvwxyz0123456789 ") z)=true
  rw[decide_eq_false (by omega)]
  exact Gc ok.2
 | tru b=>exact Vy _
 | flt w z r c=>
  refine(Vz _).trans ?_
  obtain⟨hw,nm,r0,r1,c0,c1⟩:=ok
  show(Fc (.str w) (EG.map V.str)&&(!decide ((z.length:Int)<1)&&!decide ((6:Int)<(z.length:Int))&&EH (Str.ofString "abcdefghijklmnopqrstuvwxyz") z&&(decide (1≤r)&&decide (r≤16))&&(decide (1≤c)&&decide (c≤8))))=true
  have h1:=nm.lo
  have h2:=nm.hi
  rw[Qa hw,decide_eq_false (by omega),decide_eq_false (by omega),show EH (Str.ofString "abcdefghijklmnopqrstuvwxyz") z=true from Gc (QY nm),decide_eq_true r0,decide_eq_true r1,decide_eq_true c0,decide_eq_true c1]
  rfl
theorem YS {H:Hp}{q:Addr}{us:List V}{ts:List Th}(hq:H q=none)(p:Paired (Al (upd H q (.tup us))) us ts):Al (upd H q (.tup us)) (.ref q) (.tup ts):=.ofP AE p
theorem Ym {H:Hp}{q:Addr}{us:List V}(hq:H q=none):Al (upd H q (.lst us)) (.ref q) .lst:=.lst AE
theorem Al.updL {H:Hp}{D:Addr}{vs ws:List V}{v:V}{th:Th}(h:Al H v th)(hD:H D=some (.lst vs)):Al (upd H D (.lst ws)) v th:=by
 induction h with
 | non=>exact .non
 | bl b=>exact .bl b
 | int i=>exact .int i
 | str z hz=>exact .str z hz
 | @lst a xs e=>
  by_cases ha:a=D
  ·subst ha;exact .lst AE
  ·exact .lst (by rw[Ab ha];exact e)
 | dic e=>exact .dic (by rw[Ab (CJ e hD (by intro z;cases z))];exact e)
 | tup e hn hh ih=>exact .tup (by rw[Ab (CJ e hD (by intro z;cases z))];exact e) hn fun j u t a b=>ih j u t a b
def Op:List (BY×V):=[(.inr (zS "value"),.int 2),(.inr (zS "cell"),.int 3),(.inr (zS "range"),.int 4),(.inr (zS "columns"),.int 4),(.inr (zS "gone"),.int 1),(.inr (zS "name"),.int 2),(.inr (zS "own"),.int 3),(.inr (zS "param"),.int 2),(.inr (zS "op"),.int 4),(.inr (zS "neg"),.int 2),(.inr (zS "if"),.int 4),(.inr (zS "sum"),.int 2),(.inr (zS "count"),.int 2),(.inr (zS "least"),.int 2),(.inr (zS "most"),.int 2),(.inr (zS "sumif"),.int 5),(.inr (zS "find"),.int 4),(.inr (zS "turn"),.int 2),(.inr (zS "stack"),.int 3),(.inr (zS "grid"),.int 5),(.inr (zS "outer"),.int 2)]
def DA (k:Str):Int:=match EE Op (.inr k)with | some (.int i)=>i | _=>0
def UT:V→Bool | .int _=>true | _=>false
theorem Qd (k:Str):(EE Op (.inr k)).getD (.int 0)=.int (DA k):=by
 unfold DA
 cases h:EE Op (.inr k)with
 | none=>rfl
 | some v=>
  have all:∀ kv∈Op,UT kv.2=true:=by nofun
  unfold EE at h
  obtain⟨kv,h1,h2⟩:=Option.map_eq_some_iff.mp h
  have:=all kv (List.mem_of_find?_eq_some h1)
  rw[h2]at this
  cases v <;> first | rfl | cases this
def UU:List (Str×List Nat):=[(zS "op",[2,3]),(zS "neg",[1]),(zS "if",[1,2,3]),(zS "sum",[1]),(zS "count",[1]),(zS "least",[1]),(zS "most",[1]),(zS "sumif",[1,3,4]),(zS "find",[1,2,3]),(zS "turn",[1]),(zS "stack",[1,2]),(zS "grid",[3,4]),(zS "outer",[1])]
def KN (k:Str):List Nat:=((UU.find? fun x=>decide (x.1=k)).map (·.2)).getD []
def UV:List V:=[vS "+",vS "-",vS "*",vS "/",vS "&",vS "=",vS "<"]
def U6:List V:=[vS "=",vS "<"]
def S7:List V:=[vS "yes",vS "no",vS "if",vS "sum",vS "count",vS "least",vS "most",vS "sumif",vS "find",vS "turn",vS "stack",vS "grid",vS "outer"]
def FN:Th→Bool | .non=>true | th=>B4 th
def CQ:Th→Bool | .tup [a,b,c,d]=>Ej c&&Ej d&&Bb 16 a&&Bb 8 b | _=>false
def Dr:Th→Bool | .tup [a,b]=>Bb 8 a&&Ej b | _=>false
def Mt:Th→Th→Bool | .int a,.int b=>decide (a≤b) | _,_=>false
def Ek:Th→Bool | .str z=>B4 (.str z)&&!Fc (.str z) S7 | _=>false
def Oq (l:List V):Th→Bool | .str z=>Fc (.str z) l | _=>false
def UW (pr:Int):Th→Bool | .int i=>decide (0≤i)&&decide (i<min pr 3) | _=>false
def Nv (k:Str)(ts:List Th):Bool:=if k=zS "number" then(match ts with | [.int a,.int b]=>decide (b=1)&&decide (0≤a)&&decide (a≤999999999) | _=>false)else decide (k=zS "text")||decide (k=zS "truth")
def U7:Th→Bool | .tup (.str k::ts)=>EY (.tup (.str k::ts))&&Nv k ts | _=>false
def IT:List Th→Bool
 | [.tup (a::x),.tup (b::y)]=>Dr (.tup (a::x))&&Dr (.tup (b::y))&&Mt a b
 | _=>false
def Mu:List Th→Bool
 | [.tup (a::b::x),.tup (c::d::y)]=>CQ (.tup (a::b::x))&&CQ (.tup (c::d::y))&&Mt a c&&Mt b d
 | _=>false
def F9 (k:Str)(r:List Th):Bool:=
 if k=zS "columns" then IT r else if k=zS "cell" then(match r with | [c]=>CQ c | _=>false)else Mu r
def IU (k:Str):List Th→Bool | s::r=>FN s&&F9 k r | _=>false
def HL (k:Str):List Th→Bool | a::r=>Ek a&&(if k=zS "name" then true else(match r with | .tup us::_=>decide (us.length≤3) | _=>false)) | _=>false
def Bc (pr:Int)(k:Str)(ts:List Th):Bool:=
 if k=zS "value" then(match ts with | [a]=>U7 a | _=>false)
 else if k=zS "cell" then IU k ts
 else if k=zS "range" then IU k ts
 else if k=zS "columns" then IU k ts
 else if k=zS "name" then HL k ts
 else if k=zS "own" then HL k ts
 else if k=zS "param" then(match ts with | [a]=>UW pr a | _=>false)
 else if k=zS "op" then(match ts with | a::_=>Oq UV a | _=>false)
 else if k=zS "sumif" then(match ts with | _::a::_=>Oq U6 a | _=>false)
 else if k=zS "grid" then(match ts with | a::b::_=>Bb 16 a&&Bb 8 b | _=>false)
 else true
def Cd (pr:Int):Th→Bool
 | .tup (.str k::ts)=>decide (((ts.length+1:Nat):Int)=DA k)&&Bc pr k ts
 | _=>false
def Xr:List Th→List Th | [_,.tup us]=>us | _=>[]
def Bh:Th→List Th
 | .tup (.str k::ts)=>if k=zS "own" then Xr ts else(KN k).filterMap fun i=>(Th.str k::ts)[i]?
 | _=>[]
def BZ:Nat→Int→Th→Bool
 | 0,_,_=>false
 | n+1,pr,th=>Cd pr th&&(Bh th).all (BZ n pr)
def szN:Nat→Th→Nat
 | 0,_=>0
 | n+1,th=>1+((Bh th).map (szN n)).sum
theorem Bt {n:Nat}{pr:Int}{th:Th}(h:BZ (n+1) pr th=true):Cd pr th=true∧∀ t∈Bh th,BZ n pr t=true:=by
 rw[BZ,Bool.and_eq_true,List.all_eq_true]at h
 exact h
theorem KO {n:Nat}{pr:Int}{th:Th}(h1:Cd pr th=true)(h2:∀ t∈Bh th,BZ n pr t=true):BZ (n+1) pr th=true:=by
 rw[BZ,Bool.and_eq_true,List.all_eq_true]
 exact⟨h1,h2⟩
theorem Jq {pr:Int}:∀{n:Nat} {th:Th},BZ n pr th=true→BZ (n+1) pr th=true
 | 0,_,h=>by cases h
 | n+1,th,h=>KO (Bt h).1 fun t ht=>Jq ((Bt h).2 t ht)
theorem Gf {f g:Th→Nat}:∀{l:List Th},(∀ t∈l,f t=g t)→(l.map f).sum=(l.map g).sum
 | [],_=>rfl
 | a::l,h=>by rw[List.map_cons,List.map_cons,List.sum_cons,List.sum_cons,h a (by simp),Gf fun t ht=>h t (List.mem_cons_of_mem _ ht)]
theorem S8 {pr:Int}:∀{n:Nat} {th:Th},BZ n pr th=true→szN (n+1) th=szN n th
 | 0,_,h=>by cases h
 | n+1,th,h=>by
  show 1+((Bh th).map (szN (n+1))).sum=1+((Bh th).map (szN n)).sum
  rw[Gf fun t ht=>S8 ((Bt h).2 t ht)]
def JA (n:Nat)(l:List Th):Nat:=(l.map (szN n)).sum
theorem Nw (n:Nat):∀ a b:List Th,JA n (a++b)=JA n a+JA n b:=fun a b=>by unfold JA;rw[List.map_append,List.sum_append]
theorem Nx (n:Nat)(t:Th):JA n [t]=szN n t:=by simp[JA]
theorem UX {n:Nat}{pr:Int}{th:Th}(h:BZ (n+1) pr th=true):szN (n+1) th=1+JA (n+1) (Bh th):=by
 show 1+((Bh th).map (szN n)).sum=1+((Bh th).map (szN (n+1))).sum
 rw[Gf fun t ht=>(S8 ((Bt h).2 t ht)).symm]
theorem R6 (n:Nat)(th:Th):1≤szN (n+1) th:=by show 1≤1+_;omega
theorem KP (n:Nat):∀ l:List Th,l.length≤JA (n+1) l
 | []=>Nat.zero_le _
 | a::l=>by
  have h:=KP n l
  have p:=R6 n a
  have e:JA (n+1) (a::l)=szN (n+1) a+JA (n+1) l:=by unfold JA;rw[List.map_cons,List.sum_cons]
  rw[e,List.length_cons];omega
theorem Qe (k:Str):(KN k).length≤3:=by
 unfold KN
 cases h:UU.find? fun x=>decide (x.1=k)with
 | none=>exact Nat.zero_le _
 | some x=>
  have all:∀ x∈UU,x.2.length≤3:=by nofun
  exact all x (List.mem_of_find?_eq_some h)
theorem Lh {pr:Int}{ts:List Th}(h:Cd pr (.tup (.str (zS "own")::ts))=true):∃ a us,ts=[a,.tup us]∧us.length≤3:=by
 have h:(decide (((ts.length+1:Nat):Int)=DA (zS "own"))&&Bc pr (zS "own") ts)=true:=h
 rw[Bool.and_eq_true]at h
 obtain⟨h1,h2⟩:=h
 have e3:DA (zS "own")=3:=by nofun
 rw[e3]at h1
 have hl:ts.length=2:=by have:=of_decide_eq_true h1;omega
 match ts,hl with
 | [a,b],_=>
  have h2:HL (zS "own") [a,b]=true:=by
   unfold Bc at h2
   rw[if_neg (by nofun),if_neg (by nofun),if_neg (by nofun),if_neg (by nofun),if_neg (by nofun),if_pos rfl]at h2
   exact h2
  unfold HL at h2
  dsimp only at h2
  rw[if_neg (by nofun),Bool.and_eq_true]at h2
  cases b with
  | tup us=>exact⟨a,us,rfl,of_decide_eq_true h2.2⟩
  | _=>cases h2.2
theorem Qf {pr:Int}{th:Th}(h:Cd pr th=true):(Bh th).length≤3:=by
 cases th with
 | tup ts=>
  cases ts with
  | nil=>cases h
  | cons a ts=>
   cases a with
   | str k=>
    unfold Bh
    dsimp only
    by_cases hk:k=zS "own"
    ·subst hk
     obtain⟨a,us,rfl,hl⟩:=Lh h
     rw[if_pos rfl]
     exact hl
    ·rw[if_neg hk]
     exact Nat.le_trans (List.length_filterMap_le _ _) (Qe k)
   | _=>cases h
 | _=>cases h
def UY:Nat→Nat
 | 0=>0
 | n+1=>1+3*UY n
theorem Qg {pr:Int}:∀{n:Nat} {th:Th},BZ n pr th=true→szN n th≤UY n
 | 0,_,h=>by cases h
 | n+1,th,h=>by
  obtain⟨h1,h2⟩:=Bt h
  have l3:=Qf h1
  have:∀ l:List Th,(∀ t∈l,szN n t≤UY n)→(l.map (szN n)).sum≤l.length*UY n:=by
   intro l
   induction l with
   | nil=>intro _;simp
   | cons a l ih=>
    intro hl
    have:=ih fun t ht=>hl t (List.mem_cons_of_mem _ ht)
    have:=hl a (by simp)
    rw[List.map_cons,List.sum_cons,List.length_cons,Nat.add_mul];omega
  have a:=this _ fun t ht=>Qg (h2 t ht)
  have b:(Bh th).length*UY n≤3*UY n:=Nat.mul_le_mul_right _ l3
  show 1+((Bh th).map (szN n)).sum≤1+3*UY n
  omega
def S9:Option Str→Th
 | none=>.non
 | some z=>.str z
def FW (c:S2):Th:=.tup [.int c.r,.int c.c,.bl c.x,.bl c.y]
def Wz:Lf→Th
 | .val v=>.tup [.str (zS "value"),KM v]
 | .cell s c=>.tup [.str (zS "cell"),S9 s,FW c]
 | .rng s c d=>.tup [.str (zS "range"),S9 s,FW c,FW d]
 | .cols s i x j y=>.tup [.str (zS "columns"),S9 s,.tup [.int i,.bl x],.tup [.int j,.bl y]]
 | .gone=>.tup [.str (zS "gone")]
 | .nam z=>.tup [.str (zS "name"),.str z]
 | .par i=>.tup [.str (zS "param"),.int i]
 | .flt z=>.tup [.str (zS "fault"),.str z]
def Qh:Kd→List Th→List Th
 | .op z,us=>.str (zS "op")::.str z::us
 | .neg,us=>.str (zS "neg")::us
 | .own z,us=>[.str (zS "own"),.str z,.tup us]
 | .sumif z,us=>.str (zS "sumif")::(us.take 1++.str z::us.drop 1)
 | .grid i j,us=>.str (zS "grid")::.int i::.int j::us
 | .wd z,us=>.str z::us
mutual
def Ec:Fm→Th
 | .lf l=>Wz l
 | .nd k ps=>.tup (Qh k (Li ps))
def Li:List Fm→List Th
 | []=>[]
 | f::fs=>Ec f::Li fs
end
theorem Hj:∀ fs:List Fm,(Li fs).length=fs.length
 | []=>by rw[Li];rfl
 | f::fs=>by rw[Li,List.length_cons,List.length_cons,Hj fs]
theorem sL {H:Hp}(z:String)(h:(zS z).length≤1000:=by nofun):Al H (vS z) (.str (zS z)):=.str _ h
theorem Mv {H:Hp}{s:Option Str}(h:Om s):Al H (R3 s) (S9 s):=by
 cases s with
 | none=>exact .non
 | some z=>exact .str z (Nat.le_trans (show Nm z from h).hi (by decide))
theorem IV {H:Hp}{q:Addr}{c:S2}(h:H q=some (.tup (Qb c))):Al H (.ref q) (FW c):=.ofP h (.cons (.int _) (.cons (.int _) (.cons (.bl _) (.cons (.bl _) .nil))))
theorem Fg.th {H:Hp}{a:Addr}{l:Lf}{pr:Nat}(ok:La pr l)(h:Fg H a l):Al H (.ref a) (Wz l):=by
 cases l with
 | val v=>obtain⟨q,h1,h2⟩:=h;exact .ofP h1 (.cons (sL _) (.cons (Ff.th ok.1 h2) .nil))
 | cell s c=>obtain⟨q,h1,h2⟩:=h;exact .ofP h1 (.cons (sL _) (.cons (Mv ok.1) (.cons (IV h2) .nil)))
 | rng s c d=>obtain⟨q,u,h1,h2,h3⟩:=h;exact .ofP h1 (.cons (sL _) (.cons (Mv ok.1) (.cons (IV h2) (.cons (IV h3) .nil))))
 | cols s i x j y=>obtain⟨q,u,h1,h2,h3⟩:=h;exact .ofP h1 (.cons (sL _) (.cons (Mv ok.1) (.cons (.ofP h2 (.cons (.int _) (.cons (.bl _) .nil))) (.cons (.ofP h3 (.cons (.int _) (.cons (.bl _) .nil))) .nil))))
 | gone=>exact .ofP h (.cons (sL _) .nil)
 | nam z=>exact .ofP h (.cons (sL _) (.cons (.str z (Nat.le_trans ok.1.hi (by decide))) .nil))
 | par i=>exact .ofP h (.cons (sL _) (.cons (.int _) .nil))
 | flt z=>exact .ofP h (.cons (sL _) (.cons (.str z (Nat.le_trans ok.2 (by decide))) .nil))
theorem UZ {z:Str}(h:z∈UN):z.length≤1000:=by have:=R5 h;omega
theorem YT {α β:Type}{F:α→β→Prop}:∀{xs:List α} {ys:List β} (n:Nat),Paired F xs ys→Paired F (xs.take n) (ys.take n)
 | _,_,0,_=>by rw[List.take_zero,List.take_zero];exact .nil
 | _,_,_+1,.nil=>.nil
 | _,_,n+1,.cons r t=>by rw[List.take_succ_cons,List.take_succ_cons];exact .cons r (YT n t)
theorem YU {α β:Type}{F:α→β→Prop}:∀{xs:List α} {ys:List β} (n:Nat),Paired F xs ys→Paired F (xs.drop n) (ys.drop n)
 | _,_,0,h=>h
 | _,_,_+1,.nil=>.nil
 | _,_,n+1,.cons _ t=>by rw[List.drop_succ_cons,List.drop_succ_cons];exact YU n t
theorem Ua {H:Hp}{a t:Addr}{k:Kd}{us:List V}{ts:List Th}{m:Nat}(ok:Gd k m)(h:H a=some (.tup (On t k us)))(ht:Lb k=true→H t=some (.tup us))(p:Paired (Al H) us ts):Al H (.ref a) (.tup (Qh k ts)):=by
 cases k with
 | op z=>exact .ofP h (.cons (sL _) (.cons (.str z (UZ ok.1)) p))
 | neg=>exact .ofP h (.cons (sL _) p)
 | own z=>exact .ofP h (.cons (sL _) (.cons (.str z (Nat.le_trans ok.1.hi (by decide))) (.cons (.ofP (ht rfl) p) .nil)))
 | sumif z=>
  have hz:z.length≤1000:=by rcases ok.1 with rfl | rfl <;> nofun
  exact .ofP h (.cons (sL _) (FM (YT 1 p) (.cons (.str z hz) (YU 1 p))))
 | grid i j=>exact .ofP h (.cons (sL _) (.cons (.int _) (.cons (.int _) p)))
 | wd z=>
  have tab:∀ x∈Kk,x.1.length≤1000:=by nofun
  exact .ofP h (.cons (.str z (tab _ (show(z,m)∈Kk from ok))) p)
theorem Qi {H:Hp}:∀{us:List V} {ps:List Fm},Lc H us ps→(∀ g∈ps,∀ v,CP H v g→Al H v (Ec g))→Paired (Al H) us (Li ps)
 | _,_,.nil,_=>by rw[Li];exact .nil
 | _,_,.cons r t,h=>by rw[Li];exact .cons (h _ (by simp) _ r) (Qi t fun g hg=>h g (List.mem_cons_of_mem _ hg))
theorem CP.th {H:Hp}{pr n:Nat}{f:Fm}(fo:FO pr n f):∀{v:V},CP H v f→Al H v (Ec f):=by
 induction fo with
 | lf ok=>
  intro v h
  cases h with
  | lf h=>rw[Ec];exact Fg.th ok h
 | @nd n k ps ok _ ih=>
  intro v h
  cases h with
  | nd h ht hl hh=>
   rw[Ec]
   exact Ua ok h ht (Qi (CP.parts hl hh) fun g hg v hv=>ih g hg hv)
theorem FE {z:Str}(nm:Nm z):B4 (.str z)=true:=by
 have h1:=nm.lo
 have h2:=nm.hi
 show(!decide ((z.length:Int)<1)&&!decide ((6:Int)<(z.length:Int))&&EH (Str.ofString "abcdefghijklmnopqrstuvwxyz") z)=true
 rw[decide_eq_false (by omega),decide_eq_false (by omega),show EH (Str.ofString "abcdefghijklmnopqrstuvwxyz") z=true from Gc (QY nm)]
 rfl
theorem R7 {z:Str}(h:R1 z=false):Fc (.str z) S7=false:=by
 unfold R1 at h
 rw[Bool.or_eq_false_iff]at h
 have e:S7=YK++YL:=rfl
 rw[e]
 unfold Fc at *
 rw[List.any_append,h.1,h.2]
 rfl
theorem GG {z:Str}(nm:Nm z)(h:R1 z=false):Ek (.str z)=true:=by
 show(B4 (.str z)&&!Fc (.str z) S7)=true
 rw[FE nm,R7 h]
 rfl
theorem IW {s:Option Str}(h:Om s):FN (S9 s)=true:=by
 cases s with
 | none=>rfl
 | some z=>exact FE h
theorem CI {l i:Int}(h0:1≤i)(h1:i≤l):Bb l (.int i)=true:=by
 show(decide (1≤i)&&decide (i≤l))=true
 rw[decide_eq_true h0,decide_eq_true h1]
 rfl
theorem Gg {c:S2}(h:LZ c):CQ (FW c)=true:=by
 show(true&&true&&Bb 16 (.int c.r)&&Bb 8 (.int c.c))=true
 rw[CI h.r0 h.r1,CI h.c0 h.c1]
 rfl
theorem KQ {a b:Int}(h:a≤b):Mt (.int a) (.int b)=true:=decide_eq_true h
theorem R8 {v:Vl}(ok:Mq v)(w:Vs v):U7 (KM v)=true:=by
 have e:=Lg ok
 cases v with
 | none=>exact w.elim
 | num t b=>
  show(EY (KM (.num t b))&&Nv (zS "number") [.int t,.int b])=true
  rw[e]
  unfold Nv
  rw[if_pos rfl]
  show(true&&(decide (b=1)&&decide (0≤t)&&decide (t≤999999999)))=true
  rw[decide_eq_true w.1,decide_eq_true w.2.1,decide_eq_true w.2.2]
  rfl
 | txt z=>
  show(EY (KM (.txt z))&&Nv (zS "text") [.str z])=true
  rw[e]
  unfold Nv
  rw[if_neg (by nofun),decide_eq_true rfl]
  rfl
 | tru b=>
  show(EY (KM (.tru b))&&Nv (zS "truth") [.bl b])=true
  rw[e]
  unfold Nv
  rw[if_neg (by nofun)]
  show(true&&(_||decide (zS "truth"=zS "truth")))=true
  rw[decide_eq_true rfl,Bool.or_true]
  rfl
 | flt w' z r c=>exact w.elim
theorem Os {pr:Int}{k:Str}{ts:List Th}(h:Cd pr (.tup (.str k::ts))=true):Bc pr k ts=true:=by
 have h:(decide (((ts.length+1:Nat):Int)=DA k)&&Bc pr k ts)=true:=h
 rw[Bool.and_eq_true]at h
 exact h.2
theorem B0 {pr:Int}{k:Str}{ts:List Th}(h1:((ts.length+1:Nat):Int)=DA k)(h2:Bc pr k ts=true):Cd pr (.tup (.str k::ts))=true:=by
 show(decide (((ts.length+1:Nat):Int)=DA k)&&Bc pr k ts)=true
 rw[decide_eq_true h1,h2]
 rfl
theorem Lj (pr:Int)(ts:List Th):Bc pr (zS "value") ts=(match ts with | [a]=>U7 a | _=>false):=by unfold Bc;rw[if_pos rfl]
theorem Ny (pr:Int)(ts:List Th):Bc pr (zS "cell") ts=IU (zS "cell") ts:=by unfold Bc;rw[if_neg (by nofun),if_pos rfl]
theorem Lk (pr:Int)(ts:List Th):Bc pr (zS "range") ts=IU (zS "range") ts:=by unfold Bc;rw[if_neg (by nofun),if_neg (by nofun),if_pos rfl]
theorem IX (pr:Int)(ts:List Th):Bc pr (zS "columns") ts=IU (zS "columns") ts:=by unfold Bc;rw[if_neg (by nofun),if_neg (by nofun),if_neg (by nofun),if_pos rfl]
theorem Nz (pr:Int)(ts:List Th):Bc pr (zS "name") ts=HL (zS "name") ts:=by unfold Bc;rw[if_neg (by nofun),if_neg (by nofun),if_neg (by nofun),if_neg (by nofun),if_pos rfl]
theorem Qj (pr:Int)(ts:List Th):Bc pr (zS "own") ts=HL (zS "own") ts:=by unfold Bc;rw[if_neg (by nofun),if_neg (by nofun),if_neg (by nofun),if_neg (by nofun),if_neg (by nofun),if_pos rfl]
theorem Ll (pr:Int)(ts:List Th):Bc pr (zS "param") ts=(match ts with | [a]=>UW pr a | _=>false):=by unfold Bc;rw[if_neg (by nofun),if_neg (by nofun),if_neg (by nofun),if_neg (by nofun),if_neg (by nofun),if_neg (by nofun),if_pos rfl]
theorem TB (pr:Int)(ts:List Th):Bc pr (zS "op") ts=(match ts with | a::_=>Oq UV a | _=>false):=by unfold Bc;rw[if_neg (by nofun),if_neg (by nofun),if_neg (by nofun),if_neg (by nofun),if_neg (by nofun),if_neg (by nofun),if_neg (by nofun),if_pos rfl]
theorem Lm (pr:Int)(ts:List Th):Bc pr (zS "sumif") ts=(match ts with | _::a::_=>Oq U6 a | _=>false):=by unfold Bc;rw[if_neg (by nofun),if_neg (by nofun),if_neg (by nofun),if_neg (by nofun),if_neg (by nofun),if_neg (by nofun),if_neg (by nofun),if_neg (by nofun),if_pos rfl]
theorem N1 (pr:Int)(ts:List Th):Bc pr (zS "grid") ts=(match ts with | a::b::_=>Bb 16 a&&Bb 8 b | _=>false):=by unfold Bc;rw[if_neg (by nofun),if_neg (by nofun),if_neg (by nofun),if_neg (by nofun),if_neg (by nofun),if_neg (by nofun),if_neg (by nofun),if_neg (by nofun),if_neg (by nofun),if_pos rfl]
def Qk (k:Str):Bool:=!decide (k=zS "value")&&!decide (k=zS "cell")&&!decide (k=zS "range")&&!decide (k=zS "columns")&&!decide (k=zS "name")&&!decide (k=zS "own")&&!decide (k=zS "param")&&!decide (k=zS "op")&&!decide (k=zS "sumif")&&!decide (k=zS "grid")
theorem KR {pr:Int}{k:Str}{ts:List Th}(h:Qk k=true):Bc pr k ts=true:=by
 unfold Qk at h
 simp only[Bool.and_eq_true,Bool.not_eq_true',decide_eq_false_iff_not]at h
 obtain⟨⟨⟨⟨⟨⟨⟨⟨⟨h0,h1⟩,h2⟩,h3⟩,h4⟩,h5⟩,h6⟩,h7⟩,h8⟩,h9⟩:=h
 unfold Bc
 rw[if_neg h0,if_neg h1,if_neg h2,if_neg h3,if_neg h4,if_neg h5,if_neg h6,if_neg h7,if_neg h8,if_neg h9]
theorem Ot {pr:Nat}{l:Lf}(ok:La pr l){q:Int}(hq:(pr:Int)≤q)(h3:pr≤3):Cd q (Wz l)=true:=by
 cases l with
 | val v=>exact B0 (by show(2:Int)=_;nofun) ((Lj _ _).trans (R8 ok.1 ok.2))
 | cell s c=>
  refine B0 (by show(3:Int)=_;nofun) ((Ny _ _).trans ?_)
  show(FN (S9 s)&&F9 (zS "cell") [FW c])=true
  rw[IW ok.1]
  unfold F9
  rw[if_neg (by nofun),if_pos rfl]
  exact Gg ok.2
 | rng s c d=>
  refine B0 (by show(4:Int)=_;nofun) ((Lk _ _).trans ?_)
  show(FN (S9 s)&&F9 (zS "range") [FW c,FW d])=true
  rw[IW ok.1]
  unfold F9
  rw[if_neg (by nofun),if_neg (by nofun)]
  show(true&&(CQ (FW c)&&CQ (FW d)&&Mt (.int c.r) (.int d.r)&&Mt (.int c.c) (.int d.c)))=true
  rw[Gg ok.2.1,Gg ok.2.2.1,KQ ok.2.2.2.1,KQ ok.2.2.2.2]
  rfl
 | cols s i x j y=>
  refine B0 (by show(4:Int)=_;nofun) ((IX _ _).trans ?_)
  show(FN (S9 s)&&F9 (zS "columns") [.tup [.int i,.bl x],.tup [.int j,.bl y]])=true
  rw[IW ok.1]
  unfold F9
  rw[if_pos rfl]
  show(true&&((Bb 8 (.int i)&&true)&&(Bb 8 (.int j)&&true)&&Mt (.int i) (.int j)))=true
  rw[CI ok.2.1 (by have:=ok.2.2.1;have:=ok.2.2.2;omega),CI (by have:=ok.2.1;have:=ok.2.2.1;omega) ok.2.2.2,KQ ok.2.2.1]
  rfl
 | gone=>exact B0 (by show(1:Int)=_;nofun) (KR (by nofun))
 | nam z=>
  refine B0 (by show(2:Int)=_;nofun) ((Nz _ _).trans ?_)
  unfold HL
  dsimp only
  rw[GG ok.1 ok.2,if_pos rfl]
  rfl
 | par i=>
  refine B0 (by show(2:Int)=_;nofun) ((Ll _ _).trans ?_)
  show(decide (0≤i)&&decide (i<min q 3))=true
  rw[decide_eq_true ok.1,decide_eq_true (by have:=ok.2;omega)]
  rfl
 | flt z=>exact absurd ok.1 (by omega)
theorem IY (l:Lf):Bh (Wz l)=[]:=by
 have e:∀(k:Str) (ts:List Th),k≠zS "own"→KN k=[]→Bh (.tup (.str k::ts))=[]:=fun k ts h1 h2=>by
  unfold Bh
  dsimp only
  rw[if_neg h1,h2]
  rfl
 cases l <;> exact e _ _ (by nofun) (by nofun)
theorem Xs {us:List Th}{m:Nat}(h:us.length=m)(hm:m=1∨m=2∨m=3):(m=1∧∃ a,us=[a])∨(m=2∧∃ a b,us=[a,b])∨(m=3∧∃ a b c,us=[a,b,c]):=by
 rcases hm with rfl | rfl | rfl
 ·exact .inl ⟨rfl,Ol h⟩
 ·exact .inr (.inl ⟨rfl,LX h⟩)
 ·exact .inr (.inr ⟨rfl,LY h⟩)
def Yn:Nat→List Nat
 | 1=>[1] | 2=>[1,2] | 3=>[1,2,3] | _=>[]
theorem IZ {k:Kd}{us:List Th}(ok:Gd k us.length):Bh (.tup (Qh k us))=us:=by
 have e:∀(k:Str) (ts:List Th) (pl:List Nat),k≠zS "own"→KN k=pl→Bh (.tup (.str k::ts))=pl.filterMap fun i=>(Th.str k::ts)[i]?:=fun k ts pl h1 h2=>by
  unfold Bh
  dsimp only
  rw[if_neg h1,h2]
 cases k with
 | op z=>
  obtain⟨a,b,rfl⟩:=LX ok.2
  exact(e _ _ [2,3] (by nofun) (by nofun)).trans rfl
 | neg=>
  obtain⟨a,rfl⟩:=Ol (show us.length=1 from ok)
  exact(e _ _ [1] (by nofun) (by nofun)).trans rfl
 | own z=>
  show Bh (.tup [.str (zS "own"),.str z,.tup us])=us
  unfold Bh
  dsimp only
  rw[if_pos rfl]
  rfl
 | sumif z=>
  obtain⟨a,b,c,rfl⟩:=LY ok.2
  exact(e _ _ [1,3,4] (by nofun) (by nofun)).trans rfl
 | grid i j=>
  obtain⟨a,b,rfl⟩:=LX ok.2.2.2.2
  exact(e _ _ [3,4] (by nofun) (by nofun)).trans rfl
 | wd z=>
  have hw:(z,us.length)∈Kk:=ok
  have tab:∀ x∈Kk,x.1≠zS "own"∧KN x.1=Yn x.2∧(x.2=1∨x.2=2∨x.2=3):=by nofun
  obtain⟨t1,t2,t3⟩:=tab _ hw
  refine(e z us _ t1 t2).trans ?_
  dsimp only at t3 ⊢
  rcases Xs rfl t3 with⟨h,a,rfl⟩ | ⟨h,a,b,rfl⟩ | ⟨h,a,b,c,rfl⟩ <;> rfl
theorem Ub {z:Str}(h:z∈UN):Oq UV (.str z)=true:=by
 have tab:∀ z∈UN,Fc (.str z) UV=true:=by nofun
 exact tab z h
theorem Ou {k:Kd}{us:List Th}(ok:Gd k us.length)(q:Int):Cd q (.tup (Qh k us))=true:=by
 cases k with
 | op z=>
  obtain⟨a,b,rfl⟩:=LX ok.2
  exact B0 (by show(4:Int)=_;nofun) ((TB _ _).trans (Ub ok.1))
 | neg=>
  obtain⟨a,rfl⟩:=Ol (show us.length=1 from ok)
  exact B0 (by show(2:Int)=_;nofun) (KR (by nofun))
 | own z=>
  refine B0 (by show(3:Int)=_;nofun) ((Qj _ _).trans ?_)
  show(Ek (.str z)&&(if zS "own"=zS "name" then true else decide (us.length≤3)))=true
  rw[GG ok.1 ok.2.1,if_neg (by nofun),decide_eq_true ok.2.2]
  rfl
 | sumif z=>
  obtain⟨a,b,c,rfl⟩:=LY ok.2
  refine B0 (by show(5:Int)=_;nofun) ((Lm _ _).trans ?_)
  show Fc (.str z) U6=true
  rcases ok.1 with rfl | rfl <;> nofun
 | grid i j=>
  obtain⟨a,b,rfl⟩:=LX ok.2.2.2.2
  refine B0 (by show(5:Int)=_;nofun) ((N1 _ _).trans ?_)
  show(Bb 16 (.int i)&&Bb 8 (.int j))=true
  rw[CI ok.1 ok.2.1,CI ok.2.2.1 ok.2.2.2.1]
  rfl
 | wd z=>
  have hw:(z,us.length)∈Kk:=ok
  have tab:∀ x∈Kk,Qk x.1=true∧((x.2+1:Nat):Int)=DA x.1:=by nofun
  obtain⟨t1,t2⟩:=tab _ hw
  exact B0 t2 (KR t1)
theorem KS {t:Th}:∀{fs:List Fm},t∈Li fs→∃ g∈fs,t=Ec g
 | [],h=>by rw[Li]at h;cases h
 | f::fs,h=>by
  rw[Li]at h
  rcases List.mem_cons.mp h with e | h
  ·exact⟨f,by simp,e⟩
  ·obtain⟨g,hg,e⟩:=KS h
   exact⟨g,List.mem_cons_of_mem _ hg,e⟩
theorem FO.tree {pr n:Nat}{f:Fm}(fo:FO pr n f){q:Int}(hq:(pr:Int)≤q)(h3:pr≤3):BZ n q (Ec f)=true:=by
 induction fo with
 | lf ok=>exact KO (by rw[Ec];exact Ot ok hq h3) fun t ht=>by rw[Ec,IY]at ht;cases ht
 | @nd n k ps ok hp ih=>
  have okt:Gd k (Li ps).length:=by rw[Hj];exact ok
  refine KO (by rw[Ec];exact Ou okt q) fun t ht=>?_
  rw[Ec,IZ okt]at ht
  obtain⟨g,hg,rfl⟩:=KS ht
  exact ih g hg
theorem Ql {n:Nat}:∀{ps:List Fm},(∀ g∈ps,szN n (Ec g)=Ei g)→JA n (Li ps)=Mr ps
 | [],_=>by rw[Li,Mr];rfl
 | f::fs,h=>by
  rw[Li,Mr,← Ql fun g hg=>h g (List.mem_cons_of_mem _ hg),← h f (by simp)]
  unfold JA
  rw[List.map_cons,List.sum_cons]
theorem FO.szN {pr n:Nat}{f:Fm}(fo:FO pr n f):Fs.szN n (Ec f)=Ei f:=by
 induction fo with
 | @lf n l ok=>
  show 1+((Bh (Ec (.lf l))).map (Fs.szN n)).sum=Ei (.lf l)
  rw[Ec,IY,Ei]
  rfl
 | @nd n k ps ok hp ih=>
  have okt:Gd k (Li ps).length:=by rw[Hj];exact ok
  show 1+JA n (Bh (Ec (.nd k ps)))=Ei (.nd k ps)
  rw[Ec,IZ okt,Ei,Ql ih]
theorem Qm:S7.all B3=true:=by nofun
theorem Qn:UV.all B3=true:=by nofun
theorem Qo:U6.all B3=true:=by nofun
def V0 (K:PySem.W.Frag):Sp:=fun vs H Q _=>∃(v:V) (th:Th) (b:Addr) (ys:List V),vs=[v,.ref b]∧Al H v th∧(∀ H',A0 K H' b ys)∧ys.all B3=true∧∀ H',AF H H'→Q (.bl (Oq ys th)) H'
theorem V1 {th:Th}(h:EY th=false):U7 th=false:=by
 cases th with
 | tup ts=>
  cases ts with
  | nil=>rfl
  | cons a ts=>
   cases a with
   | str k=>show(EY (.tup (.str k::ts))&&Nv k ts)=false;rw[h];rfl
   | _=>rfl
 | _=>rfl
theorem Ov {ts:List Th}(h:EY (.tup ts)=true):∃ k ts',ts=.str k::ts':=by
 cases ts with
 | nil=>cases h
 | cons a ts=>
  cases a with
  | str k=>exact⟨k,ts,rfl⟩
  | _=>cases h
theorem V2 {k:Str}{ts:List Th}(h:EY (.tup (.str k::ts))=true):U7 (.tup (.str k::ts))=Nv k ts:=by
 show(EY (.tup (.str k::ts))&&Nv k ts)=_
 rw[h];rfl
theorem N2 {a:Th}(h:IS a=true):∃ i,a=.int i:=by cases a <;> first | exact⟨_,rfl⟩ | cases h
theorem R9 {ts:List Th}(h:EY (.tup (.str (zS "number")::ts))=true):∃ x y,ts=[.int x,.int y]:=by
 have h:Cw (zS "number") ts=true:=h
 rw[S5]at h
 match ts,h with
 | [a,b],h=>
  have h:(IS a&&IS b&&UR a b)=true:=h
  simp only[Bool.and_eq_true]at h
  obtain⟨x,rfl⟩:=N2 h.1.1
  obtain⟨y,rfl⟩:=N2 h.1.2
  exact⟨x,y,rfl⟩
theorem Xu {a b:Int}:decide (V.int a=V.int b)=decide (a=b):=by
 by_cases h:a=b
 ·rw[decide_eq_true h,decide_eq_true (by rw[h])]
 ·rw[decide_eq_false h,decide_eq_false fun e=>h (by injection e)]
theorem SA {x y:Int}:Nv (zS "number") [.int x,.int y]=(decide (V.int y=V.int 1)&&(decide (0≤x)&&decide (x≤999999999))):=by
 unfold Nv
 rw[if_pos rfl,Xu,← Bool.and_assoc]
theorem Uc {k:Str}{ts:List Th}(h:k≠zS "number"):Nv k ts=(decide (k=zS "text")||decide (k=zS "truth")):=by
 unfold Nv
 rw[if_neg h]
theorem Ow {ts:List Th}(h:ts.length≠4):CQ (.tup ts)=false:=by
 match ts,h with
 | [],_=>rfl
 | [_],_=>rfl
 | [_,_],_=>rfl
 | [_,_,_],_=>rfl
 | [_,_,_,_],h=>exact absurd rfl h
 | _::_::_::_::_::_,_=>rfl
theorem Ox {ts:List Th}(h:ts.length≠2):Dr (.tup ts)=false:=by
 match ts,h with
 | [],_=>rfl
 | [_],_=>rfl
 | [_,_],h=>exact absurd rfl h
 | _::_::_::_,_=>rfl
theorem Ia {l:Int}{t:Th}(h:Bb l t=true):∃ i,t=.int i:=by cases t <;> first | exact⟨_,rfl⟩ | cases h
theorem Ib {t:Th}(h:Dr t=true):∃ i b,t=.tup [.int i,b]:=by
 match t,h with
 | .tup [a,b],h=>
  have h:(Bb 8 a&&Ej b)=true:=h
  rw[Bool.and_eq_true]at h
  obtain⟨i,rfl⟩:=Ia h.1
  exact⟨i,b,rfl⟩
theorem Ic {t:Th}(h:CQ t=true):∃ i j b c,t=.tup [.int i,.int j,b,c]:=by
 match t,h with
 | .tup [a,b,c,d],h=>
  have h:(Ej c&&Ej d&&Bb 16 a&&Bb 8 b)=true:=h
  simp only[Bool.and_eq_true]at h
  obtain⟨i,rfl⟩:=Ia h.1.2
  obtain⟨j,rfl⟩:=Ia h.2
  exact⟨i,j,c,d,rfl⟩
theorem Qp {t u:Th}(h:Dr t=false):IT [t,u]=false:=by
 unfold IT
 split
 ·rename_i a x b y e
  cases e
  rw[h];rfl
 ·rfl
theorem Qq {t u:Th}(h:Dr u=false):IT [t,u]=false:=by
 unfold IT
 split
 ·rename_i a x b y e
  cases e
  rw[h,Bool.and_false];rfl
 ·rfl
theorem Qr {i j:Int}{b c:Th}(h1:Dr (.tup [.int i,b])=true)(h2:Dr (.tup [.int j,c])=true):IT [.tup [.int i,b],.tup [.int j,c]]=decide (i≤j):=by
 show(Dr _&&Dr _&&decide (i≤j))=_
 rw[h1,h2];rfl
theorem SB {t u:Th}(h:CQ t=false):Mu [t,u]=false:=by
 unfold Mu
 split
 ·rename_i e
  cases e
  rw[h];rfl
 ·rfl
theorem SC {t u:Th}(h:CQ u=false):Mu [t,u]=false:=by
 unfold Mu
 split
 ·rename_i e
  cases e
  rw[h,Bool.and_false];rfl
 ·rfl
theorem SD {i j i' j':Int}{b c b' c':Th}(h1:CQ (.tup [.int i,.int j,b,c])=true)(h2:CQ (.tup [.int i',.int j',b',c'])=true):Mu [.tup [.int i,.int j,b,c],.tup [.int i',.int j',b',c']]=(decide (i≤i')&&decide (j≤j')):=by
 show(CQ _&&CQ _&&decide (i≤i')&&decide (j≤j'))=_
 rw[h1,h2];rfl
def Xw:Sp:=fun vs H Q _=>∃(v:V) (k:Str) (ts:List Th),vs=[v]∧Al H v (.tup (.str k::ts))∧((k=zS "cell"∧ts.length=2)∨(k=zS "range"∧ts.length=3)∨(k=zS "columns"∧ts.length=3))∧∀ H',AF H H'→Q (.bl (IU k ts)) H'
def V3:Sp:=fun vs H Q _=>∃(v:V) (k:Str) (ts:List Th),vs=[v]∧Al H v (.tup (.str k::ts))∧((k=zS "name"∧ts.length=1)∨(k=zS "own"∧ts.length=2))∧∀ H',AF H H'→Q (.bl (HL k ts)) H'
def V4:Sp:=fun vs H Q _=>∃(v:V) (th:Th) (pr:Int),vs=[v,.int pr]∧Al H v th∧∀ H',AF H H'→Q (.bl (UW pr th)) H'
def Xx:Sp:=fun vs H Q _=>∃(v:V) (th:Th) (pr:Int),vs=[v,.int pr]∧Al H v th∧∀ H',AF H H'→Q (.bl (Cd pr th)) H'
theorem Xy {n:Nat}:decide ((n:Int)≤3)=decide (n≤3):=by
 by_cases h:n≤3
 ·rw[decide_eq_true h,decide_eq_true (by omega)]
 ·rw[decide_eq_false h,decide_eq_false (by omega)]
theorem Xz {pr:Int}:(if(3:Int)<pr then(3:Int)else pr)=min pr 3:=by
 by_cases h:3<pr
 ·rw[if_pos h];omega
 ·rw[if_neg h];omega
theorem A9 {H:Hp}{v:V}{ts:List Th}(h:Al H v (.tup ts)):∃ a us,v=.ref a∧H a=some (.tup us)∧Paired (Al H) us ts:=by
 cases h with
 | tup e hn hh=>exact⟨_,_,rfl,e,Al.toP hn hh⟩
theorem Qs {s c:Th}:IU (zS "cell") [s,c]=(FN s&&CQ c):=by
 show(FN s&&F9 (zS "cell") [c])=_
 unfold F9
 rw[if_neg (by nofun),if_pos rfl]
theorem Oy {s c d:Th}:IU (zS "range") [s,c,d]=(FN s&&Mu [c,d]):=by
 show(FN s&&F9 (zS "range") [c,d])=_
 unfold F9
 rw[if_neg (by nofun),if_neg (by nofun)]
theorem Ln {s c d:Th}:IU (zS "columns") [s,c,d]=(FN s&&IT [c,d]):=by
 show(FN s&&F9 (zS "columns") [c,d])=_
 unfold F9
 rw[if_pos rfl]
theorem Qt {a:Th}:HL (zS "name") [a]=Ek a:=by
 unfold HL
 dsimp only
 rw[if_pos rfl,Bool.and_true]
theorem SE {a b:Th}:HL (zS "own") [a,b]=(Ek a&&(match b with | .tup us=>decide (us.length≤3) | _=>false)):=by
 unfold HL
 dsimp only
 rw[if_neg (by nofun)]
 cases b <;> rfl
theorem Ud {α:Type}{us:List α}(h:us.length=4):∃ a b c d,us=[a,b,c,d]:=match us,h with | [a,b,c,d],_=>⟨a,b,c,d,rfl⟩
theorem Id {pr:Int}{th:Th}(h:Cd pr th=true):∃ k ts,th=.tup (.str k::ts):=by
 cases th with
 | tup ts=>
  cases ts with
  | nil=>cases h
  | cons a ts=>
   cases a with
   | str k=>exact⟨k,ts,rfl⟩
   | _=>cases h
 | _=>cases h
theorem Qu {pr:Int}{k:Str}{ts:List Th}(h:Cd pr (.tup (.str k::ts))=true):((ts.length+1:Nat):Int)=DA k:=by
 have h:(decide (((ts.length+1:Nat):Int)=DA k)&&Bc pr k ts)=true:=h
 rw[Bool.and_eq_true]at h
 exact of_decide_eq_true h.1
theorem V5 {pr:Int}{k:Str}{ts:List Th}(h:Cd pr (.tup (.str k::ts))=true):∀ p∈KN k,p<ts.length+1:=by
 intro p hp
 have hl:=Qu h
 unfold KN at hp
 cases e:UU.find? fun x=>decide (x.1=k)with
 | none=>rw[e]at hp;cases hp
 | some x=>
  rw[e]at hp
  have tab:∀ x∈UU,∀ p∈x.2,(p:Int)<DA x.1:=by nofun
  have hx:=tab x (List.mem_of_find?_eq_some e) p hp
  have hk:x.1=k:=by simpa using List.find?_some e
  rw[hk]at hx
  omega
theorem SF:Wy=UU.map fun x=>((Sum.inr x.1:BY),x.2.map fun p=>V.int (p:Nat)):=rfl
theorem V6 (k:Str):(UO k=none∧KN k=[])∨UO k=some ((KN k).map fun p=>V.int (p:Nat)):=by
 unfold UO KN
 rw[SF,List.find?_map]
 have e:((fun kt:BY×List V=>decide (kt.1=(Sum.inr k:BY)))∘fun x:Str×List Nat=>((Sum.inr x.1:BY),x.2.map fun p=>V.int (p:Nat)))=fun x=>decide (x.1=k):=by
  funext x
  show decide ((Sum.inr x.1:BY)=Sum.inr k)=decide (x.1=k)
  by_cases h:x.1=k
  ·rw[decide_eq_true h,decide_eq_true (by rw[h])]
  ·rw[decide_eq_false h,decide_eq_false fun z=>h (Sum.inr.inj z)]
 rw[e]
 cases h:UU.find? fun x=>decide (x.1=k)with
 | none=>exact .inl ⟨rfl,rfl⟩
 | some x=>exact .inr rfl
theorem N3 {α β:Type}{F:α→β→Prop}{xs:List α}{ys:List β}(d:α)(h:Paired F xs ys):∀{pl:List Nat},(∀ p∈pl,p<xs.length)→Paired F (pl.map fun p=>xs.getD p d) (pl.filterMap fun p=>ys[p]?)
 | [],_=>.nil
 | p::pl,hp=>by
  have h1:=hp p (by simp)
  have e1:xs[p]?=some (xs.getD p d):=by rw[List.getD_eq_getElem?_getD,List.getElem?_eq_getElem h1];rfl
  obtain⟨y,e2,r⟩:=BQ h e1
  rw[List.map_cons,List.filterMap_cons_some e2]
  exact .cons r (N3 d h fun q hq=>hp q (List.mem_cons_of_mem _ hq))
def X0:Sp:=fun vs H Q _=>∃(v:V) (th:Th) (pr:Int),vs=[v]∧Al H v th∧Cd pr th=true∧∀(l:Addr) (us:List V) (H':Hp),H l=none→H' l=some (.lst us)→Paired (Al H') us (Bh th)→AF H H'→Q (.ref l) H'
theorem SG {a:Th}{us:List Th}:Bh (.tup [.str (zS "own"),a,.tup us])=us:=by
 unfold Bh
 dsimp only
 rw[if_pos rfl]
 rfl
theorem Ue {k:Str}{ts:List Th}(h:k≠zS "own"):Bh (.tup (.str k::ts))=(KN k).filterMap fun i=>(Th.str k::ts)[i]?:=by
 unfold Bh
 dsimp only
 rw[if_neg h]
theorem EI {H H':Hp}{us:List V}{ts:List Th}(p:Paired (Al H) us ts)(s:AF H H'):Paired (Al H') us ts:=Paired.imp' (fun _ _ x=>x.same s) p
theorem JJ {H:Hp}{D:Addr}{vs ws us:List V}{ts:List Th}(p:Paired (Al H) us ts)(hD:H D=some (.lst vs)):Paired (Al (upd H D (.lst ws))) us ts:=Paired.imp' (fun _ _ x=>x.updL hD) p
def X1 (n:Nat):Sp:=fun vs H Q _=>∃(v:V) (th:Th) (pr d:Int),vs=[v,.int pr,.int d]∧d=(n:Int)∧Al H v th∧∀ H',AF H H'→Q (.bl (BZ n pr th)) H'
def Uf:Sp:=fun vs H Q _=>∃(v:V) (th:Th) (pr:Int),vs=[v]∧Al H v th∧BZ 8 pr th=true∧∀ H',AF H H'→Q (.int (szN 8 th:Nat)) H'
def Qv (pr:Int)(th:Th):Bool:=BZ 8 pr th&&decide (((szN 8 th:Nat):Int)≤24)
def X2:Sp:=fun vs H Q _=>∃(v:V) (th:Th) (pr:Int),vs=[v,.int pr]∧Al H v th∧∀ H',AF H H'→Q (.bl (Qv pr th)) H'
theorem Qw {n:Nat}{pr:Int}{th:Th}(h:Cd pr th=true):BZ (n+1) pr th=(Bh th).all (BZ n pr):=by rw[BZ,h,Bool.true_and]
theorem Qx {n:Nat}{pr:Int}{th:Th}(h:Cd pr th=false):BZ (n+1) pr th=false:=by rw[BZ,h,Bool.false_and]
def Qy (K:PySem.W.Frag)(P1:Addr):Sp:=fun vs H Q _=>∃(a:Addr) (ns:List Int),vs=[.ref a]∧As K H a (ns.map V.int)∧ns.length≤63∧H P1=some (.tbl #[])∧∀ H',Q (.bl true) H'
theorem Hl {t u:TS}{D:JD}{σ:St}{H:Hp}(J:St→Hp→Prop)(a:∀ N:St→Hp→Prop,(∀ σ' H',J σ' H'→N σ' H')→t { D with nx:=N } σ H)(rest:∀ σ' H',J σ' H'→u D σ' H'):TY t u D σ H:=a _ rest
theorem Qz {W:List Str}{w:Str}(h:w∈W):Fc (.str w) (W.map V.str)=true:=by
 unfold Fc
 rw[List.any_map,List.any_eq_true]
 exact⟨w,h,by simp[Function.comp,J6]⟩
theorem SH {W:List Str}{w:Str}:Fc (.str w) (W.map V.str)=decide (w∈W):=by
 by_cases h:w∈W
 ·rw[Qz h,decide_eq_true h]
 ·rw[decide_eq_false h]
  unfold Fc
  rw[List.any_map,List.any_eq_false]
  intro v hv e
  have:v=w:=by simpa [Function.comp,J6]using e
  exact h (this▸hv)
theorem La.up {pr q:Nat}{l:Lf}(h:La pr l)(hq:pr≤q):La q l:=by
 cases l with
 | par i=>exact⟨h.1,by have:=h.2;show i<q;omega⟩
 | flt z=>exact⟨Nat.le_trans h.1 hq,h.2⟩
 | val v=>exact h
 | cell s c=>exact h
 | rng s c d=>exact h
 | cols s i x j y=>exact h
 | gone=>exact h
 | nam z=>exact h
theorem Q0 {A:Around}{k:Nat}(hr:Bx k A):A.units+5<cLine:=by have:=hr.un;omega
theorem _root_.Fs.KeepX.back {r l:Addr}{H H':Hp}{o:HO}(k:KeepX r H H')(hr:H' r=some o)(h:H' l=none):H l=none:=by
 cases e:H l with
 | none=>rfl
 | some u=>rw[k l u (fun z=>by rw[z,hr]at h;cases h) e]at h;cases h
theorem Q1 {A:Around}(h:A.units+5<cLine):A.units+3<cLine:=Nat.lt_of_le_of_lt (Nat.add_le_add_left (by decide) _) h
theorem V7 {n:Nat}(h:n≤4000):n<sizeLine:=Nat.lt_of_le_of_lt h (by decide)
def MN:List V:=[vS "cell",vS "range",vS "columns"]
def Ie:Th→Bool | .non=>true | _=>false
def Lo:Th→Bool | .tup (.str k::t::_)=>!Fc (.str k) MN||!Ie t | _=>true
def EJ:Nat→Th→Bool
 | 0,_=>true
 | n+1,th=>Lo th&&(Bh th).all (EJ n)
theorem Mw {f g:Th→Bool}:∀{l:List Th},(∀ t∈l,f t=g t)→l.all f=l.all g
 | [],_=>rfl
 | a::l,h=>by rw[List.all_cons,List.all_cons,h a (by simp),Mw fun t ht=>h t (List.mem_cons_of_mem _ ht)]
theorem Q2 {pr:Int}:∀{n:Nat} {th:Th},BZ n pr th=true→EJ (n+1) th=EJ n th
 | 0,_,h=>by cases h
 | n+1,th,h=>by
  show(Lo th&&(Bh th).all (EJ (n+1)))=(Lo th&&(Bh th).all (EJ n))
  rw[Mw fun t ht=>Q2 ((Bt h).2 t ht)]
theorem SI {n:Nat}{pr:Int}{th:Th}(h:BZ (n+1) pr th=true):EJ (n+1) th=(Lo th&&(Bh th).all (EJ (n+1))):=by
 show(Lo th&&(Bh th).all (EJ n))=_
 rw[Mw fun t ht=>(Q2 ((Bt h).2 t ht)).symm]
def Ug:Sp:=fun vs H Q _=>∃(v:V) (th:Th) (pr:Int),vs=[v]∧Al H v th∧BZ 8 pr th=true∧∀(l:Addr) (ws:List V) (gs:List Th) (H':Hp),H' l=some (.lst ws)→ws.length=szN 8 th→Paired (Al H') ws gs→(∀ g∈gs,BZ 8 pr g=true)→gs.all Lo=EJ 8 th→AF H H'→Q (.ref l) H'
theorem TC {α β:Type}{F:α→β→Prop}:∀{xs:List α} {ys:List β},Paired F xs ys→Paired F xs.reverse ys.reverse
 | _,_,.nil=>.nil
 | _,_,.cons r t=>by rw[List.reverse_cons,List.reverse_cons];exact FM (TC t) (.cons r .nil)
theorem X3 (a b c d:Bool):(a&&(b&&(c&&d)))=((a&&c)&&(b&&d)):=by cases a <;> cases b <;> cases c <;> cases d <;> rfl
mutual
def DB:Fm→Bool
 | .lf (.cell none _)=>false
 | .lf (.rng none _ _)=>false
 | .lf (.cols none _ _ _ _)=>false
 | .lf _=>true
 | .nd _ ps=>Mz ps
def Mz:List Fm→Bool
 | []=>true
 | f::fs=>DB f&&Mz fs
end
abbrev El:=Str×Nat×Fm
def V8 (own:Bool)(e:El)(v:V):List V:=if own=true then [.str e.1,.int e.2.1,v]else [.str e.1,v]
def Bl (own:Bool)(H:Hp)(v:V)(e:El):Prop:=∃(a:Addr) (v1:V),v=.ref a∧H a=some (.tup (V8 own e v1))∧CP H v1 e.2.2
theorem Bl.kp {own:Bool}{H H':Hp}{v:V}{e:El}(h:Bl own H v e)(s:Kp H H'):Bl own H' v e:=by
 obtain⟨a,v1,x,y,z⟩:=h
 exact⟨a,v1,x,s _ _ y,z.kp s⟩
structure EX (own:Bool)(e:El):Prop where
 nm:Nm e.1
 rs:R1 e.1=false
 n0:own=false→e.2.1=0
 m3:e.2.1≤3
 fo:FO e.2.1 8 e.2.2
 sz:Ei e.2.2≤24
 td:DB e.2.2=true
inductive Ct where
 | val (v:Vl) | fm (f:Fm)
def Gh (H:Hp)(u:V):Ct→Prop
 | .val v=>∃ q,u=.ref q∧Ff H q v
 | .fm f=>∃ a v1,u=.ref a∧H a=some (.tup [vS "formula",v1])∧CP H v1 f
theorem Gh.kp {H H':Hp}{u:V}{c:Ct}(h:Gh H u c)(s:Kp H H'):Gh H' u c:=by
 cases c with
 | val v=>obtain⟨q,x,y⟩:=h;exact⟨q,x,y.kp s⟩
 | fm f=>obtain⟨a,v1,x,y,z⟩:=h;exact⟨a,v1,x,s _ _ y,z.kp s⟩
def YV:Vl→Prop
 | .num _ _=>True
 | .txt _=>True
 | .tru _=>True
 | _=>False
def KU:Ct→Prop
 | .val v=>Mq v∧YV v
 | .fm f=>FO 0 8 f∧Ei f≤24
abbrev CK:=GS.CK
def V9 (c:CK):List V:=[.str c.1,.int c.2.1,.int c.2.2]
def SJ (zs:List Str)(c:CK):Prop:=c.1∈zs∧Nm c.1∧1≤c.2.1∧c.2.1≤16∧1≤c.2.2∧c.2.2≤8
abbrev Pr:=CK×Ct
def EK (H:Hp)(u:V)(p:Pr):Prop:=∃ a b v1,u=.ref a∧H a=some (.tup [.ref b,v1])∧H b=some (.tup (V9 p.1))∧Gh H v1 p.2
theorem EK.kp {H H':Hp}{u:V}{p:Pr}(h:EK H u p)(s:Kp H H'):EK H' u p:=by
 obtain⟨a,b,v1,x,y,z,w⟩:=h
 exact⟨a,b,v1,x,s _ _ y,s _ _ z,w.kp s⟩
def Cy (zs:List Str):Prop:=1≤zs.length∧zs.length≤4∧zs.Nodup∧∀ z∈zs,Nm z
theorem Lp:∀{fs:List Fm},Mz fs=true→∀ g∈fs,DB g=true
 | [],_,g,h=>nomatch h
 | f::fs,h,g,hg=>by
  rw[Mz,Bool.and_eq_true]at h
  rcases List.mem_cons.mp hg with e | e
  ·rw[e];exact h.1
  ·exact Lp h.2 g e
def Em (H:Hp)(v f:V):Prop:=∃(b:Addr) (r:List V),v=.ref b∧H b=some (.tup (f::r))
def WA (H:Hp)(v:V)(z:Str):Prop:=Em H v (.str z)
theorem Bl.fst {own:Bool}{H:Hp}{v:V}{e:El}(h:Bl own H v e):Em H v (.str e.1):=by
 obtain⟨a,v1,x,y,z⟩:=h
 cases own with
 | true=>exact⟨a,_,x,y⟩
 | false=>exact⟨a,_,x,y⟩
theorem Bl.hd {own:Bool}{H:Hp}{v:V}{e:El}(h:Bl own H v e):WA H v e.1:=h.fst
def Fj (zs:List Str)(cs:List Pr):Prop:=cs.length≤60∧(cs.map (·.1)).Nodup∧∀ p∈cs,SJ zs p.1∧KU p.2
def Q3 (own:Bool):Nat:=if own=true then 6 else 8
def Cm (own:Bool)(es:List El):Prop:=es.length≤Q3 own∧(es.map (·.1)).Nodup∧∀ e∈es,EX own e
theorem M0 {c d:CK}(h:GS.ckK c=GS.ckK d):c=d:=by
 obtain⟨a,b,e⟩:=c
 obtain⟨f,g,i⟩:=d
 simp[GS.ckK]at h
 rw[h.1,h.2.1,h.2.2]
def Q4 (f:Int→Th→Bool):Sp:=fun vs H Q _=>∃(v:V) (th:Th) (m:Int),vs=[v,.int m]∧Al H v th∧∀ H',AF H H'→Q (.bl (f m th)) H'
def JK (m:Int):Th→Bool | .tup ts=>decide ((ts.length:Int)=m) | _=>false
def SK (m:Int):Th→Bool | .int i=>decide (0≤i)&&decide (i≤m) | _=>false
def Yo:Th→Bool | .tup (.str k::_)=>!decide (k=zS "none")&&!decide (k=zS "fault") | _=>false
def X4:Th→Bool | .tup [.str k,f]=>decide (k=zS "formula")&&Qv 0 f | _=>false
def En (th:Th):Bool:=if EY th=true then Yo th else X4 th
def RL (pr:Int)(th:Th):Bool:=Qv pr th&&EJ 8 th
def YW (zs:List Str):Th→Bool | .tup (.str z::_)=>decide (z∈zs) | _=>false
def Kl (zs:List Str):Th→Bool | .tup [c,x]=>FU c&&YW zs c&&En x | _=>false
def JB:Th→Bool | .tup [n,f]=>Ek n&&RL 0 f | _=>false
def JC:Th→Bool | .tup [n,.int i,f]=>Ek n&&SK 3 (.int i)&&RL i f | _=>false
def WB:Sp:=fun vs H Q _=>∃(v:V) (th:Th) (pr:Int),vs=[v]∧Al H v th∧BZ 8 pr th=true∧∀ H',AF H H'→Q (.bl (EJ 8 th)) H'
def WC:Sp:=fun vs H Q _=>∃(v:V) (th:Th) (sa:Addr) (zs:List Str),vs=[v,.ref sa]∧Al H v th∧H sa=some (.lst (zs.map V.str))∧∀ H',AF H H'→Q (.bl (Kl zs th)) H'
def W0:Th→Bool | .lst=>false | .tup _=>false | _=>true
abbrev Rw:=Option (List Th)
def BU (H:Hp)(v:V):Rw→Prop
 | none=>∃ th,Al H v th∧W0 th=true
 | some ts=>∃ a us,v=.ref a∧H a=some (.lst us)∧Paired (Al H) us ts
theorem BU.same {H H':Hp}{v:V}{r:Rw}(h:BU H v r)(s:AF H H'):BU H' v r:=by
 cases r with
 | none=>obtain⟨th,a,b⟩:=h;exact⟨th,a.same s,b⟩
 | some ts=>obtain⟨a,us,x,y,z⟩:=h;exact⟨a,us,x,s _ _ y,EI z s⟩
def KW (m:Int):Rw→Bool
 | none=>false
 | some ts=>decide ((ts.length:Int)≤m)
def WD:Sp:=fun vs H Q _=>∃(v:V) (r:Rw) (m:Int),vs=[v,.int m]∧BU H v r∧∀ H',AF H H'→Q (.bl (KW m r)) H'
def FX:Th→Str | .str z=>z | _=>Str.empty
def Lq:Th→CK | .tup (.tup [.str z,.int r,.int c]::_)=>(z,r,c) | _=>(Str.empty,0,0)
def Lr:Th→Str | .tup (.str z::_)=>z | _=>Str.empty
def Ds {α:Type}[DecidableEq α](l:List α):Bool:=decide ((TSt.dd l).length=l.length)
def RM:Rw→Bool
 | none=>false
 | some ts=>decide ((ts.length:Int)≤4)&&!decide (ts.length=0)&&ts.all B4&&Ds (ts.map FX)
def O8 (zs:List Str):Rw→Bool
 | none=>false
 | some ts=>decide ((ts.length:Int)≤60)&&ts.all (Kl zs)&&Ds (ts.map Lq)
def Jr (f:Th→Bool)(m:Int):Rw→Bool
 | none=>false
 | some ts=>decide ((ts.length:Int)≤m)&&ts.all f&&Ds (ts.map Lr)
def X5:Sp:=fun vs H Q _=>∃(v:V) (r:Rw),vs=[v]∧BU H v r∧∀ H',AF H H'→Q (.bl (RM r)) H'
def X6:Sp:=fun vs H Q _=>∃(v:V) (r:Rw) (sa:Addr) (zs:List Str),vs=[v,.ref sa]∧BU H v r∧H sa=some (.lst (zs.map V.str))∧∀ H',AF H H'→Q (.bl (O8 zs r)) H'
def WE (f:Th→Bool)(m:Int):Sp:=fun vs H Q _=>∃(v:V) (r:Rw),vs=[v]∧BU H v r∧∀ H',AF H H'→Q (.bl (Jr f m r)) H'
def Yp (H:Hp)(fs:List V)(b:Bool):Prop:=(∃ zs:List Str,fs=zs.map V.str∧b=Ds zs)∨∃ cs:List CK,Paired (fun v c=>∃ b,v=.ref b∧H b=some (.tup (V9 c))) fs cs∧b=Ds cs
def WF:Sp:=fun vs H Q _=>∃(a:Addr) (us fs:List V) (b:Bool),vs=[.ref a]∧H a=some (.lst us)∧Paired (Em H) us fs∧Yp H fs b∧us.length≤60∧∀ H',AF H H'→Q (.bl b) H'
theorem Q5 {α β:Type}[DecidableEq α][DecidableEq β]{f:α→β}(hf:∀ a b,f a=f b→a=b):∀(n:Nat) (l:List α),l.length=n→TSt.dd (l.map f)=(TSt.dd l).map f
 | 0,l,h=>by rw[List.length_eq_zero_iff.mp h];rfl
 | n+1,l,h=>by
  obtain⟨m,y,rfl⟩:∃ m y,l=m++[y]:=by
   have:l≠[]:=fun z=>by rw[z]at h;cases h
   exact⟨l.dropLast,l.getLast this,(List.dropLast_concat_getLast this).symm⟩
  have ih:=Q5 hf n m (by rw[List.length_append]at h;exact Nat.succ.inj h)
  rw[List.map_append,List.map_cons,List.map_nil,TSt.dd_snoc,TSt.dd_snoc,ih]
  have e:f y∈(TSt.dd m).map f↔y∈TSt.dd m:=⟨fun z=>by obtain⟨x,hx,hy⟩:=List.mem_map.mp z;rw[← hf _ _ hy];exact hx,fun z=>List.mem_map.mpr ⟨y,z,rfl⟩⟩
  by_cases c:y∈TSt.dd m
  ·rw[if_pos c,if_pos (e.mpr c)]
  ·rw[if_neg c,if_neg fun z=>c (e.mp z),List.map_append];rfl
theorem Ls {K:PySem.W.Frag}{t:String}(h1:PySem.W.kitOne K (.type t) (.type "list")=some false)(h2:PySem.W.kitOne K (.type t) (.type "tuple")=some false):PySem.W.kitAny K (.type t) [.type "list",.type "tuple"]=some false:=by
 unfold PySem.W.kitAny
 rw[h1]
 show PySem.W.kitAny K (.type t) [.type "tuple"]=_
 unfold PySem.W.kitAny
 rw[h2]
 rfl
theorem WG {K:PySem.W.Frag}:PySem.W.kitAny K (.type "list") [.type "list",.type "tuple"]=some true:=by
 unfold PySem.W.kitAny
 simp[PySem.W.kitOne]
theorem Uh {H:Hp}{v:V}{th:Th}(h:Al H v th)(hn:W0 th=true):S3 th="NoneType"∨S3 th="bool"∨S3 th="int"∨S3 th="str"∨S3 th="dict":=by
 cases h with
 | non=>exact .inl rfl
 | bl b=>exact .inr (.inl rfl)
 | int i=>exact .inr (.inr (.inl rfl))
 | str z hz=>exact .inr (.inr (.inr (.inl rfl)))
 | lst e=>cases hn
 | dic e=>exact .inr (.inr (.inr (.inr rfl)))
 | tup e _ _=>cases hn
theorem SM {H:Hp}{v:V}{zs:List Str}{th:Th}(h:Al H v th)(c:Kl zs th=true):∃ b,Em H v (.ref b)∧H b=some (.tup (V9 (Lq th))):=by
 unfold Kl at c
 split at c
 ·rename_i t x
  rw[Bool.and_eq_true,Bool.and_eq_true]at c
  obtain⟨⟨c1,_⟩,_⟩:=c
  obtain⟨a,us,rfl,e,p⟩:=A9 h
  unfold FU at c1
  split at c1
  ·rename_i t0 t1 t2 hq
   rw[Bool.and_eq_true,Bool.and_eq_true]at c1
   obtain⟨⟨n0,n1⟩,n2⟩:=c1
   cases t0 with
   | str z=>
    cases t1 with
    | int r=>
     cases t2 with
     | int c=>
      cases p with | cons p0 p=>
      obtain⟨b,us2,rfl,e2,p2⟩:=A9 p0
      cases p2 with | cons q0 p2=>cases p2 with | cons q1 p2=>cases p2 with | cons q2 p2=>cases p2 with | nil=>
      cases q0;cases q1;cases q2
      exact⟨b,⟨a,_,rfl,e⟩,e2⟩
     | _=>cases n2
    | _=>cases n1
   | _=>cases n0
  ·cases c1
 ·cases c
theorem N4 {H:Hp}{v:V}{f:Th→Bool}{th:Th}(hf:∀ th,f th=true→∃ z r,th=.tup (.str z::r))(h:Al H v th)(c:f th=true):Em H v (.str (Lr th)):=by
 obtain⟨z,r,rfl⟩:=hf th c
 obtain⟨a,us,rfl,e,p⟩:=A9 h
 cases p with | cons p0 p=>
 cases p0
 exact⟨a,_,rfl,e⟩
theorem Ui (th:Th)(c:JB th=true):∃ z r,th=.tup (.str z::r):=by
 unfold JB at c
 split at c
 ·rename_i n f
  rw[Bool.and_eq_true]at c
  cases n with
  | str z=>exact⟨z,_,rfl⟩
  | _=>cases c.1
 ·cases c
theorem Uj (th:Th)(c:JC th=true):∃ z r,th=.tup (.str z::r):=by
 unfold JC at c
 split at c
 ·rename_i n i f
  rw[Bool.and_eq_true,Bool.and_eq_true]at c
  cases n with
  | str z=>exact⟨z,_,rfl⟩
  | _=>cases c.1.1
 ·cases c
theorem SN {α:Type}{H:Hp}{G:V→α→Prop}{key:Th→α}{f:Th→Bool}{g:α→V}:∀{us:List V} {ts:List Th},Paired (Al H) us ts→(∀ t∈ts,f t=true)→(∀ v t,Al H v t→f t=true→∃ x,Em H v x∧G x (key t))→∃ fs,Paired (Em H) us fs∧Paired G fs (ts.map key)
 | _,_,.nil,_,_=>⟨[],.nil,.nil⟩
 | _,_,.cons r t,h,k=>by
  obtain⟨x,a,b⟩:=k _ _ r (h _ (by simp))
  obtain⟨fs,c,d⟩:=SN (g:=g) t (fun t ht=>h t (List.mem_cons_of_mem _ ht)) k
  exact⟨x::fs,.cons a c,.cons b d⟩
theorem Uk {H:Hp}:∀{us:List V} {ts:List Th},Paired (Al H) us ts→(∀ t∈ts,B4 t=true)→us=(ts.map FX).map V.str
 | _,_,.nil,_=>rfl
 | _,t::ts,.cons r p,h=>by
  have:=h t (by simp)
  cases t with
  | str z=>cases r;rw[Uk p fun t ht=>h t (List.mem_cons_of_mem _ ht)];rfl
  | _=>cases this
theorem Q6:∀{fs:List V} {zs:List Str},Paired (fun v z=>v=V.str z) fs zs→fs=zs.map V.str
 | _,_,.nil=>rfl
 | _,_,.cons r t=>by rw[r,Q6 t];rfl
theorem SO {X:Cx}{scope:Scope}{cl:List (Str×Addr)}{C:Addr}{N:List Str}{s₀:Shared}{H₀:Hp}{ex:List Addr}{pn:List (Addr×Obj)}:FS (B5 X scope cl C N s₀ H₀ ex pn) (compareOp .In) (XU X.K false):=E8
def YX (H:Hp)(u:V)(b:Bool):Prop:=∃(a:Addr) (k:Str) (t:V) (r:List V),u=.ref a∧H a=some (.tup (.str k::t::r))∧(b=!decide (t=.non))∧(t=.non∨∃ z,t=.str z)
theorem KY {a b:Str}(h:J6 (.str a) (.str b)=true):b=a:=by
 simp[J6]at h
 exact h.symm
theorem SQ {pr:Int}{k:Str}{ts:List Th}(h:Cd pr (.tup (.str k::ts))=true)(hb:Fc (.str k) MN=true):∃ t r,ts=t::r∧(t=.non∨∃ z,t=.str z):=by
 have h:=Os h
 have hk:IU k ts=true:=by
  unfold Bc at h
  have hv:k≠zS "value":=fun z=>by subst z;exact absurd hb (by nofun)
  rw[if_neg hv]at h
  by_cases c1:k=zS "cell"
  ·rw[if_pos c1]at h;exact h
  rw[if_neg c1]at h
  by_cases c2:k=zS "range"
  ·rw[if_pos c2]at h;exact h
  rw[if_neg c2]at h
  by_cases c3:k=zS "columns"
  ·rw[if_pos c3]at h;exact h
  exfalso
  unfold Fc MN at hb
  simp at hb
  rcases hb with z | z | z
  ·exact c1 (KY z)
  ·exact c2 (KY z)
  ·exact c3 (KY z)
 cases ts with
 | nil=>cases hk
 | cons t r=>
  have hk:(FN t&&F9 k r)=true:=hk
  rw[Bool.and_eq_true]at hk
  refine⟨t,r,rfl,?_⟩
  cases t with
  | non=>exact .inl rfl
  | str z=>exact .inr ⟨z,rfl⟩
  | _=>cases hk.1
theorem GH {m:Nat}{th:Th}(h:JK (m:Int) th=true):∃ ts,th=.tup ts∧ts.length=m:=by
 cases th with
 | tup ts=>exact⟨ts,rfl,by have:=of_decide_eq_true (show decide ((ts.length:Int)=(m:Int))=true from h);omega⟩
 | _=>cases h
theorem WH {th:Th}(h:JK 2 th=false):JB th=false:=by
 unfold JB
 split
 ·cases h
 ·rfl
theorem WI {th:Th}(h:JK 3 th=false):JC th=false:=by
 unfold JC
 split
 ·cases h
 ·rfl
theorem WJ {zs:List Str}{th:Th}(h:JK 2 th=false):Kl zs th=false:=by
 unfold Kl
 split
 ·cases h
 ·rfl
theorem WK {th:Th}(h:JK 2 th=false):X4 th=false:=by
 unfold X4
 split
 ·cases h
 ·rfl
theorem TD {z y:Str}:V.bl (!decide (V.str z=V.str y))=V.bl (!decide (z=y)):=by
 have:=US (z:=z) (y:=y)
 injection this with this
 rw[this]
theorem SR {th:Th}(h:EY th=true):∃ k ts,th=.tup (.str k::ts):=by
 unfold EY at h
 split at h
 ·exact⟨_,_,rfl⟩
 ·cases h
theorem M1 {α:Type}[DecidableEq α]{l:List α}{n:Nat}(h:l.length=n):decide (V.int ((TSt.dd l).length:Int)=V.int (n:Int))=Ds l:=by
 unfold Ds
 by_cases c:(TSt.dd l).length=l.length
 ·rw[decide_eq_true c,decide_eq_true (by rw[c,h])]
 ·rw[decide_eq_false c,decide_eq_false fun z=>c (by injection z with z;omega)]
theorem N5 {α β γ:Type}{F:α→β→Prop}{f:β→γ}:∀{xs:List α} {ys:List β},Paired F xs ys→(xs.zip (ys.map f)).map (·.1)=xs∧(xs.zip (ys.map f)).map (·.2)=ys.map f∧(xs.zip (ys.map f)).length=ys.length
 | _,_,.nil=>⟨rfl,rfl,rfl⟩
 | x::xs,y::ys,.cons _ t=>by
  obtain⟨a,b,c⟩:=N5 (f:=f) t
  refine⟨?_,?_,?_⟩
  ·rw[List.map_cons,List.zip_cons_cons,List.map_cons,a]
  ·rw[List.map_cons,List.zip_cons_cons,List.map_cons,b]
  ·rw[List.map_cons,List.zip_cons_cons,List.length_cons,c];rfl
theorem KZ {α β γ:Type}{F:α→β→Prop}{f:β→γ}{p:α×γ}:∀{xs:List α} {ys:List β},Paired F xs ys→p∈xs.zip (ys.map f)→∃ y∈ys,F p.1 y∧f y=p.2
 | _,_,.nil,h=>by simp at h
 | x::xs,y::ys,.cons r t,h=>by
  rw[List.map_cons,List.zip_cons_cons]at h
  rcases List.mem_cons.mp h with e | h
  ·rw[e];exact⟨y,by simp,r,rfl⟩
  ·obtain⟨z,a,b⟩:=KZ t h
   exact⟨z,List.mem_cons_of_mem _ a,b⟩
theorem TF {α β γ:Type}{F:α→γ→Prop}{f:β→γ}:∀{xs:List α} {ys:List β},Paired (fun x y=>F x (f y)) xs ys→Paired F xs (ys.map f)
 | _,_,.nil=>.nil
 | _,_,.cons r t=>.cons r (TF t)
theorem X7 {n m:Nat}(h:n=m):decide (V.int (n:Int)=V.int 0)=decide (m=0):=by
 subst h
 by_cases c:n=0
 ·rw[decide_eq_true c,decide_eq_true (by rw[c];rfl)]
 ·rw[decide_eq_false c,decide_eq_false fun z=>c (by injection z with z;omega)]
def WL (H:Hp)(v:V)(c:CK):Prop:=∃ b:Addr,Em H v (.ref b)∧H b=some (.tup (V9 c))
theorem EK.hd {H:Hp}{u:V}{p:Pr}(h:EK H u p):WL H u p.1:=by
 obtain⟨a,b,v1,x,y,z,w⟩:=h
 exact⟨b,⟨a,_,x,y⟩,z⟩
def qS:Str:=Str.ofString "sorted_by_first"++Str.ofString ".<locals>."++Str.ofString "<lambda>"
def X8 {α:Type}(lt:α→α→Bool)(Hd:Hp→V→α→Prop)(P:Addr)(a:Addr)(H:Hp)(Q:VK):Prop:=∃(b:Bool) (ps:List (V×α)),H a=some (Wx b (ps.map (·.1)))∧ps.length<64∧(ps.map (·.2)).Nodup∧(∀ p∈ps,Hd H p.1 p.2)∧
 ∀(c:Addr) (qs:List (V×α)) (H':Hp),(∀ p∈qs,p∈ps)→(qs.map (·.2)).Perm (ps.map (·.2))→(qs.map (·.2)).Pairwise (fun p q=>lt q p=false)→H' c=some (.tup (qs.map (·.1)))→KeepX P H H'→Bw H' P qS→Q (.ref c) H'
def WM (P:Addr):Sp:=fun vs H Q _=>∃ a:Addr,vs=[.ref a]∧Bw H P qS∧(X8 KSt.slt WA P a H Q∨X8 GS.clt WL P a H Q)
structure Oz {α β:Type}(lt:α→α→Bool)(key:β→α)(es ns:List β):Prop where
 sub:∀ e∈es,e∈ns
 perm:(es.map key).Perm (ns.map key)
 rise:(es.map key).Pairwise fun p q=>lt q p=false
theorem Js {α:Type}{lt:α→α→Bool}(as:∀ a b,lt a b=false→lt b a=false→a=b):∀{l m:List α},l.Perm m→l.Pairwise (fun p q=>lt q p=false)→m.Pairwise (fun p q=>lt q p=false)→l=m
 | [],m,h,_,_=>(List.nil_perm.mp h).symm
 | x::l,[],h,_,_=>absurd h.length_eq (by simp)
 | x::l,y::m,h,h1,h2=>by
  rw[List.pairwise_cons]at h1 h2
  have e:x=y:=by
   rcases List.mem_cons.mp (h.subset (List.mem_cons_self ..))with e | hx
   ·exact e
   rcases List.mem_cons.mp (h.symm.subset (List.mem_cons_self ..))with e | hy
   ·exact e.symm
   exact as x y (h2.1 x hx) (h1.1 y hy)
  subst e
  rw[Js as (List.Perm.cons_inv h) h1.2 h2.2]
theorem N6 {α β:Type}{key:β→α}:∀{ns:List β},(ns.map key).Nodup→∀{a b:β},a∈ns→b∈ns→key a=key b→a=b
 | [],_,_,_,h,_,_=>nomatch h
 | n::ns,h,a,b,ha,hb,e=>by
  rw[List.map_cons,List.nodup_cons]at h
  rcases List.mem_cons.mp ha with ra | ha
  ·rcases List.mem_cons.mp hb with rb | hb
   ·rw[ra,rb]
   ·exact absurd (List.mem_map.mpr ⟨b,hb,by rw[← e,ra]⟩) h.1
  ·rcases List.mem_cons.mp hb with rb | hb
   ·exact absurd (List.mem_map.mpr ⟨a,ha,by rw[e,rb]⟩) h.1
   ·exact N6 h.2 ha hb e
theorem Lu {α β:Type}{key:β→α}{ns:List β}(nd:(ns.map key).Nodup):∀{es es':List β},(∀ e∈es,e∈ns)→(∀ e∈es',e∈ns)→es.map key=es'.map key→es=es'
 | [],[],_,_,_=>rfl
 | [],_::_,_,_,h=>by cases h
 | _::_,[],_,_,h=>by cases h
 | e::es,e'::es',h1,h2,h=>by
  rw[List.map_cons,List.map_cons]at h
  injection h with k1 k2
  rw[N6 nd (h1 e (by simp)) (h2 e' (by simp)) k1,Lu nd (fun x hx=>h1 x (List.mem_cons_of_mem _ hx)) (fun x hx=>h2 x (List.mem_cons_of_mem _ hx)) k2]
theorem Oz.uniq {α β:Type}{lt:α→α→Bool}{key:β→α}{es es' ns ms:List β}(as:∀ a b,lt a b=false→lt b a=false→a=b)(nd:(ns.map key).Nodup)(mm:∀ e∈ms,e∈ns)(pm:(ms.map key).Perm (ns.map key))(a:Oz lt key es ns)(b:Oz lt key es' ms):es=es':=
 Lu nd a.sub (fun e he=>mm e (b.sub e he)) (Js as (a.perm.trans (b.perm.trans pm).symm) a.rise b.rise)
abbrev WN:=Oz GS.clt (fun(p:Pr)=>p.1)
abbrev Ul:=Oz KSt.slt (fun(e:El)=>e.1)
def Ig (H:Hp)(b:Addr)(zs:List Str)(cs:List Pr)(ns os:List El)(r:Int):Prop:=∃(t1 t2 t3 t4:Addr) (xs us ws:List V),H b=some (.tup [.ref t1,.ref t2,.ref t3,.ref t4,.int r])∧H t1=some (.tup (zs.map V.str))∧H t2=some (.tup xs)∧H t3=some (.tup us)∧H t4=some (.tup ws)∧Paired (EK H) xs cs∧Paired (Bl false H) us ns∧Paired (Bl true H) ws os
theorem Ig.kp {H H':Hp}{b:Addr}{zs:List Str}{cs:List Pr}{ns os:List El}{r:Int}(h:Ig H b zs cs ns os r)(s:Kp H H'):Ig H' b zs cs ns os r:=by
 obtain⟨t1,t2,t3,t4,xs,us,ws,a,c,d,e,f,g,i,j⟩:=h
 exact⟨t1,t2,t3,t4,xs,us,ws,s _ _ a,s _ _ c,s _ _ d,s _ _ e,s _ _ f,Paired.imp' (fun _ _ x=>x.kp s) g,Paired.imp' (fun _ _ x=>x.kp s) i,Paired.imp' (fun _ _ x=>x.kp s) j⟩
def WO (P:Addr):Sp:=fun vs H Q _=>∃(a c n o:Addr) (xs us ws:List V) (zs:List Str) (cs:List Pr) (ns os:List El) (r:Int),vs=[.ref a,.ref c,.ref n,.ref o,.int r]∧H a=some (.lst (zs.map V.str))∧H c=some (.lst xs)∧H n=some (.lst us)∧H o=some (.lst ws)∧Paired (EK H) xs cs∧Paired (Bl false H) us ns∧Paired (Bl true H) ws os∧Cy zs∧Fj zs cs∧Cm false ns∧Cm true os∧0≤r∧r≤4∧Bw H P qS∧
 ∀(b:Addr) (cs':List Pr) (ns' os':List El) (H':Hp),Ig H' b zs cs' ns' os' r→WN cs' cs→Ul ns' ns→Ul os' os→KeepX P H H'→Bw H' P qS→Q (.ref b) H'
theorem Q7 {α β:Type}{lt:α→α→Bool}{key:β→α}{F:V→β→Prop}{us:List V}{ns:List β}(h:Paired F us ns):∀{qs:List (V×α)},(∀ p∈qs,p∈us.zip (ns.map key))→∃ ns':List β,Paired F (qs.map (·.1)) ns'∧(∀ e∈ns',e∈ns)∧ns'.map key=qs.map (·.2)
 | [],_=>⟨[],.nil,(fun _ h=>nomatch h),rfl⟩
 | q::qs,hq=>by
  obtain⟨e,he,x,y⟩:=KZ h (hq q (by simp))
  obtain⟨ns',a,b,c⟩:=Q7 (lt:=lt) h (qs:=qs) fun p hp=>hq p (List.mem_cons_of_mem _ hp)
  exact⟨e::ns',.cons x a,fun z hz=>(List.mem_cons.mp hz).elim (fun w=>w▸he) (b z),by rw[List.map_cons,List.map_cons,c,y]⟩
theorem Lv {X:Cx}:DD X (.type "tuple") (fun xs H Q=>∃(p:Addr) (b:Bool) (ys:List V),xs=[.ref p]∧H p=some (Wx b ys)∧∀(t:Addr) (H5:Hp),AF H H5→H5 t=some (.tup ys)→Q (.ref t) H5):=by
 intro pins s σ H xs us Q I r h
 obtain⟨p,b,ys,rfl,ha,k⟩:=h
 cases b with
 | true=>exact Dd pins s σ H _ us Q I r ⟨p,ys,rfl,.inl ⟨As.of ha,fun l hl=>k l _ (AF.new hl) AE⟩⟩
 | false=>exact Dd pins s σ H _ us Q I r ⟨p,ys,rfl,.inr ⟨A0.of ha,k p H (AF.refl _) ha⟩⟩
theorem M3 {α β:Type}{lt:α→α→Bool}{Hd:Hp→V→α→Prop}{key:β→α}{F:Hp→V→β→Prop}{P a:Addr}{b:Bool}{us:List V}{ns:List β}{H:Hp}{Q:VK}(ha:H a=some (Wx b us))(hp:Paired (F H) us ns)(hd:∀{v e},F H v e→Hd H v (key e))(h64:ns.length<64)(nd:(ns.map key).Nodup)
 (k:∀(c:Addr) (xs:List V) (ns':List β) (H':Hp),Paired (F H) xs ns'→Oz lt key ns' ns→H' c=some (.tup xs)→KeepX P H H'→Bw H' P qS→Q (.ref c) H'):X8 lt Hd P a H Q:=by
 obtain⟨z1,z2,z3⟩:=N5 (f:=key) hp
 refine⟨b,us.zip (ns.map key),by rw[z1];exact ha,by rw[z3];exact h64,by rw[z2];exact nd,fun p hm=>?_,fun c qs H' m1 m2 m3 oc kx tb=>?_⟩
 ·obtain⟨e,_,x,y⟩:=KZ hp hm
  rw[← y]
  exact hd x
 ·obtain⟨ns',na,nb,nc⟩:=Q7 (lt:=lt) (key:=key) hp m1
  exact k c _ ns' H' na ⟨nb,by rw[nc,← z2];exact m2,by rw[nc];exact m3⟩ oc kx tb
theorem N7 {pr:Nat}{f:Fm}{q:Int}(fo:FO pr 8 f)(sz:(Ei f:Int)≤24)(hq:(pr:Int)≤q)(h3:pr≤3):Qv q (Ec f)=true:=by
 unfold Qv
 rw[fo.tree hq h3,fo.szN,decide_eq_true sz]
 rfl
theorem N8 {w:Str}{t:Th}{r:List Th}(e:Fc (.str w) MN=false):Lo (.tup (.str w::t::r))=true:=by
 show(!Fc (.str w) MN||!Ie t)=true
 rw[e]
 rfl
theorem Um {k:Kd}{m:Nat}(ok:Gd k m){ts:List Th}:Lo (.tup (Qh k ts))=true:=by
 have h:∀{w:Str} {r:List Th},Fc (.str w) MN=false→Lo (.tup (.str w::r))=true:=fun {w r} e=>by
  cases r with
  | nil=>rfl
  | cons t r=>show(!Fc (.str w) MN||!Ie t)=true;rw[e];rfl
 cases k with
 | op z=>exact h (by nofun)
 | neg=>exact h (by nofun)
 | own z=>exact h (by nofun)
 | sumif z=>exact h (by nofun)
 | grid a b=>exact h (by nofun)
 | wd z=>
  have:∀ x∈Kk,Fc (.str x.1) MN=false:=by nofun
  exact h (this _ (show(z,m)∈Kk from ok))
theorem FO.tld {pr n:Nat}{f:Fm}(fo:FO pr n f):DB f=true→EJ n (Ec f)=true:=by
 induction fo with
 | @lf n l h=>
  intro tl
  show(Lo (Ec (.lf l))&&(Bh (Ec (.lf l))).all (EJ n))=true
  rw[Ec,IY,List.all_nil,Bool.and_true]
  cases l with
  | cell s c=>
   cases s with
   | none=>rw[DB]at tl;cases tl
   | some z=>rfl
  | rng s c d=>
   cases s with
   | none=>rw[DB]at tl;cases tl
   | some z=>rfl
  | cols s i x j y=>
   cases s with
   | none=>rw[DB]at tl;cases tl
   | some z=>rfl
  | val v=>exact N8 (w:=zS "value") (by nofun)
  | gone=>rfl
  | nam z=>exact N8 (w:=zS "name") (by nofun)
  | par i=>exact N8 (w:=zS "param") (by nofun)
  | flt z=>exact N8 (w:=zS "fault") (by nofun)
 | @nd n k ps ok hp ih=>
  intro tl
  have okt:Gd k (Li ps).length:=by rw[Hj];exact ok
  rw[DB]at tl
  show(Lo (Ec (.nd k ps))&&(Bh (Ec (.nd k ps))).all (EJ n))=true
  rw[Ec,IZ okt,Um ok,Bool.true_and,List.all_eq_true]
  intro t ht
  obtain⟨g,hg,rfl⟩:=KS ht
  exact ih g hg (Lp tl g hg)
def W1:Ct→Th
 | .val v=>KM v
 | .fm f=>.tup [.str (zS "formula"),Ec f]
def JL (p:Pr):Th:=.tup [.tup [.str p.1.1,.int p.1.2.1,.int p.1.2.2],W1 p.2]
def M4 (own:Bool)(e:El):Th:=if own=true then .tup [.str e.1,.int (e.2.1:Nat),Ec e.2.2]else .tup [.str e.1,Ec e.2.2]
theorem Gh.th {H:Hp}{u:V}{c:Ct}(ok:KU c)(h:Gh H u c):Al H u (W1 c):=by
 cases c with
 | val v=>obtain⟨q,rfl,y⟩:=h;exact Ff.th ok.1 y
 | fm f=>obtain⟨a,v1,rfl,x,y⟩:=h;exact .ofP x (.cons (sL _) (.cons (CP.th ok.1 y) .nil))
theorem O0 {c:Ct}(ok:KU c):En (W1 c)=true:=by
 cases c with
 | val v=>
  show En (KM v)=true
  unfold En
  rw[if_pos (Lg ok.1)]
  cases v with
  | none=>exact ok.2.elim
  | flt _ _ _ _=>exact ok.2.elim
  | num t b=>exact(by nofun:(!decide (zS "number"=zS "none")&&!decide (zS "number"=zS "fault"))=true)
  | txt z=>exact(by nofun:(!decide (zS "text"=zS "none")&&!decide (zS "text"=zS "fault"))=true)
  | tru b=>exact(by nofun:(!decide (zS "truth"=zS "none")&&!decide (zS "truth"=zS "fault"))=true)
 | fm f=>
  have e:EY (.tup [.str (zS "formula"),Ec f])=false:=by
   show Cw (zS "formula") [Ec f]=false
   unfold Cw
   rw[if_neg (by nofun),if_neg (by nofun),if_neg (by nofun),if_neg (by nofun),if_neg (by nofun)]
  show En (.tup [.str (zS "formula"),Ec f])=true
  unfold En
  rw[e,if_neg (by decide)]
  show(decide (zS "formula"=zS "formula")&&Qv 0 (Ec f))=true
  rw[decide_eq_true rfl,N7 ok.1 (by have:=ok.2;omega) (by omega) (by decide)]
  rfl
theorem EK.th {H:Hp}{u:V}{p:Pr}{zs:List Str}(ck:SJ zs p.1)(ok:KU p.2)(h:EK H u p):Al H u (JL p):=by
 obtain⟨a,b,v1,rfl,x,y,z⟩:=h
 exact .ofP x (.cons (.ofP y (.cons (.str _ (Nat.le_trans ck.2.1.hi (by decide))) (.cons (.int _) (.cons (.int _) .nil)))) (.cons (z.th ok) .nil))
theorem SS {p:Pr}{zs:List Str}(ck:SJ zs p.1)(ok:KU p.2):Kl zs (JL p)=true:=by
 show((B4 (.str p.1.1)&&Bb 16 (.int p.1.2.1)&&Bb 8 (.int p.1.2.2))&&decide (p.1.1∈zs)&&En (W1 p.2))=true
 obtain⟨a,b,c,d,e,f⟩:=ck
 rw[FE b,CI c d,CI e f,decide_eq_true a,O0 ok]
 rfl
theorem Bl.th {own:Bool}{H:Hp}{u:V}{e:El}(ok:EX own e)(h:Bl own H u e):Al H u (M4 own e):=by
 obtain⟨a,v1,rfl,x,y⟩:=h
 have hs:Al H (.str e.1) (.str e.1):=.str _ (Nat.le_trans ok.nm.hi (by decide))
 cases own with
 | true=>exact .ofP (us:=[.str e.1,.int e.2.1,v1]) x (.cons hs (.cons (.int _) (.cons (CP.th ok.fo y) .nil)))
 | false=>exact .ofP (us:=[.str e.1,v1]) x (.cons hs (.cons (CP.th ok.fo y) .nil))
theorem N9 {own:Bool}{e:El}(ok:EX own e):RL (e.2.1:Nat) (Ec e.2.2)=true:=by
 unfold RL
 rw[N7 ok.fo (by have:=ok.sz;omega) (Int.le_refl _) ok.m3,ok.fo.tld ok.td]
 rfl
theorem ST {e:El}(ok:EX false e):JB (M4 false e)=true:=by
 show(Ek (.str e.1)&&RL 0 (Ec e.2.2))=true
 have:=N9 ok
 rw[ok.n0 rfl]at this
 rw[GG ok.nm ok.rs,show RL 0 (Ec e.2.2)=true from this]
 rfl
theorem SU {e:El}(ok:EX true e):JC (M4 true e)=true:=by
 show(Ek (.str e.1)&&(decide ((0:Int)≤(e.2.1:Nat))&&decide (((e.2.1:Nat):Int)≤3))&&RL (e.2.1:Nat) (Ec e.2.2))=true
 have:=ok.m3
 rw[GG ok.nm ok.rs,N9 ok,decide_eq_true (by omega),decide_eq_true (by omega)]
 rfl
theorem M9 {α:Type}[DecidableEq α]{l:List α}(h:l.Nodup):Ds l=true:=by
 unfold Ds
 rw[TSt.dd_nd _ l rfl h]
 exact decide_eq_true rfl
theorem OA {α:Type}[DecidableEq α]{l:List α}{x:α}(h:x∈l):Ds (l++[x])=false:=decide_eq_false (Nat.ne_of_lt (TSt.dd_two h))
theorem Q8 {α:Type}{H:Hp}{F:V→α→Prop}{th:α→Th}:∀{us:List V} {cs:List α},Paired F us cs→(∀ c∈cs,∀ v,F v c→Al H v (th c))→Paired (Al H) us (cs.map th)
 | _,_,.nil,_=>.nil
 | _,_,.cons r t,h=>.cons (h _ (by simp) _ r) (Q8 t fun c hc=>h c (List.mem_cons_of_mem _ hc))
theorem all_map {α:Type}{f:Th→Bool}{th:α→Th}{cs:List α}(h:∀ c∈cs,f (th c)=true):(cs.map th).all f=true:=by
 rw[List.all_map,List.all_eq_true]
 exact fun c hc=>h c hc
theorem OB {H:Hp}:∀{zs:List Str},(∀ z∈zs,Nm z)→Paired (Al H) (zs.map V.str) (zs.map Th.str)
 | [],_=>.nil
 | z::zs,h=>.cons (.str z (Nat.le_trans (h z (by simp)).hi (by decide))) (OB fun y hy=>h y (List.mem_cons_of_mem _ hy))
theorem SV {zs:List Str}(ok:Cy zs):RM (some (zs.map Th.str))=true:=by
 obtain⟨h1,h4,nd,nm⟩:=ok
 show(decide (((zs.map Th.str).length:Int)≤4)&&!decide ((zs.map Th.str).length=0)&&(zs.map Th.str).all B4&&Ds ((zs.map Th.str).map FX))=true
 have e:(zs.map Th.str).map FX=zs:=by rw[List.map_map];exact List.map_id zs
 rw[e,M9 nd,List.length_map,decide_eq_true (by omega),decide_eq_false (by omega),all_map fun z hz=>FE (nm z hz)]
 rfl
theorem SW {zs:List Str}{cs:List Pr}(ok:Fj zs cs):O8 zs (some (cs.map JL))=true:=by
 obtain⟨h1,nd,h⟩:=ok
 show(decide (((cs.map JL).length:Int)≤60)&&(cs.map JL).all (Kl zs)&&Ds ((cs.map JL).map Lq))=true
 have e:(cs.map JL).map Lq=cs.map (·.1):=by rw[List.map_map];rfl
 rw[e,M9 nd,List.length_map,decide_eq_true (by omega),all_map fun p hp=>SS (h p hp).1 (h p hp).2]
 rfl
def YY (own:Bool):Th→Bool:=if own=true then JC else JB
theorem OC {own:Bool}{es:List El}(ok:Cm own es):Jr (YY own) (Q3 own:Nat) (some (es.map (M4 own)))=true:=by
 obtain⟨h1,nd,h⟩:=ok
 show(decide (((es.map (M4 own)).length:Int)≤(Q3 own:Nat))&&(es.map (M4 own)).all (YY own)&&Ds ((es.map (M4 own)).map Lr))=true
 have e:(es.map (M4 own)).map Lr=es.map (·.1):=by rw[List.map_map];cases own <;> rfl
 rw[e,M9 nd,List.length_map,decide_eq_true (by omega),all_map fun p hp=>by cases own with | true=>exact SU (h p hp) | false=>exact ST (h p hp)]
 rfl
theorem Q9 {H:Hp}{a:Addr}{xs:List V}{zs:List Str}{cs:List Pr}(ha:H a=some (.lst xs))(p:Paired (EK H) xs cs)(ok:Fj zs cs):BU H (.ref a) (some (cs.map JL)):=⟨a,xs,rfl,ha,Q8 p fun c hc v hv=>hv.th (ok.2.2 c hc).1 (ok.2.2 c hc).2⟩
theorem Ka {own:Bool}{H:Hp}{a:Addr}{xs:List V}{es:List El}(ha:H a=some (.lst xs))(p:Paired (Bl own H) xs es)(ok:Cm own es):BU H (.ref a) (some (es.map (M4 own))):=⟨a,xs,rfl,ha,Q8 p fun c hc v hv=>hv.th (ok.2.2 c hc)⟩
def WP:Rw→List Str
 | none=>[]
 | some ts=>ts.map FX
def Dt (r0 r1 r2 r3:Rw)(t4:Th):Bool:=RM r0&&O8 (WP r0) r1&&Jr JB 8 r2&&Jr JC 6 r3&&SK 4 t4
theorem SX {H:Hp}{v:V}{r:Rw}(h:BU H v r)(c:RM r=true):∃ a,v=.ref a∧H a=some (.lst ((WP r).map V.str)):=by
 cases r with
 | none=>cases c
 | some ts=>
  obtain⟨a,us,rfl,ha,p⟩:=h
  have c:(decide ((ts.length:Int)≤4)&&!decide (ts.length=0)&&ts.all B4&&Ds (ts.map FX))=true:=c
  rw[Bool.and_eq_true,Bool.and_eq_true]at c
  exact⟨a,rfl,by rw[ha,Uk p fun t ht=>List.all_eq_true.mp c.1.2 t ht];rfl⟩
inductive Ak (H:Hp):Nat→V→V→Prop where
 | fl {n:Nat} {x:V} (h:B3 x=true):Ak H n x x
 | tp {n:Nat} {a b:Addr} {xs ys:List V} (h1:H a=some (.tup xs)) (h2:H b=some (.tup ys)) (h5:xs.length≤100) (hl:xs.length=ys.length)
  (hh:∀(j:Nat) (u v:V),xs[j]?=some u→ys[j]?=some v→Ak H n u v):Ak H (n+1) (.ref a) (.ref b)
theorem Cz {H:Hp}{n:Nat}{a b:Addr}{xs:List V}(h1:H a=some (.tup xs))(h2:H b=some (.tup xs))(hf:xs.all B3=true)(h5:xs.length≤100:=by simp):Ak H (n+1) (.ref a) (.ref b):=
 .tp h1 h2 h5 rfl fun j u v e1 e2=>by
  rw[e1]at e2
  cases e2
  exact .fl (List.all_eq_true.mp hf u (List.mem_of_getElem? e1))
theorem Lw {H:Hp}{n:Nat}{x y:V}(h:Ak H n x y):∀{m:Nat},n≤m→Ak H m x y:=by
 induction h with
 | fl h=>intro m _;exact .fl h
 | tp h1 h2 h5 hl _ ih=>
  intro m hm
  obtain⟨m,rfl⟩:∃ k,m=k+1:=⟨m-1,by omega⟩
  exact .tp h1 h2 h5 hl fun j u v e1 e2=>ih j u v e1 e2 (by omega)
theorem NA {H:Hp}{n:Nat}{a b:Addr}{xs ys:List V}(h1:H a=some (.tup xs))(h2:H b=some (.tup ys))(h:Paired (Ak H n) xs ys)(h5:xs.length≤100:=by simp):Ak H (n+1) (.ref a) (.ref b):=
 .tp h1 h2 h5 (Paired.length h) fun j u v e1 e2=>by
  obtain⟨w,e3,x⟩:=BQ h e1
  rw[e3]at e2
  cases e2
  exact x
theorem Uo {H:Hp}{n:Nat}(s:Option Str):Ak H n (R3 s) (R3 s):=by cases s <;> exact .fl rfl
theorem Fg.ak {H:Hp}{a b:Addr}{l:Lf}{pr:Nat}(ok:La pr l)(h1:Fg H a l)(h2:Fg H b l):Ak H 2 (.ref a) (.ref b):=by
 cases l with
 | val v=>
  obtain⟨q,x1,y1⟩:=h1
  obtain⟨r,x2,y2⟩:=h2
  refine NA x1 x2 (.cons (.fl rfl) (.cons ?_ .nil))
  obtain⟨_,w⟩:=ok
  cases v with
  | none=>exact w.elim
  | flt w' z r c=>exact w.elim
  | num t b=>exact Cz y1 y2 rfl
  | txt z=>exact Cz y1 y2 rfl
  | tru b=>exact Cz y1 y2 rfl
 | cell s c=>
  obtain⟨q,x1,y1⟩:=h1
  obtain⟨r,x2,y2⟩:=h2
  exact NA x1 x2 (.cons (.fl rfl) (.cons (Uo s) (.cons (Cz y1 y2 rfl) .nil)))
 | rng s c d=>
  obtain⟨q,u,x1,y1,z1⟩:=h1
  obtain⟨r,v,x2,y2,z2⟩:=h2
  exact NA x1 x2 (.cons (.fl rfl) (.cons (Uo s) (.cons (Cz y1 y2 rfl) (.cons (Cz z1 z2 rfl) .nil))))
 | cols s i x j y=>
  obtain⟨q,u,x1,y1,z1⟩:=h1
  obtain⟨r,v,x2,y2,z2⟩:=h2
  exact NA x1 x2 (.cons (.fl rfl) (.cons (Uo s) (.cons (Cz y1 y2 rfl) (.cons (Cz z1 z2 rfl) .nil))))
 | gone=>exact Lw (Cz (n:=0) h1 h2 rfl) (by decide)
 | nam z=>exact Lw (Cz (n:=0) h1 h2 rfl) (by decide)
 | par i=>exact Lw (Cz (n:=0) h1 h2 rfl) (by decide)
 | flt z=>exact Lw (Cz (n:=0) h1 h2 rfl) (by decide)
theorem SY (t:Addr)(k:Kd)(us:List V):(On t k us).length≤us.length+3:=by
 cases k with
 | op z=>show us.length+2≤_;omega
 | neg=>show us.length+1≤_;omega
 | own z=>show 3≤_;omega
 | sumif z=>
  show(us.take 1++V.str z::us.drop 1).length+1≤_
  rw[List.length_append,List.length_cons,List.length_take,List.length_drop];omega
 | grid i j=>show us.length+3≤_;omega
 | wd z=>show us.length+1≤_;omega
theorem WQ {H:Hp}{n:Nat}{k:Kd}{t t':Addr}{us ws:List V}(ok:Gd k us.length)(h:Paired (Ak H n) us ws)(h1:Lb k=true→H t=some (.tup us))(h2:Lb k=true→H t'=some (.tup ws)):Paired (Ak H (n+1)) (On t k us) (On t' k ws):=by
 have up:Paired (Ak H (n+1)) us ws:=Paired.imp' (fun _ _ x=>Lw x (Nat.le_succ _)) h
 cases k with
 | op z=>exact .cons (.fl rfl) (.cons (.fl rfl) up)
 | neg=>exact .cons (.fl rfl) up
 | own z=>exact .cons (.fl rfl) (.cons (.fl rfl) (.cons (NA (h1 rfl) (h2 rfl) h (by have:=ok.2.2;omega)) .nil))
 | sumif z=>
  obtain⟨u1,u2,u3,rfl⟩:=LY (show us.length=3 from ok.2)
  obtain⟨w1,w2,w3,rfl⟩:=LY ((Paired.length h).symm.trans (show [u1,u2,u3].length=3 from rfl))
  cases up with
  | cons a r=>
   cases r with
   | cons b r=>exact .cons (.fl rfl) (.cons a (.cons (.fl rfl) (.cons b r)))
 | grid i j=>exact .cons (.fl rfl) (.cons (.fl rfl) (.cons (.fl rfl) up))
 | wd z=>exact .cons (.fl rfl) up
theorem RA {H:Hp}{n:Nat}:∀{us ws:List V} {ps:List Fm},Lc H us ps→Lc H ws ps→(∀ g∈ps,∀ x y,CP H x g→CP H y g→Ak H n x y)→Paired (Ak H n) us ws
 | _,_,_,.nil,.nil,_=>.nil
 | _,_,_,.cons a r,.cons b s,h=>.cons (h _ (by simp) _ _ a b) (RA r s fun g hg=>h g (List.mem_cons_of_mem _ hg))
theorem FO.ak {H:Hp}{pr n:Nat}{f:Fm}(fo:FO pr n f):∀{x y:V},CP H x f→CP H y f→Ak H (2*n) x y:=by
 induction fo with
 | @lf n l ok=>
  intro x y h1 h2
  cases h1 with
  | lf h1=>
   cases h2 with
   | lf h2=>exact Lw (Fg.ak ok h1 h2) (by omega)
 | @nd n k ps ok hp ih=>
  intro x y h1 h2
  cases h1 with
  | @nd a t _ us _ ha ht hl hh=>
   cases h2 with
   | @nd a' t' _ us' _ ha' ht' hl' hh'=>
    have p:=RA (n:=2*n) (CP.parts hl hh) (CP.parts hl' hh') fun g hg x y=>ih g hg
    exact Lw (NA ha ha' (WQ (by rw[hl];exact ok) p ht ht') (by have a:=SY t k us;have b:=ok.le;omega)) (by omega)
def LD (pr:Nat)(tn:Bool)(l:Lf):Prop:=La pr l∧(tn=true→DB (.lf l)=true)
def DO (pr:Nat)(tn:Bool)(n:Nat)(f:Fm):Prop:=FO pr n f∧(tn=true→DB f=true)
theorem DO.lf {pr:Nat}{tn:Bool}{n:Nat}{l:Lf}(h:LD pr tn l):DO pr tn (n+1) (.lf l):=⟨.lf h.1,h.2⟩
theorem OD:∀{ps:List Fm},(∀ f∈ps,DB f=true)→Mz ps=true
 | [],_=>by rw[Mz]
 | f::fs,h=>by rw[Mz,h f (by simp),OD fun g hg=>h g (List.mem_cons_of_mem _ hg)];rfl
theorem DO.nd {pr:Nat}{tn:Bool}{n:Nat}{k:Kd}{ps:List Fm}(ok:Gd k ps.length)(h:∀ f∈ps,DO pr tn n f):DO pr tn (n+1) (.nd k ps):=⟨.nd ok fun f hf=>(h f hf).1,fun z=>by rw[DB];exact OD fun f hf=>(h f hf).2 z⟩
theorem LD.up {pr q:Nat}{tn:Bool}{l:Lf}(h:LD pr tn l)(hq:pr≤q):LD q tn l:=⟨h.1.up hq,h.2⟩
def WR (K:PySem.W.Frag):Sp:=fun vs H Q _=>∃(p:Addr) (k:Nat) (S:Addr×List Int),vs=[.ref p]∧BD K S H p k∧k≤8000000∧∀(q:Addr) (v:Vl) (H':Hp),Ff H' q v→Mq v→Vs v→BD K S H' p (k+2)→KeepX p H H'→Q (.ref q) H'
def WS (K:PySem.W.Frag):Sp:=fun vs H Q _=>∃(p:Addr) (k:Nat) (S:Addr×List Int),vs=[.ref p]∧BD K S H p k∧k≤8000000∧∀(q:Addr) (c:S2) (H':Hp),H' q=some (.tup (Qb c))→LZ c→BD K S H' p (k+4)→KeepX p H H'→Q (.ref q) H'
def WT (K:PySem.W.Frag):Sp:=fun vs H Q _=>∃(p sl:Addr) (zs:List Str) (k:Nat) (S:Addr×List Int) (tn:Bool),vs=[.ref p,.ref sl,.bl tn]∧BD K S H p k∧k≤8000000∧H sl=some (.lst (zs.map V.str))∧Cy zs∧∀(s:Option Str) (H':Hp),Om s∧(tn=true→s≠none)→BD K S H' p (k+2)→KeepX p H H'→Q (R3 s) H'
def WU (K:PySem.W.Frag):Sp:=fun vs H Q _=>∃(p sl:Addr) (zs:List Str) (k:Nat) (S:Addr×List Int) (tn:Bool),vs=[.ref p,.ref sl,.bl tn]∧BD K S H p k∧k≤7900000∧H sl=some (.lst (zs.map V.str))∧Cy zs∧∀(a:Addr) (l:Lf) (H':Hp),Fg H' a l→LD 0 tn l→BD K S H' p (k+12)→KeepX p H H'→Q (.ref a) H'
def WV (K:PySem.W.Frag):Sp:=fun vs H Q _=>∃(p sl:Addr) (zs:List Str) (k:Nat) (S:Addr×List Int) (tn:Bool) (pr:Nat),vs=[.ref p,.ref sl,.bl tn,.int (pr:Nat)]∧pr≤3∧BD K S H p k∧k≤7800000∧H sl=some (.lst (zs.map V.str))∧Cy zs∧∀(a:Addr) (l:Lf) (H':Hp),Fg H' a l→LD pr tn l→BD K S H' p (k+14)→KeepX p H H'→Q (.ref a) H'
def sB:Nat→Nat
 | 0=>1
 | n+1=>2*sB n+2
def uB:Nat→Nat
 | 0=>14
 | n+1=>2*uB n+20
def TH (K:PySem.W.Frag)(n:Nat):Sp:=fun vs H Q _=>∃(p sl:Addr) (zs:List Str) (k:Nat) (S:Addr×List Int) (tn:Bool) (pr:Nat),vs=[.ref p,.ref sl,.bl tn,.int (pr:Nat),.int (n:Int)]∧pr≤3∧1≤n∧BD K S H p k∧k+uB n≤7000000∧H sl=some (.lst (zs.map V.str))∧Cy zs∧∀(v:V) (f:Fm) (H':Hp),CP H' v f→DO pr tn (n+1) f→Ei f≤sB n→BD K S H' p (k+uB n)→KeepX p H H'→Q v H'
def WW (K:PySem.W.Frag)(n:Nat):Sp:=fun vs H Q _=>∃(p sl:Addr) (zs:List Str) (k:Nat) (S:Addr×List Int) (tn:Bool) (pr:Nat),vs=[.ref p,.ref sl,.bl tn,.int (pr:Nat),.int (n:Int)]∧pr≤3∧BD K S H p k∧k+uB n≤7000000∧H sl=some (.lst (zs.map V.str))∧Cy zs∧∀(v:V) (f:Fm) (H':Hp),CP H' v f→DO pr tn (n+1) f→Ei f≤sB n→BD K S H' p (k+uB n)→KeepX p H H'→Q v H'
theorem GI {K:PySem.W.Frag}{S:Addr×List Int}{H:Hp}{p sl:Addr}{k:Nat}{zs:List Str}(h:BD K S H p k)(hs:H sl=some (.lst (zs.map V.str)))(ok:Cy zs):sl≠p:=fun e=>by
 obtain⟨c,r,hp,_⟩:=h
 rw[e,hp]at hs
 cases zs with
 | nil=>cases hs
 | cons z zs=>cases hs
def WX (lo hi:Int)(L:List V):Bool:=L.all fun v=>match v with | .int i=>decide (lo≤i)&&decide (i≤hi) | _=>false
theorem GJ {lo hi:Int}{L:List V}{r:Int}(h:WX lo hi L=true)(h0:0≤r)(h1:r<(L.length:Int)):∃ i,Hb L r=some (.int i)∧lo≤i∧i≤hi:=by
 obtain⟨j,rfl⟩:∃ j:Nat,r=(j:Int):=⟨r.toNat,by omega⟩
 have hj:j<L.length:=by omega
 have:=List.all_eq_true.mp h L[j] (List.getElem_mem hj)
 cases e:L[j]with
 | int i=>
  rw[e]at this
  simp only[Bool.and_eq_true,decide_eq_true_eq]at this
  exact⟨i,BK (by rw[List.getElem?_eq_getElem hj,e]),this.1,this.2⟩
 | str z=>rw[e]at this;cases this
 | bl i=>rw[e]at this;cases this
 | non=>rw[e]at this;cases this
 | ref i=>rw[e]at this;cases this
 | byt i=>rw[e]at this;cases this
 | flt i=>rw[e]at this;cases this
 | ty i=>rw[e]at this;cases this
def WY (P:Str→Bool)(L:List V):Bool:=L.all fun v=>match v with | .str z=>P z | _=>false
theorem FF {P:Str→Bool}{L:List V}{r:Int}(h:WY P L=true)(h0:0≤r)(h1:r<(L.length:Int)):∃ z,Hb L r=some (.str z)∧P z=true:=by
 obtain⟨j,rfl⟩:∃ j:Nat,r=(j:Int):=⟨r.toNat,by omega⟩
 have hj:j<L.length:=by omega
 have:=List.all_eq_true.mp h L[j] (List.getElem_mem hj)
 cases e:L[j]with
 | str z=>
  rw[e]at this
  exact⟨z,BK (by rw[List.getElem?_eq_getElem hj,e]),this⟩
 | int z=>rw[e]at this;cases this
 | bl i=>rw[e]at this;cases this
 | non=>rw[e]at this;cases this
 | ref i=>rw[e]at this;cases this
 | byt i=>rw[e]at this;cases this
 | flt i=>rw[e]at this;cases this
 | ty i=>rw[e]at this;cases this
def X9 (z:Str):Bool:=decide (z.length≤20)&&z.cps.toList.all fun c=>decide (c∈(Str.ofString "abcdefghijklmnopqrstuvwxyz0123456789 ").cps.toList)
theorem Uq {z:Str}(h:X9 z=true):Mq (.txt z):=by
 unfold X9 at h
 rw[Bool.and_eq_true]at h
 exact⟨of_decide_eq_true h.1,fun c hc=>of_decide_eq_true (List.all_eq_true.mp h.2 c hc)⟩
theorem SZ:Nm (zS "lost"):=B9 (by nofun)
theorem Ur {zs:List Str}{r:Int}(nm:∀ z∈zs,Nm z)(h0:0≤r)(h1:r≤(zs.length:Int)):∃ z,Hb (zs.map V.str++[vS "lost"]) r=some (.str z)∧Nm z:=by
 obtain⟨j,rfl⟩:∃ j:Nat,r=(j:Int):=⟨r.toNat,by omega⟩
 by_cases hj:j<zs.length
 ·exact⟨zs[j],BK (by rw[List.getElem?_append_left (by rw[List.length_map];exact hj),List.getElem?_map,List.getElem?_eq_getElem hj];rfl),nm _ (List.getElem_mem hj)⟩
 ·have e:j=(zs.map V.str).length:=by rw[List.length_map];omega
  exact⟨zS "lost",BK (by rw[e,List.getElem?_append_right (Nat.le_refl _),Nat.sub_self];rfl),SZ⟩
theorem Du {pr:Nat}{tn:Bool}{H:Hp}{a t:Addr}{k:Kd}{us:List V}{ps:List Fm}{n:Nat}(h:H a=some (.tup (On t k us)))(ht:Lb k=true→H t=some (.tup us))(fm:Lc H us ps)(ok:Gd k ps.length)(fo:∀ f∈ps,DO pr tn n f):CP H (.ref a) (.nd k ps)∧DO pr tn (n+1) (.nd k ps):=
 ⟨.nd h ht (Paired.length fm) fun j u f e1 e2=>by
  obtain⟨g,e3,x⟩:=BQ fm e1
  rw[e3]at e2
  cases e2
  exact x,DO.nd ok fo⟩
theorem RB {k:Kd}{f:Fm}:Ei (.nd k [f])=1+Ei f:=by rw[Ei,Mr,Mr];omega
theorem Yq {k:Kd}:Ei (.nd k [])=1:=by rw[Ei,Mr]
theorem W2 {k:Kd}{f g:Fm}:Ei (.nd k [f,g])=1+Ei f+Ei g:=by rw[Ei,Mr,Mr,Mr];omega
theorem W3 {k:Kd}{f g h:Fm}:Ei (.nd k [f,g,h])=1+Ei f+Ei g+Ei h:=by rw[Ei,Mr,Mr,Mr,Mr];omega
theorem U8 {l:Lf}:Ei (.lf l)=1:=by rw[Ei]
theorem W4 {pr:Nat}{tn:Bool}{n:Nat}{f:Fm}(h:DO pr tn n f):∀ g∈[f],DO pr tn n g:=fun g hg=>by rw[List.mem_singleton.mp hg];exact h
theorem WZ {pr:Nat}{tn:Bool}{n:Nat}{f g:Fm}(h:DO pr tn n f)(h2:DO pr tn n g):∀ x∈[f,g],DO pr tn n x:=fun x hx=>by
 rcases List.mem_cons.mp hx with e | e
 ·rw[e];exact h
 ·rw[List.mem_singleton.mp e];exact h2
theorem W5 {pr:Nat}{tn:Bool}{n:Nat}{f g i:Fm}(h:DO pr tn n f)(h2:DO pr tn n g)(h3:DO pr tn n i):∀ x∈[f,g,i],DO pr tn n x:=fun x hx=>by
 rcases List.mem_cons.mp hx with e | e
 ·rw[e];exact h
 ·exact WZ h2 h3 x e
theorem Wa:∀ n,1≤sB n
 | 0=>Nat.le_refl _
 | n+1=>by show 1≤2*sB n+2;omega
def Lx (z:Str):Bool:=(decide (1≤z.length)&&decide (z.length≤6)&&z.cps.toList.all fun c=>decide (97≤c)&&decide (c≤122))&&!R1 z
theorem Ih {z:Str}(h:Lx z=true):Nm z∧R1 z=false:=by
 unfold Lx at h
 rw[Bool.and_eq_true]at h
 exact⟨B9 h.1,by simpa using h.2⟩
theorem Kp.new0 {H:Hp}{p:Addr}{o:HO}(h:H p=none):Kp H (upd H p o):=Kp.same (AF.new h)
theorem Yr {r:Int}(h0:0≤r)(h1:r<2):∃ c,Hb (Str.ofString "=<").cps.toList r=some c∧((⟨#[c]⟩:Str)=Str.ofString "="∨(⟨#[c]⟩:Str)=Str.ofString "<"):=by
 have:r=0∨r=1:=by omega
 rcases this with rfl | rfl
 ·exact⟨61,rfl,.inl (by nofun)⟩
 ·exact⟨60,rfl,.inr (by nofun)⟩
def U9:List (List Str):=[[zS "main"],[zS "main",zS "two"],[zS "two",zS "main",zS "a"]]
def Wb (K:PySem.W.Frag):Sp:=fun vs H Q _=>∃(p:Addr) (k:Nat) (S:Addr×List Int),vs=[.ref p]∧BD K S H p k∧k≤8000000∧∀(sl:Addr) (zs:List Str) (H':Hp),H' sl=some (.lst (zs.map V.str))→Cy zs→zs∈U9→BD K S H' p (k+1)→KeepX p H H'→Q (.ref sl) H'
theorem Sa:Cy [zS "main"]:=⟨by decide,by decide,by nofun,fun z h=>by
 rcases List.mem_cons.mp h with rfl | h
 ·exact B9 (by nofun)
 ·cases h⟩
theorem Sb:Cy [zS "main",zS "two"]:=⟨by decide,by decide,by nofun,fun z h=>by
 rcases List.mem_cons.mp h with rfl | h
 ·exact B9 (by nofun)
 ·rw[List.mem_singleton.mp h];exact B9 (by nofun)⟩
theorem Sc:Cy [zS "two",zS "main",zS "a"]:=⟨by decide,by decide,by nofun,fun z h=>by
 rcases List.mem_cons.mp h with rfl | h
 ·exact B9 (by nofun)
 rcases List.mem_cons.mp h with rfl | h
 ·exact B9 (by nofun)
 ·rw[List.mem_singleton.mp h];exact B9 (by nofun)⟩
theorem BD.tb {K:PySem.W.Frag}{S:Addr×List Int}{H H':Hp}{p P:Addr}{k:Nat}(h:BD K S H p k){u:Array Value}(hP:H P=some (.tbl u))(s:KeepX P H H'):BD K S H' p k:=by
 obtain⟨c,r,e,q,z⟩:=h
 refine⟨c,r,s _ _ (CJ e hP (by intro z;cases z)) e,?_,z⟩
 rcases q with(h | ⟨o,h⟩) | h
 ·exact .inl (.inl (s _ _ (CJ h hP (by intro z;cases z)) h))
 ·exact .inl (.inr ⟨o,s _ _ (CJ h hP (by intro z;cases z)) h⟩)
 ·exact .inr h
def TJ (K:PySem.W.Frag)(own:Bool):Sp:=fun vs H Q _=>∃(p sl:Addr) (zs:List Str) (k:Nat) (S:Addr×List Int),vs=[.ref p,.ref sl]∧BD K S H p k∧k≤1000000∧H sl=some (.lst (zs.map V.str))∧Cy zs∧∀(l:Addr) (us:List V) (es:List El) (H':Hp),H l=none→H' l=some (.lst us)→Paired (Bl own H') us es→(∀ e∈es,EX own e∧FO e.2.1 2 e.2.2∧Ei e.2.2≤4)→(es.map (·.1)).Sublist (if own=true then [zS "f",zS "g"]else [zS "n",zS "m"])→BD K S H' p (k+200)→KeepX p H H'→Q (.ref l) H'
theorem RC {r:Int}(h0:0≤r)(h1:r<4):∃ m:Nat,Hb [V.int 1,.int 2,.int 0,.int 3] r=some (.int (m:Int))∧m≤3:=by
 have:r=0∨r=1∨r=2∨r=3:=by omega
 rcases this with rfl | rfl | rfl | rfl
 ·exact⟨1,rfl,by decide⟩
 ·exact⟨2,rfl,by decide⟩
 ·exact⟨0,rfl,by decide⟩
 ·exact⟨3,rfl,by decide⟩
def Gi (own:Bool):List Str:=if own=true then [zS "f",zS "g"]else [zS "n",zS "m"]
theorem Hm {own:Bool}:∀ z∈Gi own,Nm z∧R1 z=false:=by
 intro z hz
 cases own with
 | true=>
  rcases List.mem_cons.mp hz with rfl | h
  ·exact⟨B9 (by nofun),by nofun⟩
  ·rw[List.mem_singleton.mp h];exact⟨B9 (by nofun),by nofun⟩
 | false=>
  rcases List.mem_cons.mp hz with rfl | h
  ·exact⟨B9 (by nofun),by nofun⟩
  ·rw[List.mem_singleton.mp h];exact⟨B9 (by nofun),by nofun⟩
def Wc (own:Bool)(e:El):Prop:=EX own e∧FO e.2.1 2 e.2.2∧Ei e.2.2≤4
structure TL (K:PySem.W.Frag)(own:Bool)(S:Addr×List Int)(H:Hp)(p l ls:Addr)(c i:Nat)(H5:Hp)(us:List V)(es:List El):Prop where
 ol:H5 l=some (.lst us)
 en:Paired (Bl own H5) us es
 ok:∀ e∈es,Wc own e
 sb:(es.map (·.1)).Sublist ((Gi own).take i)
 pen:BD K S H5 p (c+60*i)
 ls:H5 ls=some (.lst ((Gi own).map V.str))
 kp:∀ b o,b≠p→H b=some o→H5 b=some o
theorem TL.add {K:PySem.W.Frag}{own:Bool}{S:Addr×List Int}{H H5 H7:Hp}{p l ls a:Addr}{c i:Nat}{us:List V}{es:List El}{v1:V}{e:El}(h:TL K own S H p l ls c i H5 us es)(h0:BD K S H p c)(nl:l≠p)(nls:ls≠p)(lls:ls≠l)(hl:H l=none)(k7:KeepX p H5 H7)(q7:Kp H5 H7)(pen7:BD K S H7 p (c+60*(i+1)))(ha:H7 a=some (.tup (V8 own e v1)))(hv:CP H7 v1 e.2.2)(ed:Wc own e)(hz:(Gi own)[i]?=some e.1):
 us.length<sizeLine∧TL K own S H p l ls c (i+1) (upd H7 l (.lst (us++[.ref a]))) (us++[.ref a]) (es++[e]):=by
 have o7:=k7 _ _ nl h.ol
 have q9:Kp H7 (upd H7 l (.lst (us++[.ref a]))):=Kp.lst o7 KeepX.upd
 have le:us.length=es.length:=Paired.length h.en
 have l2:=h.sb.length_le
 have e2:(Gi own).length=2:=by cases own <;> rfl
 rw[List.length_map,List.length_take]at l2
 refine⟨DX (by omega),AE,FM (Paired.imp' (fun _ _ x=>x.kp (q7.trans q9)) h.en) (.cons ⟨a,v1,rfl,q9 _ _ ha,hv.kp q9⟩ .nil),fun x hx=>?_,?_,?_,?_,fun b o hb e=>?_⟩
 ·rcases List.mem_append.mp hx with hx | hx
  ·exact h.ok x hx
  ·rw[List.mem_singleton.mp hx];exact ed
 ·rw[List.map_append,List.take_add_one,hz]
  exact h.sb.append (List.Sublist.refl _)
 ·exact BD.put h0 hl pen7
 ·rw[Ab lls];exact k7 _ _ nls h.ls
 ·rw[Ab (Am e hl)];exact k7 _ _ hb (h.kp b o hb e)
theorem TL.skip {K:PySem.W.Frag}{own:Bool}{S:Addr×List Int}{H H5 H7:Hp}{p l ls:Addr}{c i:Nat}{us:List V}{es:List El}(h:TL K own S H p l ls c i H5 us es)(nl:l≠p)(nls:ls≠p)(k7:KeepX p H5 H7)(q7:Kp H5 H7)(pen7:BD K S H7 p (c+60*(i+1))):TL K own S H p l ls c (i+1) H7 us es:=
 ⟨k7 _ _ nl h.ol,Paired.imp' (fun _ _ x=>x.kp q7) h.en,h.ok,h.sb.trans (by rw[List.take_add_one];exact List.sublist_append_left _ _),pen7,k7 _ _ nls h.ls,fun b o hb e=>k7 _ _ hb (h.kp b o hb e)⟩
def Wd (K:PySem.W.Frag):Sp:=fun vs H Q _=>∃(p sl:Addr) (zs:List Str) (k:Nat) (S:Addr×List Int),vs=[.ref p,.ref sl,.int 1]∧BD K S H p k∧k≤1000000∧H sl=some (.lst (zs.map V.str))∧Cy zs∧∀(u:V) (ct:Ct) (H':Hp),Gh H' u ct→KU ct→BD K S H' p (k+60)→KeepX p H H'→Q u H'
theorem Us:∀ t∈[(-1:Int),3,-7,5],∀ b∈[(2:Int),4],0<b∧Nat.gcd t.natAbs b.natAbs=1∧t.natAbs<10 ^ 30∧b.natAbs<10 ^ 30:=by nofun
theorem OE {L:List Int}{r:Int}(h0:0≤r)(h1:r<(L.length:Int)):∃ i∈L,Hb (L.map V.int) r=some (.int i):=by
 obtain⟨j,rfl⟩:∃ j:Nat,r=(j:Int):=⟨r.toNat,by omega⟩
 have hj:j<L.length:=by omega
 exact⟨L[j],List.getElem_mem hj,BK (by rw[List.getElem?_map,List.getElem?_eq_getElem hj];rfl)⟩
theorem Vs.c {v:Vl}(h:Vs v):YV v:=by
 cases v with
 | none=>exact h.elim
 | flt _ _ _ _=>exact h.elim
 | _=>trivial
def Gj (H:Hp)(kvs:List (List BY×V))(cs:List Pr):Prop:=Paired (fun(kv:List BY×V) (p:Pr)=>kv.1=GS.ckK p.1∧Gh H kv.2 p.2) kvs cs
theorem Gj.kp {H H':Hp}{kvs:List (List BY×V)}{cs:List Pr}(h:Gj H kvs cs)(s:Kp H H'):Gj H' kvs cs:=Paired.imp' (fun _ _ ⟨x,y⟩=>⟨x,y.kp s⟩) h
theorem Gj.keys {H:Hp}{kvs:List (List BY×V)}{cs:List Pr}(h:Gj H kvs cs):kvs.map (·.1)=(cs.map (·.1)).map GS.ckK:=by
 unfold Gj at h
 induction h with
 | nil=>rfl
 | cons r _ ih=>rw[List.map_cons,List.map_cons,List.map_cons,ih,r.1]
theorem RD {H:Hp}{c:CK}{v:V}{ct:Ct}(hv:Gh H v ct):∀{kvs:List (List BY×V)} {cs:List Pr},Gj H kvs cs→Gj H (kvs.map fun kv=>if kv.1=GS.ckK c then(kv.1,v)else kv) (cs.map fun p=>if p.1=c then(p.1,ct)else p)
 | _,_,.nil=>.nil
 | kv::kvs,p::cs,.cons ⟨h1,h2⟩ t=>by
  rw[List.map_cons,List.map_cons]
  refine .cons ?_ (RD hv t)
  by_cases e:p.1=c
  ·rw[if_pos e,if_pos (by rw[h1,e])];exact⟨h1,hv⟩
  ·rw[if_neg e,if_neg fun z=>e (M0 (h1.symm.trans z))];exact⟨h1,h2⟩
theorem Ut {H:Hp}{c:CK}{v:V}{ct:Ct}{kvs:List (List BY×V)}{cs:List Pr}(h:Gj H kvs cs)(hv:Gh H v ct)(nd:(cs.map (·.1)).Nodup):∃ cs',Gj H (F8 kvs (GS.ckK c) v) cs'∧(∀ p∈cs',p∈cs∨p=(c,ct))∧(cs'.map (·.1)).Nodup∧cs'.length≤cs.length+1:=by
 unfold F8
 by_cases e:(kvs.any fun kv=>decide (kv.1=GS.ckK c))=true
 ·rw[if_pos e]
  refine⟨_,RD hv h,fun p hp=>?_,?_,by rw[List.length_map];omega⟩
  ·obtain⟨q,hq,rfl⟩:=List.mem_map.mp hp
   by_cases z:q.1=c
   ·rw[if_pos z,z];exact .inr rfl
   ·rw[if_neg z];exact .inl hq
  ·rw[List.map_map]
   have:((fun(p:Pr)=>p.1)∘fun p=>if p.1=c then(p.1,ct)else p)=fun p=>p.1:=by
    funext p
    show(if p.1=c then(p.1,ct)else p).1=p.1
    split <;> rfl
   rw[this];exact nd
 ·rw[if_neg e]
  refine⟨cs++[(c,ct)],FM h (.cons ⟨rfl,hv⟩ .nil),fun p hp=>?_,?_,by rw[List.length_append];exact Nat.le_refl _⟩
  ·rcases List.mem_append.mp hp with z | z
   ·exact .inl z
   ·exact .inr (List.mem_singleton.mp z)
  ·rw[List.map_append,List.nodup_append]
   refine⟨nd,by simp,fun a ha b hb=>?_⟩
   rw[show b=c by simpa using hb]
   rintro rfl
   apply e
   rw[List.any_eq_true]
   have:GS.ckK a∈kvs.map (·.1):=by rw[h.keys];exact List.mem_map.mpr ⟨a,ha,rfl⟩
   obtain⟨kv,h1,h2⟩:=List.mem_map.mp this
   exact⟨kv,h1,by rw[h2];simp⟩
structure We (zs:List Str)(cs:List Pr):Prop where
 nd:(cs.map (·.1)).Nodup
 ok:∀ p∈cs,SJ zs p.1∧KU p.2
def Wf (K:PySem.W.Frag):Sp:=fun vs H Q _=>∃(p sl:Addr) (zs:List Str) (k m:Nat) (S:Addr×List Int),vs=[.ref p,.ref sl,.int (m:Int),.int 1]∧m≤12∧BD K S H p k∧k≤900000∧H sl=some (.lst (zs.map V.str))∧Cy zs∧∀(d:Addr) (kvs:List (List BY×V)) (cs:List Pr) (H':Hp),H d=none→H' d=some (.dT kvs)→Gj H' kvs cs→We zs cs→cs.length≤12→BD K S H' p (k+1000)→KeepX p H H'→Q (.ref d) H'
theorem Wg {zs:List Str}{r:Int}(h0:0≤r)(h1:r<(zs.length:Int)):∃ z∈zs,Hb (zs.map V.str) r=some (.str z):=by
 obtain⟨j,rfl⟩:∃ j:Nat,r=(j:Int):=⟨r.toNat,by omega⟩
 have hj:j<zs.length:=by omega
 exact⟨zs[j],List.getElem_mem hj,BK (by rw[List.getElem?_map,List.getElem?_eq_getElem hj];rfl)⟩
theorem Kp.dT {H:Hp}{d:Addr}{kvs kvs':List (List BY×V)}(h:H d=some (.dT kvs)):Kp H (upd H d (.dT kvs')):=fun b xs e=>by rw[Ab (CJ e h (by intro z;cases z))];exact e
structure Pq where
 l:Addr
 sl:Addr
 lc:Addr
 ln:Addr
 lo:Addr
 xs:List V
 us:List V
 ws:List V
 zs:List Str
 cs:List Pr
 ns:List El
 os:List El
 r:Int
structure Gk (H:Hp)(p:Addr)(q:Pq):Prop where
 hl:H q.l=some (.lst [.ref q.sl,.ref q.lc,.ref q.ln,.ref q.lo,.int q.r])
 hsl:H q.sl=some (.lst (q.zs.map V.str))
 hlc:H q.lc=some (.lst q.xs)
 hln:H q.ln=some (.lst q.us)
 hlo:H q.lo=some (.lst q.ws)
 pc:Paired (EK H) q.xs q.cs
 pn:Paired (Bl false H) q.us q.ns
 po:Paired (Bl true H) q.ws q.os
 zok:Cy q.zs
 zss:q.zs∈U9
 cok:Fj q.zs q.cs
 nok:Cm false q.ns
 ook:Cm true q.os
 c8:q.cs.length≤12
 r0:0≤q.r
 r4:q.r≤4
 n0:q.l≠p
 n1:q.sl≠p
 n2:q.lc≠p
 n3:q.ln≠p
 n4:q.lo≠p
theorem Gk.kx {H H':Hp}{p:Addr}{q:Pq}(h:Gk H p q)(k:KeepX p H H')(kp:Kp H H'):Gk H' p q:=
 ⟨k _ _ h.n0 h.hl,k _ _ h.n1 h.hsl,k _ _ h.n2 h.hlc,k _ _ h.n3 h.hln,k _ _ h.n4 h.hlo,Paired.imp' (fun _ _ x=>x.kp kp) h.pc,Paired.imp' (fun _ _ x=>x.kp kp) h.pn,Paired.imp' (fun _ _ x=>x.kp kp) h.po,h.zok,h.zss,h.cok,h.nok,h.ook,h.c8,h.r0,h.r4,h.n0,h.n1,h.n2,h.n3,h.n4⟩
theorem Gk.same {H H':Hp}{p:Addr}{q:Pq}(h:Gk H p q)(s:AF H H'):Gk H' p q:=h.kx (AF.keep s) (Kp.same s)
theorem Gk.rw0 {H:Hp}{p:Addr}{q:Pq}(h:Gk H p q):BU H (.ref q.sl) (some (q.zs.map Th.str)):=⟨_,_,rfl,h.hsl,OB h.zok.2.2.2⟩
theorem Gk.rw1 {H:Hp}{p:Addr}{q:Pq}(h:Gk H p q):BU H (.ref q.lc) (some (q.cs.map JL)):=Q9 h.hlc h.pc h.cok
theorem Gk.rw2 {H:Hp}{p:Addr}{q:Pq}(h:Gk H p q):BU H (.ref q.ln) (some (q.ns.map (M4 false))):=Ka h.hln h.pn h.nok
theorem Gk.rw3 {H:Hp}{p:Addr}{q:Pq}(h:Gk H p q):BU H (.ref q.lo) (some (q.os.map (M4 true))):=Ka h.hlo h.po h.ook
def NB (H:Hp)(l:Addr):Prop:=∃(v0 v1 v2 v3 v4:V) (r0 r1 r2 r3:Rw) (t4:Th),H l=some (.lst [v0,v1,v2,v3,v4])∧BU H v0 r0∧BU H v1 r1∧BU H v2 r2∧BU H v3 r3∧Al H v4 t4∧Dt r0 r1 r2 r3 t4=false
theorem Wh {r0 r1 r2 r3:Rw}{t4:Th}(h:RM r0=false):Dt r0 r1 r2 r3 t4=false:=by unfold Dt;rw[h];rfl
theorem Wi {r0 r1 r2 r3:Rw}{t4:Th}(h:O8 (WP r0) r1=false):Dt r0 r1 r2 r3 t4=false:=by unfold Dt;rw[h,Bool.and_false];rfl
theorem Wj {r0 r1 r2 r3:Rw}{t4:Th}(h:Jr JB 8 r2=false):Dt r0 r1 r2 r3 t4=false:=by unfold Dt;rw[h,Bool.and_false];rfl
theorem Wk {r0 r1 r2 r3:Rw}{t4:Th}(h:Jr JC 6 r3=false):Dt r0 r1 r2 r3 t4=false:=by unfold Dt;rw[h,Bool.and_false];rfl
theorem Wl {r0 r1 r2 r3:Rw}{t4:Th}(h:SK 4 t4=false):Dt r0 r1 r2 r3 t4=false:=by unfold Dt;rw[h,Bool.and_false]
def Wm:Sp:=fun vs H Q _=>∃ l:Addr,vs=[.ref l]∧NB H l∧∀ H',AF H H'→Q (.bl true) H'
def Ly (K:PySem.W.Frag)(n:Nat):Sp:=fun vs H Q _=>∃(p:Addr) (q:Pq) (c:Nat) (S:Addr×List Int),vs=[.ref q.l,.ref p]∧BD K S H p c∧c+n≤900100∧Gk H p q∧∀(l:Addr) (H':Hp),NB H' l→BD K S H' p (c+n)→KeepX p H H'→Q (.ref l) H'
theorem Eo {X:Cx}{K:PySem.W.Frag}(e:X.K=K):Tn X (VT K):=e▸Ai
inductive Dx where
 | s (z:String) | i (n:Int) | b (x:Bool) | n | v (k:Nat) | t (l:List Dx) | l (k:List Dx) | m (n:Int) | w | d
mutual
def O1:Dx→TE
 | .s z=>tC (.str (Str.ofString z))
 | .i n=>tC (.int n)
 | .b x=>tC (.bl x)
 | .n=>tC .non
 | .v k=>O9 k
 | .t l=>Tk (TM l)
 | .l k=>JE (TM k)
 | .m n=>YF (rU fun i=>V.int (-i)) (tC (.int n))
 | .w=>Td Xb (tC (.int 10)) (tC (.int 30))
 | .d=>Pi
def TM:List Dx→TA
 | []=>Tj
 | d::ds=>DT (O1 d) (TM ds)
end
mutual
def Km (ρ:Nat→Th):Dx→Th
 | .s z=>.str (Str.ofString z)
 | .i n=>.int n
 | .b x=>.bl x
 | .n=>.non
 | .v k=>ρ k
 | .t l=>.tup (Ea ρ l)
 | .l _=>.lst
 | .m n=>.int (-n)
 | .w=>.int (10 ^ 30)
 | .d=>.dic
def Ea (ρ:Nat→Th):List Dx→List Th
 | []=>[]
 | d::ds=>Km ρ d::Ea ρ ds
end
mutual
def Uu (vs:List Nat):Dx→Bool
 | .s z=>decide ((Str.ofString z).length≤1000)
 | .t l=>decide (l.length≤1000)&&Uv vs l
 | .l k=>decide (k.length≤1000)&&Uv vs k
 | .v k=>decide (k∈vs)
 | _=>true
def Uv (vs:List Nat):List Dx→Bool
 | []=>true
 | d::ds=>Uu vs d&&Uv vs ds
end
theorem Av (ρ:Nat→Th):∀ ds:List Dx,(Ea ρ ds).length=ds.length
 | []=>by rw[Ea];rfl
 | d::ds=>by rw[Ea,List.length_cons,List.length_cons,Av ρ ds]
def Ii (vs:List Nat)(σ:St)(H:Hp)(ρ:Nat→Th):Prop:=∀ k∈vs,∃ v,σ[k]?=some (some v)∧Al H v (ρ k)
theorem Ii.same {vs:List Nat}{σ:St}{H H':Hp}{ρ:Nat→Th}(h:Ii vs σ H ρ)(s:AF H H'):Ii vs σ H' ρ:=fun k hk=>let ⟨v,a,b⟩:=h k hk;⟨v,a,b.same s⟩
mutual
theorem YZ {vs:List Nat}{ρ:Nat→Th}{σ:St}:∀(d:Dx) {H:Hp} {Q:VK},Uu vs d=true→Ii vs σ H ρ→(∀(v:V) (H':Hp),Al H' v (Km ρ d)→AF H H'→Q v H')→O1 d σ H Q
 | .s z,H,Q,ok,hv,k=>by rw[O1];exact k _ _ (by rw[Km];exact .str _ (of_decide_eq_true (by rw[Uu]at ok;exact ok))) (AF.refl _)
 | .i n,H,Q,ok,hv,k=>by rw[O1];exact k _ _ (by rw[Km];exact .int _) (AF.refl _)
 | .b x,H,Q,ok,hv,k=>by rw[O1];exact k _ _ (by rw[Km];exact .bl _) (AF.refl _)
 | .n,H,Q,ok,hv,k=>by rw[O1];exact k _ _ (by rw[Km];exact .non) (AF.refl _)
 | .v j,H,Q,ok,hv,k=>by
  obtain⟨v,e,a⟩:=hv j (of_decide_eq_true (by rw[Uu]at ok;exact ok))
  rw[O1];exact⟨v,e,k _ _ (by rw[Km];exact a) (AF.refl _)⟩
 | .t l,H,Q,ok,hv,k=>by
  rw[Uu,Bool.and_eq_true]at ok
  rw[O1]
  refine Wn l ok.2 hv fun vs H1 p s1=>⟨BJ (by rw[Paired.length p,Av];exact of_decide_eq_true ok.1),fun q hq=>?_⟩
  exact k _ _ (by rw[Km];exact YS hq (EI p (AF.new hq))) (s1.trans (AF.new hq))
 | .l kk,H,Q,ok,hv,k=>by
  rw[Uu,Bool.and_eq_true]at ok
  rw[O1]
  refine Wn kk ok.2 hv fun vs H1 p s1=>⟨BJ (by rw[Paired.length p,Av];exact of_decide_eq_true ok.1),fun q hq=>?_⟩
  exact k _ _ (by rw[Km];exact Ym hq) (s1.trans (AF.new hq))
 | .m n,H,Q,ok,hv,k=>by rw[O1];exact⟨n,rfl,k _ _ (by rw[Km];exact .int _) (AF.refl _)⟩
 | .w,H,Q,ok,hv,k=>by rw[O1];exact⟨_,_,rfl,rfl,⟨by decide,by decide,by decide⟩,k _ _ (by rw[Km];exact .int _) (AF.refl _)⟩
 | .d,H,Q,ok,hv,k=>by rw[O1];exact fun p hp=>k _ _ (by rw[Km];exact .dic AE) (AF.new hp)
theorem Wn {vs:List Nat}{ρ:Nat→Th}{σ:St}:∀(ds:List Dx) {H:Hp} {Q:List V→Hp→Prop},Uv vs ds=true→Ii vs σ H ρ→(∀(vs:List V) (H':Hp),Paired (Al H') vs (Ea ρ ds)→AF H H'→Q vs H')→TM ds σ H Q
 | [],H,Q,ok,hv,k=>by rw[TM];exact k [] H (by rw[Ea];exact .nil) (AF.refl _)
 | d::ds,H,Q,ok,hv,k=>by
  rw[Uv,Bool.and_eq_true]at ok
  rw[TM]
  refine YZ d ok.1 hv fun v H1 f1 s1=>Wn ds ok.2 (hv.same s1) fun vs H2 p2 s2=>?_
  exact k (v::vs) H2 (by rw[Ea];exact .cons (f1.same s2) p2) (s1.trans s2)
end
def OF (H:Hp)(l:Addr)(ts:List Th):Prop:=∃ us,H l=some (.lst us)∧Paired (Al H) us ts
theorem OF.same {H H':Hp}{l:Addr}{ts:List Th}(h:OF H l ts)(s:AF H H'):OF H' l ts:=by
 obtain⟨us,a,b⟩:=h
 exact⟨us,s _ _ a,EI b s⟩
theorem NC {vs:List Nat}{ρ:Nat→Th}{ds:List Dx}{σ:St}{H:Hp}{Q:VK}(hv:Ii vs σ H ρ)(ok:Uv vs ds=true)(hM:ds.length≤1000)(k:∀(l:Addr) (G:Hp),OF G l (Ea ρ ds)→H l=none→AF H G→Q (.ref l) G):JE (TM ds) σ H Q:=
 Wn ds ok hv fun vs H1 p s1=>⟨BJ (by rw[Paired.length p,Av];exact hM),fun q hq=>k q _ ⟨vs,AE,EI p (AF.new hq)⟩ (AF.back0 s1 hq) (s1.trans (AF.new hq))⟩
theorem HM {te:TE}{σ:St}{H:Hp}{Q:VK}(h:te σ H fun v H1=>∀ l,H1 l=none→Q (.ref l) (upd H1 l (.lst [v]))):JE (DT te Tj) σ H Q:=by
 show te σ H fun v H1=>_
 have e:(fun(v:V) (H1:Hp)=>∀ l,H1 l=none→Q (.ref l) (upd H1 l (.lst [v])))=fun v H1=>([v].length≤sizeLine∧∀ l,H1 l=none→Q (.ref l) (upd H1 l (.lst [v]))):=by
  funext v H1
  exact propext ⟨fun x=>⟨Fh,x⟩,fun x=>x.2⟩
 rw[e]at h
 exact h
theorem HH {r:R2}{ta tb:TE}{σ:St}{H:Hp}{Q:VK}(h:ta σ H fun x H1=>tb σ H1 fun y H2=>r x y H2 Q):Td r ta tb σ H Q:=h
theorem Sd {vs:List Nat}{ρ:Nat→Th}{d:Dx}{σ:St}{H:Hp}{Q:VK}(hv:Ii vs σ H ρ)(ok:Uu vs d=true)(k:∀(v:V) (H':Hp),Al H' v (Km ρ d)→AF H H'→Q v H'):O1 d σ H Q:=YZ d ok hv k
theorem O2 {H H':Hp}{p l:Addr}(k:KeepX p H H')(np:l≠p)(h:H' l=none):H l=none:=by
 cases e:H l with
 | none=>rfl
 | some o=>rw[k _ _ np e]at h;cases h
theorem Se {zs:List Str}:WP (some (zs.map Th.str))=zs:=by
 show(zs.map Th.str).map FX=zs
 rw[List.map_map]
 exact List.map_id zs
theorem YA {H:Hp}{p l:Addr}{q:Pq}{v:V}{r:Rw}(P:Gk H p q)(hl:H l=some (.lst [v,.ref q.lc,.ref q.ln,.ref q.lo,.int q.r]))(hv:BU H v r)(h:RM r=false):NB H l:=⟨_,_,_,_,_,_,_,_,_,_,hl,hv,P.rw1,P.rw2,P.rw3,.int _,Wh h⟩
theorem Sf {H:Hp}{p l:Addr}{q:Pq}{v:V}{r:Rw}(P:Gk H p q)(hl:H l=some (.lst [.ref q.sl,v,.ref q.ln,.ref q.lo,.int q.r]))(hv:BU H v r)(h:O8 q.zs r=false):NB H l:=⟨_,_,_,_,_,_,_,_,_,_,hl,P.rw0,hv,P.rw2,P.rw3,.int _,Wi (by rw[Se];exact h)⟩
theorem Sg {H:Hp}{p l:Addr}{q:Pq}{v:V}{r:Rw}(P:Gk H p q)(hl:H l=some (.lst [.ref q.sl,.ref q.lc,v,.ref q.lo,.int q.r]))(hv:BU H v r)(h:Jr JB 8 r=false):NB H l:=⟨_,_,_,_,_,_,_,_,_,_,hl,P.rw0,P.rw1,hv,P.rw3,.int _,Wj h⟩
theorem Sh {H:Hp}{p l:Addr}{q:Pq}{v:V}{r:Rw}(P:Gk H p q)(hl:H l=some (.lst [.ref q.sl,.ref q.lc,.ref q.ln,v,.int q.r]))(hv:BU H v r)(h:Jr JC 6 r=false):NB H l:=⟨_,_,_,_,_,_,_,_,_,_,hl,P.rw0,P.rw1,P.rw2,hv,.int _,Wk h⟩
theorem YB {H:Hp}{p l:Addr}{q:Pq}{v:V}{t:Th}(P:Gk H p q)(hl:H l=some (.lst [.ref q.sl,.ref q.lc,.ref q.ln,.ref q.lo,v]))(hv:Al H v t)(h:SK 4 t=false):NB H l:=⟨_,_,_,_,_,_,_,_,_,_,hl,P.rw0,P.rw1,P.rw2,P.rw3,hv,Wl h⟩
theorem Al.pn {K:PySem.W.Frag}{S:Addr×List Int}{H H':Hp}{p:Addr}{n m:Nat}{v:V}{th:Th}(h:Al H v th)(a:BD K S H p n)(b:BD K S H' p m)(s:KeepX p H H'):Al H' v th:=by
 obtain⟨vs,ea⟩:=a.ob
 obtain⟨vs',eb⟩:=b.ob
 induction h with
 | non=>exact .non
 | bl b=>exact .bl b
 | int i=>exact .int i
 | str z hz=>exact .str z hz
 | @lst x xs e=>
  by_cases c:x=p
  ·subst c;exact .lst eb
  ·exact .lst (s _ _ c e)
 | dic e=>exact .dic (s _ _ (CJ e ea (by intro z;cases z)) e)
 | tup e hn hh ih=>exact .tup (s _ _ (CJ e ea (by intro z;cases z)) e) hn fun j u t x y=>ih j u t x y
theorem OF.kx {K:PySem.W.Frag}{S:Addr×List Int}{H H':Hp}{p l:Addr}{n m:Nat}{ts:List Th}(h:OF H l ts)(nl:l≠p)(a:BD K S H p n)(b:BD K S H' p m)(s:KeepX p H H'):OF H' l ts:=by
 obtain⟨us,x,y⟩:=h
 exact⟨us,s _ _ nl x,Paired.imp' (fun _ _ z=>z.pn a b s) y⟩
theorem Lz {H:Hp}{l:Addr}{ts:List Th}{r:Int}(h:OF H l ts)(h0:0≤r)(h1:r<(ts.length:Int)):∃ us v t,H l=some (.lst us)∧Hb us r=some v∧t∈ts∧Al H v t:=by
 obtain⟨us,x,p⟩:=h
 have hl:us.length=ts.length:=Paired.length p
 obtain⟨j,rfl⟩:∃ j:Nat,r=(j:Int):=⟨r.toNat,by omega⟩
 have hj:j<us.length:=by omega
 obtain⟨t,ht,hv⟩:=BQ p (List.getElem?_eq_getElem hj)
 exact⟨us,us[j],t,x,BK (List.getElem?_eq_getElem hj),List.mem_of_getElem? ht,hv⟩
theorem RE {f:Th→Bool}{ts:List Th}{t:Th}(h:f t=false):(ts++[t]).all f=false:=by rw[List.all_append,List.all_cons,h];simp
theorem L9 {H:Hp}{l1 l2:Addr}{ts ss:List Th}{Q:VK}(a:OF H l1 ts)(b:OF H l2 ss)(hl:ts.length+ss.length≤1000)(k:∀ n G,OF G n (ts++ss)→AF H G→H n=none→Q (.ref n) G):VW (.ref l1) (.ref l2) H Q:=by
 obtain⟨us,a1,a2⟩:=a
 obtain⟨ws,b1,b2⟩:=b
 exact⟨l1,l2,us,ws,rfl,rfl,a1,b1,BJ (by rw[Paired.length a2,Paired.length b2];exact hl),fun n hn=>k n _ ⟨_,AE,FM (EI a2 (AF.new hn)) (EI b2 (AF.new hn))⟩ (AF.new hn) hn⟩
theorem Ys:∀ i:Nat,i<9→Hb (Str.ofString "abcdefghi").cps.toList (0+(i:Int))=some (97+i):=by nofun
theorem Yt:∀ i:Nat,i<7→Hb (Str.ofString "abcdefg").cps.toList (0+(i:Int))=some (97+i):=by nofun
theorem Yu:∀ i:Nat,i<9→(Str.ofString "ab"++(⟨#[97+i]⟩:Str)).length≤1000:=by nofun
theorem Yv:∀ i:Nat,i<7→(Str.ofString "ab"++(⟨#[97+i]⟩:Str)).length≤1000:=by nofun
theorem TN {f:Th→Bool}{m:Int}{ts:List Th}{t:Th}(h:f t=false):Jr f m (some (ts++[t]))=false:=by
 show(decide _&&(ts++[t]).all f&&_)=false
 rw[RE h,Bool.and_false]
 rfl
theorem Wo {zs:List Str}{ts:List Th}{t:Th}(h:Kl zs t=false):O8 zs (some (ts++[t]))=false:=by
 show(decide _&&(ts++[t]).all (Kl zs)&&_)=false
 rw[RE h,Bool.and_false]
 rfl
theorem RF {f:Th→Bool}{m:Int}{ts:List Th}(h:m<(ts.length:Int)):Jr f m (some ts)=false:=by
 show(decide ((ts.length:Int)≤m)&&ts.all f&&_)=false
 rw[decide_eq_false (by omega)]
 rfl
theorem Uw {zs:List Str}{ts:List Th}(h:60<ts.length):O8 zs (some ts)=false:=by
 show(decide ((ts.length:Int)≤60)&&ts.all (Kl zs)&&_)=false
 rw[decide_eq_false (by omega)]
 rfl
theorem OF.row {H:Hp}{l:Addr}{ts:List Th}(h:OF H l ts):BU H (.ref l) (some ts):=by
 obtain⟨us,a,b⟩:=h
 exact⟨l,us,rfl,a,b⟩
abbrev TQ:Th:=.tup [.str (zS "gone")]
abbrev P5 (q:Pq):List V:=[.ref q.sl,.ref q.lc,.ref q.ln,.ref q.lo,.int q.r]
theorem Eb {te:TE}{tg:TG}{B:TS}{D:JD}{σ:St}{H:Hp}(h:te σ H fun v H1=>tg v σ H1 fun σ2 H2=>B D σ2 H2):TY (RP te tg) B D σ H:=h
theorem Gx {i:Nat}{v:V}{σ:St}{H:Hp}{Q:St→Hp→Prop}{τ:St}(e:σ.set i (some v)=τ)(h:Q τ H):Kr i v σ H Q:=by subst e;exact h
theorem W6 {vs:List Nat}{ρ:Nat→Th}{ds:List Dx}{σ:St}{H:Hp}{Q:VK}(hv:Ii vs σ H ρ)(ok:Uv vs ds=true)(hM:ds.length≤1000)(k:∀(v:V) (G:Hp),Al G v (.tup (Ea ρ ds))→AF H G→Q v G):Tk (TM ds) σ H Q:=
 Wn ds ok hv fun vs H1 p s1=>⟨BJ (by rw[Paired.length p,Av];exact hM),fun q hq=>k _ _ (YS hq (EI p (AF.new hq))) (s1.trans (AF.new hq))⟩
theorem Si {σ:St}{H:Hp}{ρ:Nat→Th}:Ii [] σ H ρ:=fun _ h=>nomatch h
theorem Gm {k:Nat}{vs:List Nat}{σ:St}{H:Hp}{ρ:Nat→Th}{v:V}(e:σ[k]?=some (some v))(a:Al H v (ρ k))(h:Ii vs σ H ρ):Ii (k::vs) σ H ρ:=fun j hj=>by
 rcases List.mem_cons.mp hj with rfl | hj
 ·exact⟨v,e,a⟩
 ·exact h j hj
def Dv (z:Str):Nat→Th
 | 2=>.tup [.str (zS "number"),.int 1,.int 1]
 | 3=>.str z
 | 4=>.tup [.str (zS "formula"),.tup [.str (zS "param"),.int 0]]
 | 5=>Km (fun _=>.non) (.t [.s "formula",.t [.s "neg",.t [.s "neg",.t [.s "neg",.t [.s "neg",.t [.s "neg",.t [.s "neg",.t [.s "neg",.t [.s "neg",.t [.s "gone"]]]]]]]]]])
 | 7=>.tup [.str z,.int 9,.int 5]
 | _=>.non
def Wq (z:Str):List Th:=Ea (Dv z) [.t [.t [.v 3,.i 0,.i 1],.v 2],.t [.t [.v 3,.i 17,.i 1],.v 2],.t [.t [.v 3,.i 1,.i 9],.v 2],.t [.t [.s "lost",.i 1,.i 1],.v 2],.t [.v 3,.v 2]]++Ea (Dv z) [.t [.t [.v 3,.b true,.i 1],.v 2],.t [.l [.v 3,.i 9,.i 5],.v 2],.t [.t [.v 3,.i 9,.i 5],.n],.t [.t [.v 3,.i 9,.i 5],.t [.s "none"]]]++Ea (Dv z) [.t [.v 7,.t [.s "fault",.s "kind",.t [.v 3,.i 1,.i 1]]],.t [.v 7,.t [.s "number",.i 2,.i 4]],.l [.v 7,.v 2]]++Ea (Dv z) [.t [.v 7,.t [.s "text",.s "Up"]],.t [.v 7,.v 4],.t [.v 7,.t [.s "formula",.n]],.i 7,.t [.v 7,.v 5],.t [.v 7]]++Ea (Dv z) [.t [.v 7,.t [.s "formula"]],.t [.v 7,.t [.s "formula",.t [.s "sum"]]],.t [.v 7,.t [.s "number",.i 1,.w]]]
theorem Sj:∀ zs∈U9,(Wq (zs.headD Str.empty)).all (fun t=>!Kl zs t)=true:=by nofun
theorem Sk (z:Str):(Wq z).length=21:=by
 unfold Wq
 simp only[List.length_append,Av]
 rfl
theorem OG {q:Pq}{H:Hp}{p:Addr}(P:Gk H p q):∃ r,q.zs=q.zs.headD Str.empty::r:=by
 have:=P.zok.1
 cases h:q.zs with
 | nil=>rw[h]at this;exact absurd this (by decide)
 | cons z r=>exact⟨r,rfl⟩
theorem Ux {zs:List Str}{p:Pr}{cs:List Pr}(h:p∈cs):O8 zs (some (cs.map JL++[JL p]))=false:=by
 have e:(cs.map JL++[JL p]).map Lq=cs.map (·.1)++[p.1]:=by rw[List.map_append,List.map_map];rfl
 show(decide _&&_&&Ds ((cs.map JL++[JL p]).map Lq))=false
 rw[e,OA (List.mem_map.mpr ⟨p,h,rfl⟩),Bool.and_false]
def JM (H:Hp)(p:Addr)(v:V):Prop:=∃ r,BU H v r∧RM r=false∧v≠.ref p
theorem JM.same {H H':Hp}{p:Addr}{v:V}(h:JM H p v)(s:AF H H'):JM H' p v:=by
 obtain⟨r,a,b⟩:=h
 exact⟨r,a.same s,b⟩
theorem JM.kx {K:PySem.W.Frag}{S:Addr×List Int}{H H':Hp}{p:Addr}{n m:Nat}{v:V}(h:JM H p v)(a:BD K S H p n)(b:BD K S H' p m)(s:KeepX p H H'):JM H' p v:=by
 obtain⟨r,x,y,z⟩:=h
 refine⟨r,?_,y,z⟩
 cases r with
 | none=>obtain⟨th,c,d⟩:=x;exact⟨th,c.pn a b s,d⟩
 | some ts=>obtain⟨l,us,rfl,d,e⟩:=x;exact⟨l,us,rfl,s _ _ (fun w=>z (by rw[w])) d,Paired.imp' (fun _ _ w=>w.pn a b s) e⟩
theorem Gy {H:Hp}{p a:Addr}{us:List V}{ts:List Th}(h:H a=none)(np:a≠p)(pr:∀ G,Paired (Al G) us ts)(b:RM (some ts)=false):JM (upd H a (.lst us)) p (.ref a):=⟨some ts,⟨a,us,rfl,AE,pr _⟩,b,fun z=>np (by injection z)⟩
theorem Uy {zs:List Str}{z:Str}(h:z∈zs):RM (some ((zs++[z]).map Th.str))=false:=by
 have e:((zs++[z]).map Th.str).map FX=zs++[z]:=by rw[List.map_map];exact List.map_id _
 show(decide _&&_&&_&&Ds (((zs++[z]).map Th.str).map FX))=false
 rw[e,OA h,Bool.and_false]
def Ij (l:List String):List Th:=l.map fun z=>.str (Str.ofString z)
theorem Ik {H:Hp}:∀{l:List String},(l.all fun z=>decide ((Str.ofString z).length≤1000))=true→Paired (Al H) (l.map fun z=>V.str (Str.ofString z)) (Ij l)
 | [],_=>.nil
 | z::l,h=>by
  rw[List.all_cons,Bool.and_eq_true]at h
  exact .cons (.str _ (of_decide_eq_true h.1)) (Ik h.2)
theorem Wr {H:Hp}{u v:V}{c:Ct}(ok:KU c)(h1:Gh H u c)(h2:Gh H v c):Ak H 17 u v:=by
 cases c with
 | val w=>
  obtain⟨q,rfl,y1⟩:=h1
  obtain⟨r,rfl,y2⟩:=h2
  cases w with
  | none=>exact ok.2.elim
  | flt w' z r c=>exact ok.2.elim
  | num t b=>exact Cz y1 y2 rfl
  | txt z=>exact Cz y1 y2 rfl
  | tru b=>exact Cz y1 y2 rfl
 | fm f=>
  obtain⟨a,v1,rfl,x1,y1⟩:=h1
  obtain⟨b,v2,rfl,x2,y2⟩:=h2
  exact NA x1 x2 (.cons (.fl rfl) (.cons (ok.1.ak y1 y2) .nil))
theorem MA {own:Bool}{es:List El}(h:∀ e∈es,EX own e∧FO e.2.1 2 e.2.2∧Ei e.2.2≤4)(s:(es.map (·.1)).Sublist (if own=true then [zS "f",zS "g"]else [zS "n",zS "m"])):Cm own es:=by
 refine⟨?_,?_,fun e he=>(h e he).1⟩
 ·have:=s.length_le
  rw[List.length_map]at this
  cases own with
  | true=>show es.length≤6;exact Nat.le_trans this (by decide)
  | false=>show es.length≤8;exact Nat.le_trans this (by decide)
 ·refine List.Pairwise.sublist s ?_
  cases own with
  | true=>show [zS "f",zS "g"].Nodup;nofun
  | false=>show [zS "n",zS "m"].Nodup;nofun
theorem RG {H:Hp}:∀{kvs:List (List BY×V)} {cs:List Pr},Gj H kvs cs→∀{c:CK},c∈cs.map (·.1)→∃ v ct,EE kvs (GS.ckK c)=some v∧(c,ct)∈cs∧Gh H v ct
 | _,_,.nil,_,h=>nomatch h
 | kv::kvs,p::cs,.cons ⟨h1,h2⟩ t,c,h=>by
  by_cases e:p.1=c
  ·refine⟨kv.2,p.2,Eh (by rw[h1,e]),?_,h2⟩
   rw[← e]
   exact List.mem_cons_self
  ·rw[List.map_cons]at h
   rcases List.mem_cons.mp h with z | z
   ·exact absurd z.symm e
   ·obtain⟨v,ct,a,b,d⟩:=RG t z
    exact⟨v,ct,by rw[Dp fun z=>e (M0 (h1.symm.trans z))];exact a,List.mem_cons_of_mem _ b,d⟩
theorem Cm.srt {own:Bool}{ns ms:List El}(h:Cm own ms)(s:Ul ns ms):Cm own ns:=⟨by have:=s.perm.length_eq;rw[List.length_map,List.length_map]at this;rw[this];exact h.1,s.perm.symm.nodup h.2.1,fun e he=>h.2.2 e (s.sub e he)⟩
theorem W7 {H:Hp}{n:Nat}{β:Type}{F:V→β→Prop}:∀{us ws:List V} {ns:List β},Paired F us ns→Paired F ws ns→(∀ e∈ns,∀ x y,F x e→F y e→Ak H n x y)→Paired (Ak H n) us ws
 | _,_,_,.nil,.nil,_=>.nil
 | _,_,_,.cons a r,.cons b s,h=>.cons (h _ (by simp) _ _ a b) (W7 r s fun g hg=>h g (List.mem_cons_of_mem _ hg))
theorem OH {H:Hp}{n:Nat}:∀{zs:List Str},Paired (Ak H n) (zs.map V.str) (zs.map V.str)
 | []=>.nil
 | _::_=>.cons (.fl rfl) OH
theorem Bl.ak {own:Bool}{H:Hp}{e:El}(ok:EX own e){x y:V}(h1:Bl own H x e)(h2:Bl own H y e):Ak H 18 x y:=by
 obtain⟨a,v1,rfl,x1,y1⟩:=h1
 obtain⟨b,v2,rfl,x2,y2⟩:=h2
 have q:Ak H 17 v1 v2:=Lw (ok.fo.ak y1 y2) (by decide)
 cases own with
 | true=>exact NA (xs:=[.str e.1,.int e.2.1,v1]) (ys:=[.str e.1,.int e.2.1,v2]) x1 x2 (.cons (.fl rfl) (.cons (.fl rfl) (.cons q .nil)))
 | false=>exact NA (xs:=[.str e.1,v1]) (ys:=[.str e.1,v2]) x1 x2 (.cons (.fl rfl) (.cons q .nil))
theorem EK.ak {H:Hp}{p:Pr}(ok:KU p.2){x y:V}(h1:EK H x p)(h2:EK H y p):Ak H 18 x y:=by
 obtain⟨a,b,v1,rfl,x1,y1,z1⟩:=h1
 obtain⟨c,d,v2,rfl,x2,y2,z2⟩:=h2
 exact NA x1 x2 (.cons (Cz (n:=16) y1 y2 rfl (by show 3≤100;decide)) (.cons (Wr ok z1 z2) .nil))
theorem Uz {H:Hp}{b b2:Addr}{zs:List Str}{cs:List Pr}{ns os:List El}{r:Int}(h1:Ig H b zs cs ns os r)(h2:Ig H b2 zs cs ns os r)(hz:zs.length≤4)(hc:Fj zs cs)(hn:Cm false ns)(ho:Cm true os):Ak H 20 (.ref b) (.ref b2):=by
 obtain⟨t1,t2,t3,t4,xs,us,ws,a0,a1,a2,a3,a4,p1,p2,p3⟩:=h1
 obtain⟨u1,u2,u3,u4,xs',us',ws',b0,b1,b2',b3,b4,q1,q2,q3⟩:=h2
 have l1:xs.length=cs.length:=Paired.length p1
 have l2:us.length=ns.length:=Paired.length p2
 have l3:ws.length=os.length:=Paired.length p3
 have m1:=hc.1
 have m2:ns.length≤8:=hn.1
 have m3:os.length≤6:=ho.1
 refine NA a0 b0 (.cons (NA a1 b1 OH (by rw[List.length_map];omega)) (.cons (NA a2 b2' (W7 p1 q1 fun p hp x y=>EK.ak (hc.2.2 p hp).2) (by omega)) (.cons (NA a3 b3 (W7 p2 q2 fun e he x y=>Bl.ak (hn.2.2 e he)) (by omega)) (.cons (NA a4 b4 (W7 p3 q3 fun e he x y=>Bl.ak (ho.2.2 e he)) (by omega)) (.cons (.fl rfl) .nil)))))
theorem Ak.tr {H:Hp}{n:Nat}{u v:V}(h:Ak H n u v):KC H n u v:=by
 induction h with
 | fl h=>exact .fl h
 | tp h1 h2 _ hl _ ih=>exact .tp h1 h2 hl ih
theorem U0 {H:Hp}{n:Nat}{a b:Addr}(h:Ak H (n+1) (.ref a) (.ref b)):∃ xs ys,H a=some (.tup xs)∧H b=some (.tup ys)∧xs.length=ys.length∧∀(j:Nat) (u v:V),xs[j]?=some u→ys[j]?=some v→KC H n u v:=by
 cases h with
 | fl h=>cases h
 | tp h1 h2 _ hl hh=>exact⟨_,_,h1,h2,hl,fun j u v x y=>(hh j u v x y).tr⟩
theorem Gk.tb {H H':Hp}{p P:Addr}{q:Pq}{u:Array Value}(h:Gk H p q)(hP:H P=some (.tbl u))(k:KeepX P H H'):Gk H' p q:=by
 have nl:∀{a:Addr} {xs:List V},H a=some (.lst xs)→a≠P:=fun e=>CJ e hP (by intro z;cases z)
 have kp:Kp H H':=fun b xs e=>k _ _ (CJ e hP (by intro z;cases z)) e
 exact⟨k _ _ (nl h.hl) h.hl,k _ _ (nl h.hsl) h.hsl,k _ _ (nl h.hlc) h.hlc,k _ _ (nl h.hln) h.hln,k _ _ (nl h.hlo) h.hlo,Paired.imp' (fun _ _ x=>x.kp kp) h.pc,Paired.imp' (fun _ _ x=>x.kp kp) h.pn,Paired.imp' (fun _ _ x=>x.kp kp) h.po,h.zok,h.zss,h.cok,h.nok,h.ook,h.c8,h.r0,h.r4,h.n0,h.n1,h.n2,h.n3,h.n4⟩
theorem Bw.kl {H H':Hp}{P d:Addr}{q:Str}{vs:List V}(x:Bw H P q)(hd:H d=some (.lst vs))(h:KeepX d H H'):Bw H' P q:=by
 obtain⟨ps,a,b,c⟩:=x
 refine⟨ps,h _ _ (CJ a hd (by intro z;cases z)) a,b,fun pos cv e=>?_⟩
 obtain⟨c',e1,e2⟩:=c pos cv e
 exact⟨c',e1,e2.keep fun b o z=>h _ _ (CJ z hd (by intro z;cases z)) z⟩
theorem Bw.tbl {H:Hp}{P:Addr}{q:Str}(x:Bw H P q):∃ u,H P=some (.tbl u):=by
 obtain⟨ps,a,_⟩:=x
 exact⟨ps,a⟩
end Fs
open PySem L2 Mx Fs
namespace Fs
def CA (i:Nat):Stmt:=PySem.Challenge.pw_freshsheet_k26_no_books.main.body.getD i (.Pass ⟨0,0,0,0⟩)
abbrev Ep:Stmt:=CA 83
abbrev Fk:Stmt:=CA 82
abbrev Fl:Stmt:=CA 12
abbrev CB:Stmt:=CA 13
abbrev Er:Stmt:=CA 14
abbrev Cn:Stmt:=CA 20
abbrev Es:Stmt:=CA 21
abbrev Gn:Stmt:=CA 22
abbrev CS:Stmt:=CA 28
abbrev CT:Stmt:=CA 29
abbrev Go:Stmt:=CA 30
abbrev Co:Stmt:=CA 31
abbrev Fn:Stmt:=CA 32
abbrev Fo:Stmt:=CA 44
abbrev Et:Stmt:=CA 45
abbrev Dg:Stmt:=CA 46
abbrev CU:Stmt:=CA 47
abbrev Eu:Stmt:=CA 48
abbrev CC:Stmt:=CA 49
abbrev CD:Stmt:=CA 50
abbrev Ev:Stmt:=CA 51
abbrev Cp:Stmt:=CA 52
abbrev DF:Stmt:=CA 53
abbrev Ew:Stmt:=CA 54
abbrev Fp:Stmt:=CA 55
abbrev Fq:Stmt:=CA 56
abbrev Gp:Stmt:=CA 57
abbrev EL:Stmt:=CA 58
abbrev Dh:Stmt:=CA 66
abbrev Fr:Stmt:=CA 67
abbrev Il:Stmt:=CA 65
abbrev DG:Stmt:=CA 69
abbrev CV:Stmt:=CA 70
abbrev DH:Stmt:=CA 72
abbrev Im:Stmt:=CA 73
abbrev EM:Stmt:=CA 68
abbrev DI:Stmt:=CA 71
abbrev Cq:Stmt:=CA 75
abbrev EN:Stmt:=CA 74
abbrev Ex:Stmt:=CA 76
abbrev Ey:Stmt:=CA 77
abbrev Ft:Stmt:=CA 78
abbrev CW:Stmt:=CA 79
abbrev Gq:Stmt:=CA 80
abbrev EO:Stmt:=CA 84
abbrev Di:Stmt:=CA 85
abbrev CY:Stmt:=CA 86
abbrev EQ:Stmt:=CA 87
abbrev Ez:Stmt:=CA 88
abbrev E1:Stmt:=CA 89
abbrev DJ:Stmt:=CA 90
abbrev Dj:Stmt:=CA 91
abbrev ER:Stmt:=CA 92
abbrev E2:Stmt:=CA 93
abbrev DK:Stmt:=CA 94
abbrev ES:Stmt:=CA 95
abbrev DL:Stmt:=CA 101
abbrev CZ:Stmt:=CA 96
abbrev Ce:Stmt:=CA 97
abbrev Cf:Stmt:=CA 98
abbrev Cr:Stmt:=CA 99
abbrev Fu:Stmt:=CA 100
abbrev RH:Stmt:=CA 102
theorem Ws {α:Type}{us:List α}(h:us.length=1):∃ a0,us=[a0]:=match us,h with | [a0],_=>⟨a0,rfl⟩
set_option genInjectivity false in
set_option genSizeOf false in
structure Ad where
 aa:Addr
 ab:FuncData
 ac:Addr
 ad:FuncData
 ae:Addr
 af:FuncData
 ag:Addr
 ah:FuncData
 ai:Addr
 aj:FuncData
 ak:Addr
 al:FuncData
 am:Addr
 an:FuncData
 ao:Addr
 ap:FuncData
 aq:Addr
 ar:FuncData
 au:Addr
 av:FuncData
 aw:Addr
 ax:FuncData
 ay:Addr
 az:FuncData
 a0:Addr
 a1:FuncData
 a2:Addr
 a3:FuncData
 a4:Addr
 a5:FuncData
 a6:Addr
 a7:FuncData
 a8:Addr
 a9:FuncData
 ba:Addr
 bb:FuncData
 bc:Addr
 bd:FuncData
 be:Addr
 bf:FuncData
 bg:Addr
 bh:FuncData
 bi:Addr
 bj:FuncData
 bk:Addr
 bl:FuncData
 bm:Addr
 bn:FuncData
 bo:Addr
 bp:FuncData
 bq:Addr
 br:FuncData
 bs:Addr
 bt:FuncData
 bu:Addr
 bv:FuncData
 bw:Addr
 bx:FuncData
 bz:Addr
 b0:FuncData
 b1:Addr
 b2:FuncData
 b3:Addr
 b4:FuncData
 b5:Addr
 b6:FuncData
 b7:Addr
 b8:FuncData
 b9:Addr
 ca:FuncData
 cb:Addr
 cc:FuncData
 cd:Addr
 ce:FuncData
 cf:Addr
 cg:FuncData
 ch:Addr
 ci:FuncData
 cj:Addr
 ck:FuncData
 cl:Addr
 cm:FuncData
 cn:Addr
 co:FuncData
 cp:Addr
 cq:FuncData
 cr:Addr
 cs:FuncData
 ct:Addr
 cu:FuncData
 cv:Addr
 cw:FuncData
 cx:Addr
 cy:FuncData
 cz:Addr
 c0:FuncData
 c1:Addr
 c2:FuncData
 c3:Addr
 c4:FuncData
 c5:Addr
 c6:FuncData
 c7:Addr
 c8:FuncData
 c9:Addr
 da:FuncData
 db:Addr
 dc:FuncData
 dd:Addr
 de:FuncData
 df:Addr
 dg:FuncData
 dh:Addr
 di:FuncData
 dj:Addr
 dk:FuncData
 dl:Addr
 dm:FuncData
 dn:Addr
 dp:FuncData
 dq:Addr
 dr:FuncData
 ds:Addr
 dt:FuncData
 du:Addr
 dv:FuncData
 dw:Addr
 dx:Addr
 dy:Addr
 dz:Addr
 d0:Addr
 d1:Addr
 d2:Addr
 d3:Addr
 d4:Addr
 d5:Addr
 fe:Addr
 d7:Addr
structure Txt (w:World)(K:PySem.W.Frag)(mg:Str→Option Value)(t:Ad):Prop where
 d8:Df K mg "_law_next" Ep ["_law_pen_here","_law_many_here"] t.aa t.ab
 d9:Df K mg "_law_pen" Fk ["_law_script"] t.ac t.ad
 ea:Df K mg "is_whole" Fl ["thing"] t.ae t.af
 eb:Df K mg "greatest_divisor" CB ["one","other"] t.ag t.ah
 ec:Df K mg "is_number" Er ["top","bottom"] t.ai t.aj
 ed:Df K mg "is_sheet_name" Cn ["thing"] t.ak t.al
 ee:Df K mg "is_within" Es ["thing","last"] t.am t.an
 ef:Df K mg "is_cell" Gn ["thing"] t.ao t.ap
 eg:Df K mg "has_few_figures" CS ["thing"] t.aq t.ar
 eh:Df K mg "is_short_number" CT ["top","bottom"] t.au t.av
 ei:Df K mg "is_text" Go ["thing"] t.aw t.ax
 ej:Df K mg "is_fault_word" Co ["thing"] t.ay t.az
 ek:Df K mg "is_value" Fn ["thing"] t.a0 t.a1
 el:Df K mg "parts_of" Fo ["formula"] t.a2 t.a3
 em:Df K mg "all_parts" Et ["formula"] t.a4 t.a5
 en:Df K mg "count_parts" Dg ["formula"] t.a6 t.a7
 eo:Df K mg "is_formula_name" CU ["thing"] t.a8 t.a9
 ep:Df K mg "is_one_of" Eu ["thing","texts"] t.ba t.bb
 eq:Df K mg "is_written_value" CC ["thing"] t.bc t.bd
 er:Df K mg "is_sheet_or_none" CD ["thing"] t.be t.bf
 es:Df K mg "is_corner" Ev ["thing"] t.bg t.bh
 et:Df K mg "is_column_end" Cp ["thing"] t.bi t.bj
 eu:Df K mg "is_reference" DF ["thing"] t.bk t.bl
 ev:Df K mg "is_called" Ew ["thing"] t.bm t.bn
 ew:Df K mg "is_param" Fp ["thing","params"] t.bo t.bp
 ex:Df K mg "has_form" Fq ["thing","params"] t.bq t.br
 ey:Df K mg "is_tree" Gp ["thing","params","deep"] t.bs t.bt
 ez:Df K mg "is_formula" EL ["thing","params"] t.bu t.bv
 e0:Df K mg "is_tuple_of" Dh ["thing","many"] t.bw t.bx
 e1:Df K mg "is_up_to" Fr ["thing","most"] t.bz t.b0
 e2:Df K mg "is_row" Il ["thing","most"] t.b1 t.b2
 e3:Df K mg "tells_sheets" DG ["formula"] t.b3 t.b4
 e4:Df K mg "is_book_formula" CV ["thing","params"] t.b5 t.b6
 e5:Df K mg "is_name_pair" DH ["thing"] t.b7 t.b8
 e6:Df K mg "is_own" Im ["thing"] t.b9 t.ca
 e7:Df K mg "is_content" EM ["thing"] t.cb t.cc
 e8:Df K mg "is_cell_pair" DI ["thing","sheets"] t.cd t.ce
 e9:Df K mg "has_each_once" Cq ["pairs"] t.cf t.cg
 fa:Df K mg "are_sheets" EN ["thing"] t.ch t.ci
 fb:Df K mg "are_cells" Ex ["thing","sheets"] t.cj t.ck
 fc:Df K mg "are_names" Ey ["thing"] t.cl t.cm
 fd:Df K mg "are_owns" Ft ["thing"] t.cn t.co
 fe:Df K mg "sorted_by_first" CW ["pairs"] t.cp t.cq
 ff:Df K mg "book_of" Gq ["sheets","cells","names","owns","rounds"] t.cr t.cs
 fg:Df K mg "_law_plain" EO ["_law_pen_here"] t.ct t.cu
 fh:Df K mg "_law_corner" Di ["_law_pen_here"] t.cv t.cw
 fi:Df K mg "_law_sheet_told" CY ["_law_pen_here","_law_sheets_here","_law_told_on"] t.cx t.cy
 fj:Df K mg "_law_place" EQ ["_law_pen_here","_law_sheets_here","_law_told_on"] t.cz t.c0
 fk:Df K mg "_law_leaf" Ez ["_law_pen_here","_law_sheets_here","_law_told_on","_law_params"] t.c1 t.c2
 fl:Df K mg "_law_many" E1 ["_law_pen_here","_law_sheets_here","_law_told_on","_law_params","_law_deep"] t.c3 t.c4
 fm:Df K mg "_law_formula" DJ ["_law_pen_here","_law_sheets_here","_law_told_on","_law_params","_law_deep"] t.c5 t.c6
 fn:Df K mg "_law_sheets" Dj ["_law_pen_here"] t.c7 t.c8
 fo:Df K mg "_law_names" ER ["_law_pen_here","_law_sheets_here"] t.c9 t.da
 fp:Df K mg "_law_owns" E2 ["_law_pen_here","_law_sheets_here"] t.db t.dc
 fq:Df K mg "_law_content" DK ["_law_pen_here","_law_sheets_here","_law_deep"] t.dd t.de
 fr:Df K mg "_law_cells" ES ["_law_pen_here","_law_sheets_here","_law_many_here","_law_deep"] t.df t.dg
 fs:Df K mg "_law_refused" DL ["_law_parts"] t.dh t.di
 ft:Df K mg "_law_odd_sheets" CZ ["_law_parts","_law_pen_here"] t.dj t.dk
 fu:Df K mg "_law_odd_cells" Ce ["_law_parts","_law_pen_here"] t.dl t.dm
 fv:Df K mg "_law_odd_names" Cf ["_law_parts","_law_pen_here"] t.dn t.dp
 fw:Df K mg "_law_odd_owns" Cr ["_law_parts","_law_pen_here"] t.dq t.dr
 fx:Df K mg "_law_odd" Fu ["_law_parts","_law_pen_here"] t.ds t.dt
 fy:Df K mg "law" RH ["_law_script"] t.du t.dv
 fz:mg "len"=none
 f0:mg "range"=none
 f1:mg "isinstance"=none
 f2:mg "int"=none
 f3:mg "bool"=none
 f4:mg "str"=none
 f5:mg "tuple"=none
 f6:mg "list"=none
 f7:mg "all"=none
 f8:mg "zip"=none
 f9:mg "min"=none
 ga:mg "sorted"=none
 gb:mg "set"=none
 gc:mg "abs"=none
 gd:mg "reversed"=none
 ge:mg "sum"=none
 gf:mg "dict"=none
 gg:mg "ValueError"=none
 gh:mg "SheetError"=some (.ref t.dw)
 gi:mg "NoBook"=some (.ref t.dx)
 gj:mg "NoName"=some (.ref t.dy)
 gk:mg "NoNumber"=some (.ref t.dz)
 gl:mg "NoPlace"=some (.ref t.d0)
 gm:mg "NoRedo"=some (.ref t.d1)
 gn:mg "NoRow"=some (.ref t.d2)
 go:mg "NoText"=some (.ref t.d3)
 gp:mg "NoUndo"=some (.ref t.d4)
 gq:mg "TooGreat"=some (.ref t.d5)
 gr:UM mg "LETTERS" (Str.ofString "abcdefghijklmnopqrstuvwxyz")
 gs:FK mg "LONGEST_NAME" 6
 gt:FK mg "LAST_ROW" 16
 gu:FK mg "LAST_COLUMN" 8
 gv:UM mg "SIGNS" (Str.ofString "abcdefghijklmnopqrstuvwxyz0123456789 ")
 gw:QZ K mg "FAULTS" (EG.map V.str)
 gx:FK mg "MOST_SIGNS" 20
 gy:FK mg "GREATEST_WHOLE" 999999999999999999999999999999
 gz:FK mg "MOST_PARTS" 24
 g0:FK mg "MOST_DEEP" 8
 g1:FK mg "MOST_OWN_PARTS" 3
 g2:FK mg "MOST_PARAMS" 3
 g3:FK mg "GREATEST_WRITTEN" 999999999
 g4:QZ K mg "WORDS" S7
 g5:QZ K mg "OP_SIGNS" UV
 g6:QZ K mg "SUMIF_SIGNS" U6
 g7:T5 w K mg "LENGTHS" Op
 g8:Vi w K mg "PART_PLACES" Wy
 g9:FK mg "MOST_SHEETS" 4
 ha:FK mg "MOST_CELLS" 60
 hb:FK mg "MOST_NAMES" 8
 hc:FK mg "MOST_OWNS" 6
 hd:FK mg "MOST_ROUNDS" 4
 he:PySem.W.kitOne K (.type "NoneType") (.type "int")=some false
 hf:PySem.W.kitOne K (.type "NoneType") (.type "bool")=some false
 hg:PySem.W.kitOne K (.type "NoneType") (.type "str")=some false
 hh:PySem.W.kitOne K (.type "NoneType") (.type "tuple")=some false
 hi:PySem.W.kitOne K (.type "bool") (.type "int")=some true
 hj:PySem.W.kitOne K (.type "bool") (.type "bool")=some true
 hk:PySem.W.kitOne K (.type "bool") (.type "str")=some false
 hl:PySem.W.kitOne K (.type "bool") (.type "tuple")=some false
 hm:PySem.W.kitOne K (.type "int") (.type "int")=some true
 hn:PySem.W.kitOne K (.type "int") (.type "bool")=some false
 ho:PySem.W.kitOne K (.type "int") (.type "str")=some false
 hp:PySem.W.kitOne K (.type "int") (.type "tuple")=some false
 hq:PySem.W.kitOne K (.type "str") (.type "int")=some false
 hr:PySem.W.kitOne K (.type "str") (.type "bool")=some false
 hs:PySem.W.kitOne K (.type "str") (.type "str")=some true
 ht:PySem.W.kitOne K (.type "str") (.type "tuple")=some false
 hu:PySem.W.kitOne K (.type "list") (.type "int")=some false
 hv:PySem.W.kitOne K (.type "list") (.type "bool")=some false
 hw:PySem.W.kitOne K (.type "list") (.type "str")=some false
 hx:PySem.W.kitOne K (.type "list") (.type "tuple")=some false
 hy:PySem.W.kitOne K (.type "dict") (.type "int")=some false
 hz:PySem.W.kitOne K (.type "dict") (.type "bool")=some false
 h0:PySem.W.kitOne K (.type "dict") (.type "str")=some false
 h1:PySem.W.kitOne K (.type "dict") (.type "tuple")=some false
 h2:PySem.W.kitOne K (.type "tuple") (.type "int")=some false
 h3:PySem.W.kitOne K (.type "tuple") (.type "bool")=some false
 h4:PySem.W.kitOne K (.type "tuple") (.type "str")=some false
 h5:PySem.W.kitOne K (.type "tuple") (.type "tuple")=some true
 h6:PySem.W.kitOne K (.type "str") (.type "tuple")=some false
 h7:PySem.W.kitOne K (.type "int") (.type "tuple")=some false
 h8:PySem.W.kitOne K (.type "int") (.type "bool")=some false
 h9:PySem.W.exmOne K (.ref t.dx) (.ref t.dw)=some true
 ia:PySem.W.kitAny K (.ref t.dx) [.ref t.dy,.ref t.dz,.ref t.d0,.ref t.d1,.ref t.d2,.ref t.d3,.ref t.d4,.ref t.d5]=some false
 ib:PySem.W.kitOne K (.ref t.dx) (.type "ValueError")=some true
 ic:PySem.W.kitOne K (.type "NoneType") (.type "list")=some false
 id:PySem.W.kitOne K (.type "bool") (.type "list")=some false
 ie:PySem.W.kitOne K (.type "int") (.type "list")=some false
 ig:PySem.W.kitOne K (.type "str") (.type "list")=some false
 ih:PySem.W.kitOne K (.type "dict") (.type "list")=some false
 ii:Tu K "NoBook" t.dx
 ij:RY K t.dx
 ik:t.cq.code=.ref t.fe
theorem U1 {w:World}{K:PySem.W.Frag}{mg:Str→Option Value}{t:Ad}(T:Txt w K mg t)(th:Th):PySem.W.kitOne K (.type (S3 th)) (.type "bool")=some (Ej th):=by
 cases th with
 | non=>exact T.hf
 | bl b=>exact T.hj
 | int i=>exact T.hn
 | str z=>exact T.hr
 | lst=>exact T.hv
 | dic=>exact T.hz
 | tup ts=>exact T.h3
def Wt (t:Ad):Sp:=fun vs H _ E=>∃(v0 v1 v2 v3 v4:V) (r0 r1 r2 r3:Rw) (t4:Th),vs=[v0,v1,v2,v3,v4]∧BU H v0 r0∧BU H v1 r1∧BU H v2 r2∧BU H v3 r3∧Al H v4 t4∧Dt r0 r1 r2 r3 t4=false∧∀ H',AF H H'→E (.ref t.dx) none H'
seal PE PT PW PA PS Jv PI PG VG PF PO PJ FS DD Tn XQ
section
variable {P:Program}{w:World}{K:PySem.W.Frag}{mg:Str→Option Value}{base:Heap}{t:Ad}
theorem Ba:AZ ["_law_pen_here","_law_many_here","_law_script","_law_count","_law_rest","_law_cell","_law_number"] ["_law_pen_here","_law_many_here"] (AO Ep):=BC
theorem AN (T:Txt w K mg t):A1 P w K mg base Bo 1 t.aa t.ab ["_law_pen_here","_law_many_here"] (Vv K):=by
 have D:=T.d8
 refine D.fn.okX Ba ?_ (fun cdv A outer s H vs Q E hr h Z hZ=>?_)
 ·rintro _ _ _ _ ⟨p,m,n,S,rfl,_⟩
  rfl
 ·obtain⟨p,m,n,S,rfl,hm,hz,hpen,hn,k⟩:=h
  refine hZ ⟨_,((AG (MP (AK 0) (Tr rfl (Hr (DR (i:=2) Ba.nd rfl (Or.inl rfl)) (Hr (DR (i:=3) Ba.nd rfl (Or.inl rfl)) (Hr (DR (i:=4) Ba.nd rfl (Or.inl rfl)) RO)))))
   (AG (MP (An Bv (AK 3) AD) (PD (AK 0) AD Ky))
   (AG (Ah (By (AX Aq (AW Aj (by rfl) T.fz PySem.boot_len (AA (AK 2) AC)) AD (AS _)) (Bu (AX Aq (An Cl (AV Ai (AK 2) AD (fun _ _=>rfl)) AD) AD (AS _)))).pt (AG (Af (i:=5) Ba.nd rfl (Or.inl rfl) AD)
   (AG (Ah (AX Hu (AW Aj (by rfl) T.fz PySem.boot_len (AA (AK 2) AC)) AD (AS _)) (AH (Af (i:=5) Ba.nd rfl (Or.inl rfl) (AV Ai (AK 2) (An Cl (An Bv (An F6 (AK 3) AD) AD) (AW Aj (by rfl) T.fz PySem.boot_len (AA (AK 2) AC))) (fun _ _=>rfl)))) AT)
   (AG (Af (i:=6) Ba.nd rfl (Or.inl rfl) (An Cl (An Bv (An Bv (An Cl (AK 5) AD) (An F6 AD (AK 3))) AD) AD))
   (AG (Af (i:=6) Ba.nd rfl (Or.inl rfl) (An Cl (An F6 (AK 6) (An Bv (AK 6) AD)) AD))
   (AG (Af (i:=6) Ba.nd rfl (Or.inl rfl) (An Cl (An F6 (AK 6) (An Bv (AK 6) AD)) AD))
   (AH (AM (An Cl (An F1 (AK 6) AD) (AK 1))))))))) AT)
   (AG (Ah (AX Aq (An Cl (AK 3) AD) AD (AS _)) (AG (Af (i:=4) Ba.nd rfl (Or.inl rfl) AD)
   (AH (Ah (AX EV (An Bv AD (An F1 (AK 3) AD)) (AW Aj (by rfl) T.fz PySem.boot_len (AA (AK 2) AC)) (AS _)) (AH (Af (i:=4) Ba.nd rfl (Or.inl rfl) (AV Ai (AK 2) (An Bv AD (An F1 (AK 3) AD)) (fun _ _=>rfl)))) AT))) AT)
   (AG (MP (An PY (AK 4) (AK 1)) (PD (AK 0) AD Ky))
   (AH (AM (An Cl (AK 4) (AK 1)))))))))),?_⟩
  try dsimp only[BB,Au]
  obtain⟨a,ns⟩:=S
  obtain⟨c,r,hp,hS,hc0,hc1,h63⟩:=hpen
  dsimp only at hp hS h63
  refine⟨_,rfl,p,_,rfl,As.of hp,rfl,_,_,rfl,_,_,rfl,_,_,rfl,rfl,?_⟩
  refine⟨_,rfl,_,_,rfl,rfl,_,rfl,p,_,_,1,rfl,rfl,hp,rfl,?_⟩
  have hS1:∀{o},As K (upd H p o) a (ns.map V.int):=fun {o}=>As.kl hS hp KeepX.upd
  have fin:∀(r' x:Int) (H2:Hp),0≤x→x<m→H2 p=some (.lst [.ref a,.int (c+1),.int r'])→KeepX p H H2→Q (.int x) H2:=fun r' x H2 x0 x1 h2 kp=>
   k x H2 x0 x1 ⟨c+1,r',h2,As.kl hS hp kp,by omega,by omega,h63⟩ kp
  have hlen:(ns.map V.int).length=ns.length:=List.length_map _
  have l0:V.bl (decide (V.int ((ns.map V.int).length:Int)=V.int 0))=V.bl (decide (ns.length=0)):=by
   congr 1
   by_cases z:ns.length=0
   ·rw[decide_eq_true z];exact decide_eq_true (by rw[hlen,z];rfl)
   ·rw[decide_eq_false z];exact decide_eq_false fun e=>z (by injection e with e;omega)
  refine⟨_,rfl,a,_,rfl,.inl hS1,rfl,_,l0,Bn (fun c1=>AU ?_) (fun c1=>?_)⟩
  ·refine⟨_,rfl,a,_,rfl,.inl hS1,_,_,rfl,rfl,false,?_,AY ?_⟩
   ·have z:=of_decide_eq_true c1
    exact congrArg V.bl (decide_eq_false (by rw[hlen,z];decide))
   have n1:=Int.emod_nonneg (5) (show(2147483629:Int)≠0 by decide)
   have n2:=Int.emod_lt_of_pos (5) (show(0:Int)<2147483629 by decide)
   refine⟨_,rfl,_,_,rfl,rfl,(by show(0:Int)<_;decide),_,rfl,_,_,rfl,rfl,⟨Ag (by decide) (by decide),Ag (by omega) (by omega)⟩,_,_,rfl,rfl,_,_,rfl,rfl,_,_,rfl,rfl,(by show(0:Int)<_;decide),?_⟩
   have m1:=Int.emod_nonneg ((5)%2147483629+69621*c+17) (show(2147483647:Int)≠0 by decide)
   have m2:=Int.emod_lt_of_pos ((5)%2147483629+69621*c+17) (show(0:Int)<2147483647 by decide)
   generalize ((5)%2147483629+69621*c+17)%2147483647=x at m1 m2 ⊢
   refine⟨_,rfl,_,rfl,_,_,rfl,rfl,_,_,rfl,rfl,⟨Ag (by omega) (by omega),Ag (by omega) (by omega)⟩,_,_,rfl,rfl,(by show(0:Int)<_;decide),?_⟩
   have q1:=Int.emod_nonneg (x*(x+40503)) (show(2147483629:Int)≠0 by decide)
   have q2:=Int.emod_lt_of_pos (x*(x+40503)) (show(0:Int)<2147483629 by decide)
   generalize (x*(x+40503))%2147483629=w' at q1 q2 ⊢
   refine⟨_,rfl,_,rfl,_,_,rfl,rfl,_,_,rfl,rfl,⟨Ag (by omega) (by omega),Ag (by omega) (by omega)⟩,_,_,rfl,rfl,(by show(0:Int)<_;decide),?_⟩
   refine⟨_,rfl,_,_,rfl,rfl,⟨by decide,by decide⟩,_,rfl,_,_,rfl,rfl,hm,?_⟩
   exact fin r _ _ (Int.emod_nonneg _ (by omega)) (Int.emod_lt_of_pos _ hm) AE KeepX.upd
  ·have hl:0<ns.length:=by
    have:¬ ns.length=0:=fun z=>c1 (decide_eq_true z)
    omega
   obtain⟨v0,hv0⟩:=IQ (ns:=ns) (r:=0) (by decide) (by omega)
   refine⟨_,rfl,a,_,_,_,rfl,rfl,hS1,hv0,_,_,rfl,rfl,(by show(0:Int)<_;decide),rfl,_,rfl,Bn (fun c2=>?_) (fun c2=>?_)⟩
   ·obtain⟨v,hv⟩:=IQ (ns:=ns) (Int.emod_nonneg (c*3+1) (show(ns.length:Int)≠0 by omega)) (Int.emod_lt_of_pos (c*3+1) (show(0:Int)<ns.length by omega))
    refine⟨_,rfl,a,_,rfl,.inl hS1,_,_,rfl,rfl,true,congrArg V.bl (decide_eq_true (by rw[hlen];omega)),AU ?_⟩
    refine⟨_,rfl,_,rfl,_,_,rfl,rfl,⟨Ag (by omega) (by omega),Ag (by decide) (by decide)⟩,_,_,rfl,rfl,_,rfl,a,_,rfl,.inl hS1,_,_,rfl,rfl,(by rw[hlen];omega),a,_,_,_,rfl,rfl,hS1,(by rw[hlen];exact hv),?_⟩
    have n1:=Int.emod_nonneg (v) (show(2147483629:Int)≠0 by decide)
    have n2:=Int.emod_lt_of_pos (v) (show(0:Int)<2147483629 by decide)
    refine⟨_,rfl,_,_,rfl,rfl,(by show(0:Int)<_;decide),_,rfl,_,_,rfl,rfl,⟨Ag (by decide) (by decide),Ag (by omega) (by omega)⟩,_,_,rfl,rfl,_,_,rfl,rfl,_,_,rfl,rfl,(by show(0:Int)<_;decide),?_⟩
    have m1:=Int.emod_nonneg ((v)%2147483629+69621*c+17) (show(2147483647:Int)≠0 by decide)
    have m2:=Int.emod_lt_of_pos ((v)%2147483629+69621*c+17) (show(0:Int)<2147483647 by decide)
    generalize ((v)%2147483629+69621*c+17)%2147483647=x at m1 m2 ⊢
    refine⟨_,rfl,_,rfl,_,_,rfl,rfl,_,_,rfl,rfl,⟨Ag (by omega) (by omega),Ag (by omega) (by omega)⟩,_,_,rfl,rfl,(by show(0:Int)<_;decide),?_⟩
    have q1:=Int.emod_nonneg (x*(x+40503)) (show(2147483629:Int)≠0 by decide)
    have q2:=Int.emod_lt_of_pos (x*(x+40503)) (show(0:Int)<2147483629 by decide)
    generalize (x*(x+40503))%2147483629=w' at q1 q2 ⊢
    refine⟨_,rfl,_,rfl,_,_,rfl,rfl,_,_,rfl,rfl,⟨Ag (by omega) (by omega),Ag (by omega) (by omega)⟩,_,_,rfl,rfl,(by show(0:Int)<_;decide),?_⟩
    refine⟨_,rfl,_,_,rfl,rfl,⟨by decide,by decide⟩,_,rfl,_,_,rfl,rfl,hm,?_⟩
    exact fin r _ _ (Int.emod_nonneg _ (by omega)) (Int.emod_lt_of_pos _ hm) AE KeepX.upd
   ·refine⟨_,rfl,_,_,rfl,rfl,(by show(0:Int)<_;decide),rfl,_,rfl,Bn (fun c3=>?_) (fun c3=>?_)⟩
    ·refine⟨_,rfl,_,_,rfl,rfl,⟨by decide,by decide⟩,_,_,rfl,rfl,_,rfl,a,_,rfl,.inl hS1,_,_,rfl,rfl,_,rfl,Bn (fun c4=>?_) (fun c4=>?_)⟩
     ·have c4':=of_decide_eq_true c4
      rw[hlen]at c4'
      obtain⟨v,hv⟩:=IQ (ns:=ns) (show 0≤1+c / 40 by omega) c4'
      refine⟨_,rfl,_,rfl,_,_,rfl,rfl,⟨by decide,by decide⟩,_,_,rfl,rfl,a,_,_,_,rfl,rfl,hS1,hv,?_⟩
      refine⟨_,rfl,_,rfl,_,_,rfl,rfl,⟨by omega,hz⟩,_,rfl,p,_,_,2,rfl,rfl,AE,rfl,?_⟩
      refine⟨_,rfl,_,rfl,_,_,rfl,rfl,hm,?_⟩
      exact fin _ _ _ (Int.emod_nonneg _ (by omega)) (Int.emod_lt_of_pos _ hm) AE (KeepX.trans KeepX.upd KeepX.upd)
     ·skip
      refine⟨_,rfl,_,rfl,_,_,rfl,rfl,⟨by omega,hz⟩,_,rfl,p,_,_,2,rfl,rfl,AE,rfl,?_⟩
      refine⟨_,rfl,_,rfl,_,_,rfl,rfl,hm,?_⟩
      exact fin _ _ _ (Int.emod_nonneg _ (by omega)) (Int.emod_lt_of_pos _ hm) AE (KeepX.trans KeepX.upd KeepX.upd)
    ·skip
     refine⟨_,rfl,_,rfl,_,_,rfl,rfl,⟨by omega,hz⟩,_,rfl,p,_,_,2,rfl,rfl,AE,rfl,?_⟩
     refine⟨_,rfl,_,rfl,_,_,rfl,rfl,hm,?_⟩
     exact fin _ _ _ (Int.emod_nonneg _ (by omega)) (Int.emod_lt_of_pos _ hm) AE (KeepX.trans KeepX.upd KeepX.upd)
theorem ND:AZ ["_law_script"] ["_law_script"] (AO Fk):=BC
theorem MB (T:Txt w K mg t):A1 P w K mg base Bo 1 t.ac t.ad ["_law_script"] (Vu K):=by
 have D:=T.d9
 refine D.fn.okX ND ?_ (fun cdv A outer s H vs Q E hr h Z hZ=>?_)
 ·rintro _ _ _ _ ⟨a,ns,rfl,_⟩
  rfl
 ·obtain⟨a,ns,rfl,hS,h63,k⟩:=h
  refine hZ ⟨_,((AH (AM (Ae (AA (AK 0) (AB AD (AB AD AC))))))),?_⟩
  try dsimp only[BB,Au]
  exact⟨_,rfl,BE,fun p hp=>k p _ hp ⟨0,0,AE,(AF.new hp).seq hS,by decide,by decide,h63⟩ (AF.new hp)⟩
theorem NE:AZ ["thing"] ["thing"] (AO Fl):=BC
theorem DY (T:Txt w K mg t):A1 P w K mg base Bo 1 t.ae t.af ["thing"] (Fi isInt):=by
 have D:=T.ea
 refine D.fn.okX NE ?_ (fun cdv A outer s H vs Q E hr h Z hZ=>?_)
 ·rintro _ _ _ _ ⟨v,th,rfl,_⟩
  rfl
 ·obtain⟨v,th,rfl,h,k⟩:=h
  refine hZ ⟨_,((AH (AM (Ax (AW Az (by rfl) T.f1 Aa (AA (AK 0) (AA (Bg T.f2 QW) AC))) (A6 (PC (AW Az (by rfl) T.f1 Aa (AA (AK 0) (AA (Bg T.f3 Dq) AC))))))))),?_⟩
  try dsimp only[BB,Au]
  cases id h with
  | non=>
   exact⟨_,rfl,_,_,_,_,false,rfl,h.ty,rfl,(fun _=>.inr trivial),T.he,false,rfl,AY (k _ (AF.refl _))⟩
  | bl b=>
   refine⟨_,rfl,_,_,_,_,true,rfl,h.ty,rfl,(fun _=>.inr trivial),T.hi,true,rfl,AU ?_⟩
   exact⟨_,rfl,_,_,_,_,true,rfl,h.ty,rfl,(fun _=>.inr trivial),T.hj,true,rfl,k _ (AF.refl _)⟩
  | int i=>
   refine⟨_,rfl,_,_,_,_,true,rfl,h.ty,rfl,(fun _=>.inr trivial),T.hm,true,rfl,AU ?_⟩
   exact⟨_,rfl,_,_,_,_,false,rfl,h.ty,rfl,(fun _=>.inr trivial),T.hn,false,rfl,k _ (AF.refl _)⟩
  | str z hz=>
   exact⟨_,rfl,_,_,_,_,false,rfl,h.ty,rfl,(fun _=>.inr trivial),T.hq,false,rfl,AY (k _ (AF.refl _))⟩
  | @lst a xs e=>
   exact⟨_,rfl,_,_,_,_,false,rfl,h.ty,rfl,(fun _=>.inr trivial),T.hu,false,rfl,AY (k _ (AF.refl _))⟩
  | @dic a kvs e=>
   exact⟨_,rfl,_,_,_,_,false,rfl,h.ty,rfl,(fun _=>.inr trivial),T.hy,false,rfl,AY (k _ (AF.refl _))⟩
  | @tup a us ts e hn hh=>
   exact⟨_,rfl,_,_,_,_,false,rfl,h.ty,rfl,(fun _=>.inr trivial),T.h2,false,rfl,AY (k _ (AF.refl _))⟩
theorem BR:AZ ["one","other","greater","lesser","rest"] ["one","other"] (AO CB):=BC
theorem FP (T:Txt w K mg t):A1 P w K mg base Bo 1 t.ag t.ah ["one","other"] Xn:=by
 have D:=T.eb
 refine D.fn.okX BR ?_ (fun cdv A outer s H vs Q E hr h Z hZ=>?_)
 ·rintro _ _ _ _ ⟨a,b,rfl,_⟩
  rfl
 ·obtain⟨a,b,rfl,k⟩:=h
  refine hZ ⟨_,((AG (Af (i:=2) BR.nd rfl (Or.inl rfl) (AW Hz (by rfl) T.gc IN (AA (AK 0) AC)))
   (AG (Af (i:=3) BR.nd rfl (Or.inl rfl) (AW Hz (by rfl) T.gc IN (AA (AK 1) AC)))
   (AG (Ks PassesOwn.never (AX Ht (AK 3) AD (AS _)) (AG (Af (i:=4) BR.nd rfl (Or.inl rfl) (An Cl (AK 2) (AK 3)))
   (AG (Af (i:=2) BR.nd rfl (Or.inl rfl) (AK 3))
   (AH (Af (i:=3) BR.nd rfl (Or.inl rfl) (AK 4))))))
   (AH (AM (AK 2))))))),?_⟩
  try dsimp only[BB,Au]
  refine⟨_,rfl,a,rfl,_,rfl,b,rfl,?_⟩
  refine PM (fun σ H'=>H'=H∧∃(m n:Nat) (r:Option V),σ=[some (.int a),some (.int b),some (.int m),some (.int n),r]∧Nat.gcd m n=Nat.gcd a.natAbs b.natAbs)
   (fun σ _=>Vq σ) ⟨rfl,a.natAbs,b.natAbs,none,by rw[← QV a,← QV b];rfl,rfl⟩ ?_ (fun σ H Q Q' hq ⟨v,e,z,c,e2,q⟩=>⟨v,e,z,c,e2,hq _ _ q⟩)
  rintro σ H' ⟨rfl,m,n,r,rfl,hg⟩
  refine⟨_,rfl,rfl,_,rfl,?_⟩
  refine Bn (fun hc=>?_) (fun hc=>?_)
  ·have hn:n≠0:=by intro z;subst z;simp at hc
   refine⟨_,rfl,_,rfl,_,_,rfl,rfl,(by show(0:Int)<(n:Int);omega),_,rfl,_,rfl,?_⟩
   refine⟨⟨rfl,n,m%n,some (.int ((m:Int)%(n:Int))),?_,by rw[QU];exact hg⟩,?_⟩
   ·rw[Int.natCast_emod];rfl
   ·show((m:Int)%(n:Int)).toNat<((n:Int)).toNat
    have h1:=Int.emod_lt_of_pos (m:Int) (show(0:Int)<n by omega)
    have h2:=Int.emod_nonneg (m:Int) (show(n:Int)≠0 by omega)
    omega
  ·have hn:n=0:=by
    rcases Nat.eq_zero_or_pos n with z | z
    ·exact z
    ·exfalso;apply hc;simp;omega
   subst hn
   rw[Nat.gcd_zero_right]at hg
   rw[← hg]at k
   exact⟨_,rfl,k⟩
theorem MC:AZ ["top","bottom"] ["top","bottom"] (AO Er):=BC
theorem Kb (T:Txt w K mg t):A1 P w K mg base Bo 2 t.ai t.aj ["top","bottom"] Xq:=by
 have D:=T.ec
 refine D.fn.okX MC ?_ (fun cdv A outer s H vs Q E hr h Z hZ=>?_)
 ·rintro _ _ _ _ ⟨t,b,rfl,_⟩
  rfl
 ·obtain⟨t,b,rfl,k⟩:=h
  refine hZ ⟨_,((AH (AM (Ax (Ao VQ (AK 1) AD (AS _)) (A6 (Ao Aq (AR T.eb (FP T) (BO hr) (AA (AK 0) (AA (AK 1) AC))) AD (AS _))))))),?_⟩
  try dsimp only[BB,Au]
  refine⟨_,rfl,_,_,rfl,rfl,_,rfl,?_⟩
  by_cases hb:1≤b
  ·rw[decide_eq_true hb]
   refine AU ⟨_,rfl,_,rfl,t,b,rfl,rfl,?_⟩
   have k:Q (.bl (decide (1≤b)&&decide (V.int ((Nat.gcd t.natAbs b.natAbs:Nat):Int)=V.int 1))) H:=k
   rw[decide_eq_true hb,Bool.true_and]at k
   exact k
  ·rw[decide_eq_false hb]
   refine AY ?_
   have k:Q (.bl (decide (1≤b)&&decide (V.int ((Nat.gcd t.natAbs b.natAbs:Nat):Int)=V.int 1))) H:=k
   rw[decide_eq_false hb,Bool.false_and]at k
   exact k
theorem HN:AZ ["thing"] ["thing"] (AO Cn):=BC
theorem B1 (T:Txt w K mg t):A1 P w K mg base Bo 1 t.ak t.al ["thing"] (Fi B4):=by
 have D:=T.ed
 refine D.fn.okX HN ?_ (fun cdv A outer s H vs Q E hr h Z hZ=>?_)
 ·rintro _ _ _ _ ⟨v,th,rfl,_⟩
  rfl
 ·obtain⟨v,th,rfl,h,k⟩:=h
  refine hZ ⟨_,((AG (Ah (By (A5 (A4 (AW Az (by rfl) T.f1 Aa (AA (AK 0) (AA (Bg T.f4 DE) AC))))) (By (AX EV (AW EB (by rfl) T.fz PySem.boot_len (AA (AK 0) AC)) AD (AS _)) (Bu (AX Hu (AW EB (by rfl) T.fz PySem.boot_len (AA (AK 0) AC)) (BN T.gs) (AS _))))).pt (AH (AM BF)) AT)
   (AH (AM (AW (Ch rfl) (by rfl) T.f7 Ci (B6 (Br (fv:=[]) (js:=[]) (cl:=[]) rfl (by with_unfolding_all rfl) ⟨rfl,by nofun,by nofun,rfl,by nofun,by nofun,(List.forall_mem_nil _),(List.forall_mem_nil _),.nil⟩ (Pb (AK 0)) (fun _ _ _ _ _=>CO) (fun _ _ _ _ _=>(Ao QX (AK 0) (Nq T.gr) rfl))) AC)))))),?_⟩
  try dsimp only[BB,Au]
  cases id h with
  | non=>
   exact⟨_,rfl,_,_,_,_,false,rfl,h.ty,rfl,(fun _=>.inr trivial),T.hg,false,rfl,AU (AU (k _ (AF.refl _)))⟩
  | bl b=>
   exact⟨_,rfl,_,_,_,_,false,rfl,h.ty,rfl,(fun _=>.inr trivial),T.hk,false,rfl,AU (AU (k _ (AF.refl _)))⟩
  | int i=>
   exact⟨_,rfl,_,_,_,_,false,rfl,h.ty,rfl,(fun _=>.inr trivial),T.ho,false,rfl,AU (AU (k _ (AF.refl _)))⟩
  | str z hz=>
   have hzz:z.length≤sizeLine:=BJ hz
   refine⟨_,rfl,_,_,_,_,true,rfl,h.ty,rfl,(fun _=>.inr trivial),T.hs,true,rfl,AY ?_⟩
   refine⟨_,rfl,z,rfl,hzz,_,_,rfl,rfl,_,rfl,?_⟩
   by_cases c0:(z.length:Int)<1
   ·rw[decide_eq_true c0]
    refine AU (AU (I0 ?_ (k _ (AF.refl _))))
    unfold B4
    simp only[decide_eq_true c0,Bool.not_true,Bool.not_false,Bool.true_and,Bool.false_and]
   rw[decide_eq_false c0]
   refine AY ?_
   refine⟨_,rfl,z,rfl,hzz,_,_,rfl,rfl,_,rfl,?_⟩
   by_cases c1:(6:Int)<(z.length:Int)
   ·rw[decide_eq_true c1]
    refine AU (I0 ?_ (k _ (AF.refl _)))
    unfold B4
    simp only[decide_eq_false c0,decide_eq_true c1,Bool.not_true,Bool.not_false,Bool.true_and,Bool.false_and]
   rw[decide_eq_false c1]
   refine AY ?_
   refine⟨_,rfl,z,rfl,fun D hD=>?_⟩
   obtain⟨W,w0,turn⟩:=IP (z:=z) (Str.ofString "abcdefghijklmnopqrstuvwxyz") hz hD
   refine⟨W,w0,fun i m' H' w'=>?_⟩
   rcases turn i m' H' w' with⟨st,rfl⟩ | h
   case inr=>exact .inr ⟨h.1,fun x H2 y=>h.2 _ _ x H2 y⟩
   refine .inl ⟨st,?_⟩
   refine⟨D,_,rfl,As.of AE,I0 ?_ (k _ (AF.new hD))⟩
   unfold B4
   simp only[decide_eq_false c0,decide_eq_false c1,Bool.not_false,Bool.true_and,EH]
  | @lst a xs e=>
   exact⟨_,rfl,_,_,_,_,false,rfl,h.ty,rfl,(fun _=>.inr trivial),T.hw,false,rfl,AU (AU (k _ (AF.refl _)))⟩
  | @dic a kvs e=>
   exact⟨_,rfl,_,_,_,_,false,rfl,h.ty,rfl,(fun _=>.inr trivial),T.h0,false,rfl,AU (AU (k _ (AF.refl _)))⟩
  | @tup a us ts e hn hh=>
   exact⟨_,rfl,_,_,_,_,false,rfl,h.ty,rfl,(fun _=>.inr trivial),T.h4,false,rfl,AU (AU (k _ (AF.refl _)))⟩
theorem MD:AZ ["thing","last"] ["thing","last"] (AO Es):=BC
theorem Bp (T:Txt w K mg t):A1 P w K mg base Bo 2 t.am t.an ["thing","last"] Xp:=by
 have D:=T.ee
 refine D.fn.okX MD ?_ (fun cdv A outer s H vs Q E hr h Z hZ=>?_)
 ·rintro _ _ _ _ ⟨v,th,l,rfl,_⟩
  rfl
 ·obtain⟨v,th,l,rfl,h,k⟩:=h
  refine hZ ⟨_,((AH (AM (Ax (AR T.ea (DY T) (BO hr) (AA (AK 0) AC)) (Ax (Ao DS AD (AK 0) (AS _)) (A6 (Ao DS (AK 0) (AK 1) (AS _)))))))),?_⟩
  try dsimp only[BB,Au]
  cases id h with
  | non=>
   exact⟨_,rfl,_,_,rfl,h,fun H1 s1=>⟨false,rfl,AY (k _ s1)⟩⟩
  | bl b=>
   exact⟨_,rfl,_,_,rfl,h,fun H1 s1=>⟨false,rfl,AY (k _ s1)⟩⟩
  | int i=>
   refine⟨_,rfl,_,_,rfl,h,fun H1 s1=>⟨true,rfl,AU ?_⟩⟩
   refine⟨_,rfl,_,_,rfl,rfl,_,rfl,?_⟩
   have k':Q (.bl (decide (1≤i)&&decide (i≤l))) H1:=k H1 s1
   by_cases c:1≤i
   ·rw[decide_eq_true c]at k' ⊢
    rw[Bool.true_and]at k'
    exact AU ⟨_,rfl,_,rfl,_,_,rfl,rfl,k'⟩
   ·rw[decide_eq_false c]at k' ⊢
    rw[Bool.false_and]at k'
    exact AY k'
  | str z hz=>
   exact⟨_,rfl,_,_,rfl,h,fun H1 s1=>⟨false,rfl,AY (k _ s1)⟩⟩
  | @lst a xs e=>
   exact⟨_,rfl,_,_,rfl,h,fun H1 s1=>⟨false,rfl,AY (k _ s1)⟩⟩
  | @dic a kvs e=>
   exact⟨_,rfl,_,_,rfl,h,fun H1 s1=>⟨false,rfl,AY (k _ s1)⟩⟩
  | @tup a us ts e hn hh=>
   exact⟨_,rfl,_,_,rfl,h,fun H1 s1=>⟨false,rfl,AY (k _ s1)⟩⟩
theorem O3:AZ ["thing"] ["thing"] (AO Gn):=BC
theorem Io (T:Txt w K mg t):A1 P w K mg base Bo 3 t.ao t.ap ["thing"] (Fi FU):=by
 have D:=T.ef
 refine D.fn.okX O3 ?_ (fun cdv A outer s H vs Q E hr h Z hZ=>?_)
 ·rintro _ _ _ _ ⟨v,th,rfl,_⟩
  rfl
 ·obtain⟨v,th,rfl,h,k⟩:=h
  refine hZ ⟨_,((AG (Ah (By (A5 (A4 (AW Az (by rfl) T.f1 Aa (AA (AK 0) (AA (Bg T.f5 Bk) AC))))) (Bu (AX Ht (AW Aj (by rfl) T.fz PySem.boot_len (AA (AK 0) AC)) AD (AS _)))).pt (AH (AM BF)) AT)
   (AH (AM (Ax (AR T.ed (B1 T) (BO hr) (AQ (AV Ac (AK 0) AD (fun _ _=>rfl)) AC)) (Ax (AR T.ee (Bp T) (BO hr) (AQ (AV Ac (AK 0) AD (fun _ _=>rfl)) (AA (BN T.gt) AC))) (A6 (AR T.ee (Bp T) (BO hr) (AQ (AV Ac (AK 0) AD (fun _ _=>rfl)) (AA (BN T.gu) AC)))))))))),?_⟩
  try dsimp only[BB,Au]
  cases id h with
  | non=>
   exact⟨_,rfl,_,_,_,_,false,rfl,h.ty,rfl,(fun _=>.inr trivial),T.hh,false,rfl,AU (AU (k _ (AF.refl _)))⟩
  | bl b=>
   exact⟨_,rfl,_,_,_,_,false,rfl,h.ty,rfl,(fun _=>.inr trivial),T.hl,false,rfl,AU (AU (k _ (AF.refl _)))⟩
  | int i=>
   exact⟨_,rfl,_,_,_,_,false,rfl,h.ty,rfl,(fun _=>.inr trivial),T.hp,false,rfl,AU (AU (k _ (AF.refl _)))⟩
  | str z hz=>
   exact⟨_,rfl,_,_,_,_,false,rfl,h.ty,rfl,(fun _=>.inr trivial),T.ht,false,rfl,AU (AU (k _ (AF.refl _)))⟩
  | @lst a xs e=>
   exact⟨_,rfl,_,_,_,_,false,rfl,h.ty,rfl,(fun _=>.inr trivial),T.hx,false,rfl,AU (AU (k _ (AF.refl _)))⟩
  | @dic a kvs e=>
   exact⟨_,rfl,_,_,_,_,false,rfl,h.ty,rfl,(fun _=>.inr trivial),T.h1,false,rfl,AU (AU (k _ (AF.refl _)))⟩
  | @tup a us ts e hn hh=>
   have p:=Al.toP hn hh
   refine⟨_,rfl,_,_,_,_,true,rfl,h.ty,rfl,(fun _=>.inr trivial),T.h5,true,rfl,AY ?_⟩
   by_cases hl:us.length=3
   ·refine⟨_,rfl,a,_,rfl,.inr (A0.of e),rfl,false,Nt (by omega),AY ?_⟩
    obtain⟨u0,u1,u2,rfl⟩:∃ u0 u1 u2,us=[u0,u1,u2]:=by
     match us,hl with
     | [u0,u1,u2],_=>exact⟨u0,u1,u2,rfl⟩
    cases p with | cons p0 p=>cases p with | cons p1 p=>cases p with | cons p2 p=>cases p with | nil=>
    rename_i t0 t1 t2
    have k:∀ H',AF H H'→Q (.bl (B4 t0&&Bb 16 t1&&Bb 8 t2)) H':=k
    refine⟨_,rfl,a,_,_,_,rfl,rfl,A0.of e,rfl,u0,t0,rfl,p0,fun H1 s1=>⟨_,rfl,?_⟩⟩
    cases e0:B4 t0 with
    | false=>rw[e0]at k;exact AY (k _ s1)
    | true=>
     refine AU ⟨_,rfl,a,_,_,_,rfl,rfl,A0.of (s1 _ _ e),rfl,u1,t1,16,rfl,p1.same s1,fun H2 s2=>⟨_,rfl,?_⟩⟩
     cases e1:Bb 16 t1 with
     | false=>rw[e0,e1]at k;exact AY (k _ (s1.trans s2))
     | true=>
      rw[e0,e1]at k
      exact AU ⟨_,rfl,a,_,_,_,rfl,rfl,A0.of (s2 _ _ (s1 _ _ e)),rfl,u2,t2,8,rfl,(p2.same s1).same s2,fun H3 s3=>k _ ((s1.trans s2).trans s3)⟩
   ·refine⟨_,rfl,a,_,rfl,.inr (A0.of e),rfl,true,Nu (by omega),AU (I0 ?_ (k _ (AF.refl _)))⟩
    rw[Oo (by rw[← hn];exact hl)]
theorem GK:AZ ["thing"] ["thing"] (AO CS):=BC
theorem DM (T:Txt w K mg t):A1 P w K mg base Bo 2 t.aq t.ar ["thing"] (Fi IS):=by
 have D:=T.eg
 refine D.fn.okX GK ?_ (fun cdv A outer s H vs Q E hr h Z hZ=>?_)
 ·rintro _ _ _ _ ⟨v,th,rfl,_⟩
  rfl
 ·obtain⟨v,th,rfl,h,k⟩:=h
  refine hZ ⟨_,((AH (AM (Ax (AR T.ea (DY T) (BO hr) (AA (AK 0) AC)) (A6 (Ao DS (AW Hz (by rfl) T.gc IN (AA (AK 0) AC)) (BN T.gy) (AS _))))))),?_⟩
  try dsimp only[BB,Au]
  cases id h with
  | non=>
   exact⟨_,rfl,_,_,rfl,h,fun H1 s1=>⟨false,rfl,AY (k _ s1)⟩⟩
  | bl b=>
   exact⟨_,rfl,_,_,rfl,h,fun H1 s1=>⟨false,rfl,AY (k _ s1)⟩⟩
  | int i=>
   refine⟨_,rfl,_,_,rfl,h,fun H1 s1=>⟨true,rfl,AU ?_⟩⟩
   exact⟨_,rfl,i,rfl,_,_,rfl,rfl,k _ s1⟩
  | str z hz=>
   exact⟨_,rfl,_,_,rfl,h,fun H1 s1=>⟨false,rfl,AY (k _ s1)⟩⟩
  | @lst a xs e=>
   exact⟨_,rfl,_,_,rfl,h,fun H1 s1=>⟨false,rfl,AY (k _ s1)⟩⟩
  | @dic a kvs e=>
   exact⟨_,rfl,_,_,rfl,h,fun H1 s1=>⟨false,rfl,AY (k _ s1)⟩⟩
  | @tup a us ts e hn hh=>
   exact⟨_,rfl,_,_,rfl,h,fun H1 s1=>⟨false,rfl,AY (k _ s1)⟩⟩
theorem GL:AZ ["top","bottom"] ["top","bottom"] (AO CT):=BC
theorem Fv (T:Txt w K mg t):A1 P w K mg base Bo 3 t.au t.av ["top","bottom"] (Xo KL):=by
 have D:=T.eh
 refine D.fn.okX GL ?_ (fun cdv A outer s H vs Q E hr h Z hZ=>?_)
 ·rintro _ _ _ _ ⟨v,u,th,tu,rfl,_⟩
  rfl
 ·obtain⟨v,u,th,tu,rfl,h,g,k⟩:=h
  refine hZ ⟨_,((AH (AM (Ax (AR T.eg (DM T) (BO hr) (AA (AK 0) AC)) (Ax (AR T.eg (DM T) (BO hr) (AA (AK 1) AC)) (A6 (AR T.ec (Kb T) (BO hr) (AA (AK 0) (AA (AK 1) AC))))))))),?_⟩
  try dsimp only[BB,Au]
  refine⟨_,rfl,v,th,rfl,h,fun H1 s1=>⟨_,rfl,?_⟩⟩
  unfold KL at k
  cases e1:IS th with
  | false=>rw[e1]at k;exact AY (k _ s1)
  | true=>
   refine AU ⟨_,rfl,u,tu,rfl,g.same s1,fun H2 s2=>⟨_,rfl,?_⟩⟩
   cases e2:IS tu with
   | false=>rw[e1,e2]at k;exact AY (k _ (s1.trans s2))
   | true=>
    rw[e1,e2]at k
    refine AU ?_
    cases th with
    | int x=>
     cases tu with
     | int y=>
      cases h
      cases g
      exact⟨_,rfl,_,rfl,x,y,rfl,k _ (s1.trans s2)⟩
     | _=>exact absurd (show false=true from e2) Bool.false_ne_true
    | _=>exact absurd (show false=true from e1) Bool.false_ne_true
theorem O4:AZ ["thing"] ["thing"] (AO Go):=BC
theorem NF (T:Txt w K mg t):A1 P w K mg base Bo 1 t.aw t.ax ["thing"] (Fi Ld):=by
 have D:=T.ei
 refine D.fn.okX O4 ?_ (fun cdv A outer s H vs Q E hr h Z hZ=>?_)
 ·rintro _ _ _ _ ⟨v,th,rfl,_⟩
  rfl
 ·obtain⟨v,th,rfl,h,k⟩:=h
  refine hZ ⟨_,((AG (Ah (By (A5 (A4 (AW Az (by rfl) T.f1 Aa (AA (AK 0) (AA (Bg T.f4 DE) AC))))) (Bu (AX Hu (AW EB (by rfl) T.fz PySem.boot_len (AA (AK 0) AC)) (BN T.gx) (AS _)))).pt (AH (AM BF)) AT)
   (AH (AM (AW (Ch rfl) (by rfl) T.f7 Ci (B6 (Br (fv:=[]) (js:=[]) (cl:=[]) rfl (by with_unfolding_all rfl) ⟨rfl,by nofun,by nofun,rfl,by nofun,by nofun,(List.forall_mem_nil _),(List.forall_mem_nil _),.nil⟩ (Pb (AK 0)) (fun _ _ _ _ _=>CO) (fun _ _ _ _ _=>(Ao QX (AK 0) (Nq T.gv) rfl))) AC)))))),?_⟩
  try dsimp only[BB,Au]
  cases id h with
  | non=>
   exact⟨_,rfl,_,_,_,_,false,rfl,h.ty,rfl,(fun _=>.inr trivial),T.hg,false,rfl,AU (AU (k _ (AF.refl _)))⟩
  | bl b=>
   exact⟨_,rfl,_,_,_,_,false,rfl,h.ty,rfl,(fun _=>.inr trivial),T.hk,false,rfl,AU (AU (k _ (AF.refl _)))⟩
  | int i=>
   exact⟨_,rfl,_,_,_,_,false,rfl,h.ty,rfl,(fun _=>.inr trivial),T.ho,false,rfl,AU (AU (k _ (AF.refl _)))⟩
  | str z hz=>
   have hzz:z.length≤sizeLine:=BJ hz
   refine⟨_,rfl,_,_,_,_,true,rfl,h.ty,rfl,(fun _=>.inr trivial),T.hs,true,rfl,AY ?_⟩
   refine⟨_,rfl,z,rfl,hzz,_,_,rfl,rfl,_,rfl,?_⟩
   by_cases c0:(20:Int)<(z.length:Int)
   ·rw[decide_eq_true c0]
    refine AU (I0 ?_ (k _ (AF.refl _)))
    unfold Ld
    simp only[decide_eq_true c0,Bool.not_true,Bool.not_false,Bool.true_and,Bool.false_and]
   rw[decide_eq_false c0]
   refine AY ?_
   refine⟨_,rfl,z,rfl,fun D hD=>?_⟩
   obtain⟨W,w0,turn⟩:=IP (z:=z) (Str.ofString "abcdefghijklmnopqrstuvwxyz0123456789 ") hz hD
   refine⟨W,w0,fun i m' H' w'=>?_⟩
   rcases turn i m' H' w' with⟨st,rfl⟩ | h
   case inr=>exact .inr ⟨h.1,fun x H2 y=>h.2 _ _ x H2 y⟩
   refine .inl ⟨st,?_⟩
   refine⟨D,_,rfl,As.of AE,I0 ?_ (k _ (AF.new hD))⟩
   unfold Ld
   simp only[decide_eq_false c0,Bool.not_false,Bool.true_and,EH]
  | @lst a xs e=>
   exact⟨_,rfl,_,_,_,_,false,rfl,h.ty,rfl,(fun _=>.inr trivial),T.hw,false,rfl,AU (AU (k _ (AF.refl _)))⟩
  | @dic a kvs e=>
   exact⟨_,rfl,_,_,_,_,false,rfl,h.ty,rfl,(fun _=>.inr trivial),T.h0,false,rfl,AU (AU (k _ (AF.refl _)))⟩
  | @tup a us ts e hn hh=>
   exact⟨_,rfl,_,_,_,_,false,rfl,h.ty,rfl,(fun _=>.inr trivial),T.h4,false,rfl,AU (AU (k _ (AF.refl _)))⟩
theorem HP:AZ ["thing"] ["thing"] (AO Co):=BC
theorem Gr (T:Txt w K mg t):A1 P w K mg base Bo 1 t.ay t.az ["thing"] (Fi Le):=by
 have D:=T.ej
 refine D.fn.okX HP ?_ (fun cdv A outer s H vs Q E hr h Z hZ=>?_)
 ·rintro _ _ _ _ ⟨v,th,rfl,_⟩
  rfl
 ·obtain⟨v,th,rfl,h,k⟩:=h
  refine hZ ⟨_,((AH (AM (Ax (AW Az (by rfl) T.f1 Aa (AA (AK 0) (AA (Bg T.f4 DE) AC))) (A6 (Ao E8 (AK 0) (Hi T.gw) rfl)))))),?_⟩
  try dsimp only[BB,Au]
  cases id h with
  | non=>
   exact⟨_,rfl,_,_,_,_,false,rfl,h.ty,rfl,(fun _=>.inr trivial),T.hg,false,rfl,AY (k _ (AF.refl _))⟩
  | bl b=>
   exact⟨_,rfl,_,_,_,_,false,rfl,h.ty,rfl,(fun _=>.inr trivial),T.hk,false,rfl,AY (k _ (AF.refl _))⟩
  | int i=>
   exact⟨_,rfl,_,_,_,_,false,rfl,h.ty,rfl,(fun _=>.inr trivial),T.ho,false,rfl,AY (k _ (AF.refl _))⟩
  | str z hz=>
   refine⟨_,rfl,_,_,_,_,true,rfl,h.ty,rfl,(fun _=>.inr trivial),T.hs,true,rfl,AU ?_⟩
   exact⟨_,rfl,fun a ha=>⟨a,_,rfl,.inr (ha _),rfl,LW,k _ (AF.refl _)⟩⟩
  | @lst a xs e=>
   exact⟨_,rfl,_,_,_,_,false,rfl,h.ty,rfl,(fun _=>.inr trivial),T.hw,false,rfl,AY (k _ (AF.refl _))⟩
  | @dic a kvs e=>
   exact⟨_,rfl,_,_,_,_,false,rfl,h.ty,rfl,(fun _=>.inr trivial),T.h0,false,rfl,AY (k _ (AF.refl _))⟩
  | @tup a us ts e hn hh=>
   exact⟨_,rfl,_,_,_,_,false,rfl,h.ty,rfl,(fun _=>.inr trivial),T.h4,false,rfl,AY (k _ (AF.refl _))⟩
theorem Ip:AZ ["thing","kind"] ["thing"] (AO Fn):=BC
theorem Gz (T:Txt w K mg t):A1 P w K mg base Bo 4 t.a0 t.a1 ["thing"] (Fi EY):=by
 have D:=T.ek
 refine D.fn.okX Ip ?_ (fun cdv A outer s H vs Q E hr h Z hZ=>?_)
 ·rintro _ _ _ _ ⟨v,th,rfl,_⟩
  rfl
 ·obtain⟨v,th,rfl,h,k⟩:=h
  refine hZ ⟨_,((AG (Ah (By (A5 (A4 (AW Az (by rfl) T.f1 Aa (AA (AK 0) (AA (Bg T.f5 Bk) AC))))) (By (AX Aq (AW Aj (by rfl) T.fz PySem.boot_len (AA (AK 0) AC)) AD (AS _)) (Bu (A5 (A4 (AW Az (by rfl) T.f1 Aa (AQ (AV Ac (AK 0) AD (fun _ _=>rfl)) (AA (Bg T.f4 DE) AC)))))))).pt (AH (AM BF)) AT)
   (AG (Af (i:=1) Ip.nd rfl (Or.inl rfl) (AV Ac (AK 0) AD (fun _ _=>rfl)))
   (AG (Ah (AX Aq (AK 1) AI (AS _)) (AH (AM (Ao Aq (AW Aj (by rfl) T.fz PySem.boot_len (AA (AK 0) AC)) AD (AS _)))) AT)
   (AG (Ah (AX Aq (AK 1) AI (AS _)) (AH (AM (Ax (Ao Aq (AW Aj (by rfl) T.fz PySem.boot_len (AA (AK 0) AC)) AD (AS _)) (A6 (AR T.eh (Fv T) (BO hr) (AQ (AV Ac (AK 0) AD (fun _ _=>rfl)) (AQ (AV Ac (AK 0) AD (fun _ _=>rfl)) AC))))))) AT)
   (AG (Ah (AX Aq (AK 1) AI (AS _)) (AH (AM (Ax (Ao Aq (AW Aj (by rfl) T.fz PySem.boot_len (AA (AK 0) AC)) AD (AS _)) (A6 (AR T.ei (NF T) (BO hr) (AQ (AV Ac (AK 0) AD (fun _ _=>rfl)) AC)))))) AT)
   (AG (Ah (AX Aq (AK 1) AI (AS _)) (AH (AM (Ax (Ao Aq (AW Aj (by rfl) T.fz PySem.boot_len (AA (AK 0) AC)) AD (AS _)) (A6 (AW Az (by rfl) T.f1 Aa (AQ (AV Ac (AK 0) AD (fun _ _=>rfl)) (AA (Bg T.f3 Dq) AC))))))) AT)
   (AG (Ah (AX Aq (AK 1) AI (AS _)) (AH (AM (Ax (Ao Aq (AW Aj (by rfl) T.fz PySem.boot_len (AA (AK 0) AC)) AD (AS _)) (Ax (AR T.ej (Gr T) (BO hr) (AQ (AV Ac (AK 0) AD (fun _ _=>rfl)) AC)) (A6 (AR T.ef (Io T) (BO hr) (AQ (AV Ac (AK 0) AD (fun _ _=>rfl)) AC))))))) AT)
   (AH (AM BF)))))))))),?_⟩
  try dsimp only[BB,Au]
  cases id h with
  | non=>
   exact⟨_,rfl,_,_,_,_,false,rfl,h.ty,rfl,(fun _=>.inr trivial),T.hh,false,rfl,AU (AU (k _ (AF.refl _)))⟩
  | bl b=>
   exact⟨_,rfl,_,_,_,_,false,rfl,h.ty,rfl,(fun _=>.inr trivial),T.hl,false,rfl,AU (AU (k _ (AF.refl _)))⟩
  | int i=>
   exact⟨_,rfl,_,_,_,_,false,rfl,h.ty,rfl,(fun _=>.inr trivial),T.hp,false,rfl,AU (AU (k _ (AF.refl _)))⟩
  | str z hz=>
   exact⟨_,rfl,_,_,_,_,false,rfl,h.ty,rfl,(fun _=>.inr trivial),T.ht,false,rfl,AU (AU (k _ (AF.refl _)))⟩
  | @lst a xs e=>
   exact⟨_,rfl,_,_,_,_,false,rfl,h.ty,rfl,(fun _=>.inr trivial),T.hx,false,rfl,AU (AU (k _ (AF.refl _)))⟩
  | @dic a kvs e=>
   exact⟨_,rfl,_,_,_,_,false,rfl,h.ty,rfl,(fun _=>.inr trivial),T.h1,false,rfl,AU (AU (k _ (AF.refl _)))⟩
  | @tup a us ts e hn hh=>
   have p:=Al.toP hn hh
   refine⟨_,rfl,_,_,_,_,true,rfl,h.ty,rfl,(fun _=>.inr trivial),T.h5,true,rfl,AY ?_⟩
   cases p with
   | nil=>exact⟨_,rfl,a,_,rfl,.inr (A0.of e),rfl,true,Ms rfl,AU (AU (k _ (AF.refl _)))⟩
   | cons p0 p=>
    rename_i u0 t0 us ts
    have hlen:us.length=ts.length:=Paired.length p
    refine⟨_,rfl,a,_,rfl,.inr (A0.of e),rfl,false,Ge (by simp only[List.length_cons];omega),AY ?_⟩
    cases id p0 with
    | non=>
     exact⟨_,rfl,a,_,_,_,rfl,rfl,A0.of e,BK (j:=0) rfl,_,_,_,_,false,rfl,p0.ty,rfl,(fun _=>.inr trivial),T.hg,false,rfl,AU (k _ (AF.refl _))⟩
    | bl b=>
     exact⟨_,rfl,a,_,_,_,rfl,rfl,A0.of e,BK (j:=0) rfl,_,_,_,_,false,rfl,p0.ty,rfl,(fun _=>.inr trivial),T.hk,false,rfl,AU (k _ (AF.refl _))⟩
    | int i=>
     exact⟨_,rfl,a,_,_,_,rfl,rfl,A0.of e,BK (j:=0) rfl,_,_,_,_,false,rfl,p0.ty,rfl,(fun _=>.inr trivial),T.ho,false,rfl,AU (k _ (AF.refl _))⟩
    | str z hz=>
     refine⟨_,rfl,a,_,_,_,rfl,rfl,A0.of e,BK (j:=0) rfl,_,_,_,_,true,rfl,p0.ty,rfl,(fun _=>.inr trivial),T.hs,true,rfl,AY ?_⟩
     refine⟨_,rfl,a,_,_,_,rfl,rfl,A0.of e,BK (j:=0) rfl,?_⟩
     have k:∀ H',AF H H'→Q (.bl (Cw z ts)) H':=k
     unfold Cw at k
     by_cases h0:z=(Str.ofString "none")
     ·rw[if_pos h0]at k
      refine⟨_,rfl,rfl,true,FL h0,AU ?_⟩
      refine⟨_,rfl,a,_,rfl,.inr (A0.of e),rfl,I0 ?_ (k _ (AF.refl _))⟩
      cases p with
      | nil=>exact Ms rfl
      | cons p1 p=>exact Ge (by simp only[List.length_cons];omega)
     rw[if_neg h0]at k
     refine⟨_,rfl,rfl,false,EZ h0,AY ?_⟩
     by_cases h1:z=(Str.ofString "number")
     ·rw[if_pos h1]at k
      refine⟨_,rfl,rfl,true,FL h1,AU ?_⟩
      cases p with
      | nil=>
       exact⟨_,rfl,a,_,rfl,.inr (A0.of e),rfl,false,Ge (by simp only[List.length_cons,List.length_nil];omega),AY (k _ (AF.refl _))⟩
      | @cons u1 t1 us1' ts1' p1 p=>
       cases p with
       | nil=>
        exact⟨_,rfl,a,_,rfl,.inr (A0.of e),rfl,false,Ge (by simp only[List.length_cons,List.length_nil];omega),AY (k _ (AF.refl _))⟩
       | @cons u2 t2 us2' ts2' p2 p=>
        cases p with
        | nil=>
         refine⟨_,rfl,a,_,rfl,.inr (A0.of e),rfl,true,Ms rfl,AU ?_⟩
         exact⟨_,rfl,a,_,_,_,rfl,rfl,A0.of e,rfl,_,rfl,a,_,_,_,rfl,rfl,A0.of e,rfl,_,_,_,_,rfl,p1,p2,k⟩
        | cons p3 p=>
         exact⟨_,rfl,a,_,rfl,.inr (A0.of e),rfl,false,Ge (by simp only[List.length_cons,List.length_nil];omega),AY (k _ (AF.refl _))⟩
     rw[if_neg h1]at k
     refine⟨_,rfl,rfl,false,EZ h1,AY ?_⟩
     by_cases h2:z=(Str.ofString "text")
     ·rw[if_pos h2]at k
      refine⟨_,rfl,rfl,true,FL h2,AU ?_⟩
      cases p with
      | nil=>
       exact⟨_,rfl,a,_,rfl,.inr (A0.of e),rfl,false,Ge (by simp only[List.length_cons,List.length_nil];omega),AY (k _ (AF.refl _))⟩
      | @cons u1 t1 us1' ts1' p1 p=>
       cases p with
       | nil=>
        refine⟨_,rfl,a,_,rfl,.inr (A0.of e),rfl,true,Ms rfl,AU ?_⟩
        exact⟨_,rfl,a,_,_,_,rfl,rfl,A0.of e,rfl,_,_,rfl,p1,k⟩
       | cons p2 p=>
        exact⟨_,rfl,a,_,rfl,.inr (A0.of e),rfl,false,Ge (by simp only[List.length_cons,List.length_nil];omega),AY (k _ (AF.refl _))⟩
     rw[if_neg h2]at k
     refine⟨_,rfl,rfl,false,EZ h2,AY ?_⟩
     by_cases h3:z=(Str.ofString "truth")
     ·rw[if_pos h3]at k
      refine⟨_,rfl,rfl,true,FL h3,AU ?_⟩
      cases p with
      | nil=>
       exact⟨_,rfl,a,_,rfl,.inr (A0.of e),rfl,false,Ge (by simp only[List.length_cons,List.length_nil];omega),AY (k _ (AF.refl _))⟩
      | @cons u1 t1 us1' ts1' p1 p=>
       cases p with
       | nil=>
        refine⟨_,rfl,a,_,rfl,.inr (A0.of e),rfl,true,Ms rfl,AU ?_⟩
        cases id p1 with
        | non=>exact⟨_,rfl,a,_,_,_,rfl,rfl,A0.of e,rfl,_,_,_,_,false,rfl,p1.ty,rfl,(fun _=>.inr trivial),T.hf,k _ (AF.refl _)⟩
        | bl b=>exact⟨_,rfl,a,_,_,_,rfl,rfl,A0.of e,rfl,_,_,_,_,true,rfl,p1.ty,rfl,(fun _=>.inr trivial),T.hj,k _ (AF.refl _)⟩
        | int i=>exact⟨_,rfl,a,_,_,_,rfl,rfl,A0.of e,rfl,_,_,_,_,false,rfl,p1.ty,rfl,(fun _=>.inr trivial),T.hn,k _ (AF.refl _)⟩
        | str z1 hz1=>exact⟨_,rfl,a,_,_,_,rfl,rfl,A0.of e,rfl,_,_,_,_,false,rfl,p1.ty,rfl,(fun _=>.inr trivial),T.hr,k _ (AF.refl _)⟩
        | @lst a1 xs1 e1=>exact⟨_,rfl,a,_,_,_,rfl,rfl,A0.of e,rfl,_,_,_,_,false,rfl,p1.ty,rfl,(fun _=>.inr trivial),T.hv,k _ (AF.refl _)⟩
        | @dic a1 kvs1 e1=>exact⟨_,rfl,a,_,_,_,rfl,rfl,A0.of e,rfl,_,_,_,_,false,rfl,p1.ty,rfl,(fun _=>.inr trivial),T.hz,k _ (AF.refl _)⟩
        | @tup a1 us1 ts1 e1 hn1 hh1=>exact⟨_,rfl,a,_,_,_,rfl,rfl,A0.of e,rfl,_,_,_,_,false,rfl,p1.ty,rfl,(fun _=>.inr trivial),T.h3,k _ (AF.refl _)⟩
       | cons p2 p=>
        exact⟨_,rfl,a,_,rfl,.inr (A0.of e),rfl,false,Ge (by simp only[List.length_cons,List.length_nil];omega),AY (k _ (AF.refl _))⟩
     rw[if_neg h3]at k
     refine⟨_,rfl,rfl,false,EZ h3,AY ?_⟩
     by_cases h4:z=(Str.ofString "fault")
     ·rw[if_pos h4]at k
      refine⟨_,rfl,rfl,true,FL h4,AU ?_⟩
      cases p with
      | nil=>
       exact⟨_,rfl,a,_,rfl,.inr (A0.of e),rfl,false,Ge (by simp only[List.length_cons,List.length_nil];omega),AY (k _ (AF.refl _))⟩
      | @cons u1 t1 us1' ts1' p1 p=>
       cases p with
       | nil=>
        exact⟨_,rfl,a,_,rfl,.inr (A0.of e),rfl,false,Ge (by simp only[List.length_cons,List.length_nil];omega),AY (k _ (AF.refl _))⟩
       | @cons u2 t2 us2' ts2' p2 p=>
        cases p with
        | nil=>
         refine⟨_,rfl,a,_,rfl,.inr (A0.of e),rfl,true,Ms rfl,AU ?_⟩
         refine⟨_,rfl,a,_,_,_,rfl,rfl,A0.of e,rfl,_,_,rfl,p1,fun H1 s1=>⟨_,rfl,?_⟩⟩
         have k:∀ H',AF H H'→Q (.bl (Le t1&&FU t2)) H':=k
         cases ew:Le t1 with
         | false=>rw[ew]at k;exact AY (k _ s1)
         | true=>
          rw[ew]at k
          exact AU ⟨_,rfl,a,_,_,_,rfl,rfl,A0.of (s1 _ _ e),rfl,_,_,rfl,p2.same s1,fun H2 s2=>k _ (s1.trans s2)⟩
        | cons p3 p=>
         exact⟨_,rfl,a,_,rfl,.inr (A0.of e),rfl,false,Ge (by simp only[List.length_cons,List.length_nil];omega),AY (k _ (AF.refl _))⟩
     rw[if_neg h4]at k
     refine⟨_,rfl,rfl,false,EZ h4,AY ?_⟩
     exact k _ (AF.refl _)
    | @lst a0 xs e0=>
     exact⟨_,rfl,a,_,_,_,rfl,rfl,A0.of e,BK (j:=0) rfl,_,_,_,_,false,rfl,p0.ty,rfl,(fun _=>.inr trivial),T.hw,false,rfl,AU (k _ (AF.refl _))⟩
    | @dic a0 kvs e0=>
     exact⟨_,rfl,a,_,_,_,rfl,rfl,A0.of e,BK (j:=0) rfl,_,_,_,_,false,rfl,p0.ty,rfl,(fun _=>.inr trivial),T.h0,false,rfl,AU (k _ (AF.refl _))⟩
    | @tup a0 us0 ts0 e0 hn0 hh0=>
     exact⟨_,rfl,a,_,_,_,rfl,rfl,A0.of e,BK (j:=0) rfl,_,_,_,_,false,rfl,p0.ty,rfl,(fun _=>.inr trivial),T.h4,false,rfl,AU (k _ (AF.refl _))⟩
theorem NG:AZ ["formula"] ["formula"] (AO Fo):=BC
theorem G0 (T:Txt w K mg t):A1 P w K mg base Bo 1 t.a2 t.a3 ["formula"] X0:=by
 have D:=T.el
 refine D.fn.okX NG ?_ (fun cdv A outer s H vs Q E hr h Z hZ=>?_)
 ·rintro _ _ _ _ ⟨v,th,pr,rfl,_⟩
  rfl
 ·obtain⟨v,th,pr,rfl,h,hf,k⟩:=h
  refine hZ ⟨_,((AG (Ah (AX Aq (AV Ac (AK 0) AD (fun _ _=>rfl)) AI (AS _)) (AH (AM (E7 F5 (by rfl) T.f6 FD (AQ (AV Ac (AK 0) AD (fun _ _=>rfl)) AC)))) AT)
   (AH (AM (Br (fv:=["formula"]) (js:=[0]) (cl:=[("formula",s.heap.objs.size+1)]) rfl (by with_unfolding_all rfl) ⟨rfl,by nofun,by nofun,rfl,by nofun,by nofun,(List.forall_mem_cons.mpr ⟨⟨rfl,rfl,rfl⟩,(List.forall_mem_nil _)⟩),(List.forall_mem_cons.mpr ⟨rfl,(List.forall_mem_nil _)⟩),(.cons rfl .nil)⟩ (Tc (LJ (Rf T.g8) (AV Ac (AK 0) AD (fun _ _=>rfl)) (AL AC) ⟨rfl,rfl,rfl,rfl⟩)) (fun _ _ _ _ _=>CO) (fun _ _ _ _ _=>(AV Hc (AK 1) (AK 0) (fun _ _=>rfl)))))))),?_⟩
  try dsimp only[BB,Au]
  obtain⟨k0,ts,rfl⟩:=Id hf
  obtain⟨a,us0,rfl,e,p⟩:=A9 h
  have p00:=p
  cases p with | cons p0 p=>
  rename_i us
  cases p0
  by_cases hk:k0=zS "own"
  ·subst hk
   obtain⟨t1,ws,rfl,h3⟩:=Lh hf
   cases p with | cons p1 p=>cases p with | cons p2 p=>cases p with | nil=>
   obtain⟨b,vs2,rfl,e2,p3⟩:=A9 p2
   refine⟨_,rfl,a,_,_,_,rfl,rfl,A0.of e,A2,rfl,true,(by nofun),AU ?_⟩
   refine⟨_,rfl,a,_,_,_,rfl,rfl,A0.of e,B7,b,vs2,rfl,.inr (A0.of e2),fun d hd=>?_⟩
   exact k d vs2 _ hd AE (by rw[SG];exact EI p3 (AF.new hd)) (AF.new hd)
  ·rw[Ue hk]at k
   have hin:=V5 hf
   refine⟨_,rfl,a,_,_,_,rfl,rfl,A0.of e,A2,rfl,false,EZ hk,AY ?_⟩
   refine fun pa kvs hk' hp=>⟨pa,kvs,rfl,hk',_,rfl,a,_,_,_,rfl,rfl,A0.of e,A2,Nat.zero_le _,fun e9 he=>⟨Sum.inr k0,rfl,?_⟩⟩
   have s1:=AF.new (o:=.tup []) he
   have l3:=Qe k0
   have hlen:us.length=ts.length:=Paired.length p
   have p1:=EI p00 s1
   have hb:∃ b,(EE kvs (Sum.inr k0)).getD (.ref e9)=.ref b∧∀ H',AF (upd H e9 (.tup [])) H'→A0 K H' b ((KN k0).map fun p=>V.int (p:Nat)):=by
    rcases V6 k0 with⟨h1,h2⟩ | h1
    ·rw[Nr hp h1,h2]
     exact⟨e9,rfl,fun H' s=>A0.of (s _ _ AE)⟩
    ·obtain⟨b,hb,hsq⟩:=Qc hp h1
     rw[hb]
     exact⟨b,rfl,fun H' _=>hsq _⟩
   obtain⟨b,hb1,hsq⟩:=hb
   rw[hb1]
   have e1:=s1 _ _ e
   have nsl:∀{D:Addr},upd H e9 (.tup []) D=none→H D=none:=fun {D} h=>AF.back0 s1 h
   generalize upd H e9 (.tup [])=H2 at *
   generalize hws:((KN k0).map fun p=>(V.str k0::us).getD p .non)=ws
   have lws:ws.length=(KN k0).length:=by rw[← hws,List.length_map]
   refine⟨b,rfl,⟨_,hsq _ (AF.refl _)⟩,fun D hD=>?_⟩
   have sD:∀ ws,AF H2 (upd H2 D (.lst ws)):=fun ws=>AF.new hD
   refine⟨fun i m H4=>m=ws.length-i∧i≤ws.length∧H4=upd H2 D (.lst (ws.take i)),⟨ws.length,rfl,Nat.zero_le _,rfl⟩,?_⟩
   rintro i m H4 ⟨rfl,hi,rfl⟩
   by_cases hlt:i<ws.length
   ·have hp1:(KN k0)[i]?=some ((KN k0)[i]'(by omega)):=List.getElem?_eq_getElem (by omega)
    generalize (KN k0)[i]'(by omega)=pp at hp1
    have hpp:=hin pp (List.mem_of_getElem? hp1)
    have hx1:((KN k0).map fun p=>V.int (p:Nat))[i]?=some (.int pp):=by rw[List.getElem?_map,hp1];rfl
    have hw1:ws[i]?=some ((V.str k0::us).getD pp .non):=by rw[← hws,List.getElem?_map,hp1];rfl
    have hat:(V.str k0::us)[pp]?=some ((V.str k0::us).getD pp .non):=by rw[List.getD_eq_getElem?_getD,List.getElem?_eq_getElem (by rw[List.length_cons];omega)];rfl
    refine .inr ⟨⟨_,_,hsq _ (sD _),hx1⟩,fun x H' y=>?_⟩
    obtain⟨e,y⟩:=y
    subst e
    have hx:=y _ (hsq _ (sD _))
    rw[hx1]at hx
    cases hx
    refine⟨_,rfl,_,rfl,a,_,_,_,rfl,rfl,A0.of (sD _ _ _ e1),BK hat,_,AE,DX (by rw[List.length_take];omega),ws.length-(i+1),(by omega),rfl,hlt,?_⟩
    rw[HZ,List.take_add_one,hw1];rfl
   have ei:i=ws.length:=by omega
   subst ei
   refine .inl ⟨⟨_,hsq _ (sD _),(by rw[List.length_map,lws];exact Nat.le_refl _)⟩,?_⟩
   rw[List.take_length]
   have s3:=s1.trans (sD ws)
   refine k D ws _ (nsl hD) AE ?_ s3
   rw[← hws]
   exact N3 V.non (EI p1 (sD _)) fun p hp=>by have:=hin p hp;rw[List.length_cons];omega
theorem DZ:AZ ["formula","waiting","row","part"] ["formula"] (AO Et):=BC
theorem GM (T:Txt w K mg t):A1 P w K mg base Bo 2 t.a4 t.a5 ["formula"] Ug:=by
 have D:=T.em
 refine D.fn.okX DZ ?_ (fun cdv A outer s H vs Q E hr h Z hZ=>?_)
 ·rintro _ _ _ _ ⟨v,th,pr,rfl,_⟩
  rfl
 ·obtain⟨v,th,pr,rfl,h,ht,k⟩:=h
  refine hZ ⟨_,((AG (Af (i:=1) DZ.nd rfl (Or.inl rfl) (Ae (AA (AK 0) AC)))
   (AG (Af (i:=2) DZ.nd rfl (Or.inl rfl) (Ae AC))
   (AG (Ks PassesOwn.never (AX Hu (AW Aj (by rfl) T.fz PySem.boot_len (AA (AK 1) AC)) AD (AS _)) (AG (Af (i:=3) DZ.nd rfl (Or.inl rfl) (To PySem.F.plainAttrs_list PySem.F.slot_list_pop PySem.F.type_list_pop Tp (AK 1)))
   (AG (Ha (NU PySem.F.plainAttrs_list PySem.F.slot_list_append PySem.F.type_list_append E9 (AK 2) (AA (AK 3) AC)))
   (AH (Ha (NU PySem.F.plainAttrs_list PySem.F.slot_list_extend PySem.F.type_list_extend OP (AK 1) (BP (AR T.el (G0 T) (BO hr) (AA (AK 3) AC)) AC)))))))
   (AH (AM (Me rfl (by rfl) T.f6 FD (by rfl) T.gd (AK 2)))))))),?_⟩
  try dsimp only[BB,Au]
  have bd:szN 8 th≤3280:=Nat.le_trans (Qg ht) (by decide)
  refine⟨_,rfl,Fh,fun l hl=>?_⟩
  have s0:=AF.new (o:=.lst [v]) hl
  have hl1:upd H l (.lst [v]) l=some (.lst [v]):=AE
  have hv1:=h.same s0
  generalize upd H l (.lst [v])=H1 at *
  refine⟨Nat.zero_le _,fun r hr'=>?_⟩
  have s1:=AF.new (o:=.lst []) hr'
  have nlr:l≠r:=fun z=>by rw[← z,hl1]at hr';cases hr'
  have hr0:H r=none:=AF.back0 s0 hr'
  refine⟨fun m σ H5=>∃(vs rs:List V) (fs gs:List Th) (x:Option V),σ=[some v,some (.ref l),some (.ref r),x]∧H5 l=some (.lst vs)∧H5 r=some (.lst rs)∧Paired (Al H5) vs fs∧(∀ g∈fs,BZ 8 pr g=true)∧JA 8 fs=m∧m+rs.length=szN 8 th∧Paired (Al H5) rs gs∧(∀ g∈gs,BZ 8 pr g=true)∧(gs.all Lo&&fs.all (EJ 8))=EJ 8 th∧AF H H5,
   ⟨szN 8 th,_,_,[th],[],none,rfl,s1 _ _ hl1,AE,.cons (hv1.same s1) .nil,(fun g hg=>by rw[List.mem_singleton.mp hg];exact ht),Nx 8 th,rfl,.nil,(fun g hg=>nomatch hg),(by rw[List.all_nil,List.all_cons,List.all_nil,Bool.true_and,Bool.and_true]),fun b o e=>s1 _ _ (s0 _ _ e)⟩,?_⟩
  rintro m σ H5 ⟨vs,rs,fs,gs,x,rfl,hl5,hr5,fm5,good,hm,him,gm5,gok,gtl,s5⟩
  refine⟨_,rfl,l,_,rfl,.inl (As.of hl5),_,_,rfl,rfl,_,rfl,?_⟩
  rcases List.eq_nil_or_concat vs with rfl | ⟨vs',y,hvs⟩
  ·have e0:fs=[]:=List.length_eq_zero_iff.mp (Paired.length fm5).symm
   subst e0
   refine AY ⟨_,rfl,r,rs,rfl,As.of hr5,fun lq hlq=>?_⟩
   have s6:=AF.new (o:=.lst rs.reverse) hlq
   have m0:m=0:=by rw[← hm];rfl
   exact k lq rs.reverse gs.reverse _ AE (by rw[List.length_reverse];omega) (TC (EI gm5 s6)) (fun g hg=>gok g (List.mem_reverse.mp hg)) (by rw[List.all_reverse,← gtl,List.all_nil,Bool.and_true]) fun b o e=>s6 _ _ (s5 _ _ e)
  have hvs:vs=vs'++[y]:=by rw[hvs,List.concat_eq_append]
  subst hvs
  obtain⟨fs',g,rfl,fm',hg⟩:=UP fm5
  have fg:=good g (by simp)
  have hsz:JA 8 fs'+(1+JA 8 (Bh g))=m:=by rw[← hm,Nw,Nx,UX fg]
  have hne:decide ((0:Int)<((vs'++[y]).length:Int))=true:=decide_eq_true (by rw[List.length_append,List.length_singleton];omega)
  rw[hne]
  refine AU ⟨fun σ' H'=>∃ m',m'<m∧∃(vs rs:List V) (fs gs:List Th) (x:Option V),σ'=[some v,some (.ref l),some (.ref r),x]∧H' l=some (.lst vs)∧H' r=some (.lst rs)∧Paired (Al H') vs fs∧(∀ g∈fs,BZ 8 pr g=true)∧JA 8 fs=m'∧m'+rs.length=szN 8 th∧Paired (Al H') rs gs∧(∀ g∈gs,BZ 8 pr g=true)∧(gs.all Lo&&fs.all (EJ 8))=EJ 8 th∧AF H H',fun _ _ z=>z,?_⟩
  refine⟨_,rfl,.inl ⟨rfl,_,As.of hl5⟩,l,_,y,rfl,rfl,hl5,(by simp),?_⟩
  rw[List.dropLast_concat]
  have hl7:upd H5 l (.lst vs') l=some (.lst vs'):=AE
  have hr7:upd H5 l (.lst vs') r=some (.lst rs):=by rw[Ab nlr.symm];exact hr5
  have fm7:=JJ (ws:=vs') fm' hl5
  have hg7:=hg.updL (ws:=vs') hl5
  have gm7:=JJ (ws:=vs') gm5 hl5
  have s7:AF H (upd H5 l (.lst vs')):=fun b o e=>by rw[Ab (Am e hl)];exact s5 _ _ e
  generalize upd H5 l (.lst vs')=H7 at *
  refine⟨_,rfl,.inl ⟨rfl,_,As.of hr7⟩,_,rfl,r,rs,y,rfl,rfl,hr7,YM (by omega),?_⟩
  have hl8:upd H7 r (.lst (rs++[y])) l=some (.lst vs'):=by rw[Ab nlr];exact hl7
  have hr8:upd H7 r (.lst (rs++[y])) r=some (.lst (rs++[y])):=AE
  have fm8:=JJ (ws:=rs++[y]) fm7 hr7
  have hg8:=hg7.updL (ws:=rs++[y]) hr7
  have gm8:=JJ (ws:=rs++[y]) gm7 hr7
  have s8:AF H (upd H7 r (.lst (rs++[y]))):=fun b o e=>by rw[Ab (Am e hr0)];exact s7 _ _ e
  generalize upd H7 r (.lst (rs++[y]))=H8 at *
  refine⟨_,rfl,.inl ⟨rfl,_,As.of hl8⟩,_,rfl,y,g,pr,rfl,hg8,(Bt fg).1,fun lp ws HA hlp0 hlp fmp sA=>?_⟩
  have n1:vs'.length=fs'.length:=Paired.length fm7
  have n2:ws.length=(Bh g).length:=Paired.length fmp
  have n3:fs'.length≤JA 8 fs':=KP 7 fs'
  have n4:(Bh g).length≤JA 8 (Bh g):=KP 7 (Bh g)
  have hlA:=sA _ _ hl8
  have hrA:=sA _ _ hr8
  refine⟨l,lp,vs',ws,rfl,rfl,hlA,hlp,YM (by omega),?_⟩
  refine⟨JA 8 fs'+JA 8 (Bh g),(by omega),vs'++ws,rs++[y],fs'++Bh g,gs++[g],_,rfl,AE,(by rw[Ab nlr.symm];exact hrA),FM (JJ (EI fm8 sA) hlA) (JJ fmp hlA),fun x hx=>?_,Nw _ _ _,?_,FM (JJ (EI gm8 sA) hlA) (.cons ((hg8.same sA).updL hlA) .nil),(fun x hx=>?_),?_,fun b o e=>?_⟩
  ·rcases List.mem_append.mp hx with q | q
   ·exact good x (List.mem_append.mpr (.inl q))
   ·exact Jq ((Bt fg).2 x q)
  ·rw[List.length_append,List.length_singleton];omega
  ·rcases List.mem_append.mp hx with q | q
   ·exact gok x q
   ·rw[List.mem_singleton.mp q];exact fg
  ·rw[← gtl,List.all_append,List.all_append,List.all_append,List.all_cons,List.all_nil,List.all_cons,List.all_nil,Bool.and_true,Bool.and_true,SI fg,X3,Bool.and_comm (fs'.all _),Bool.and_assoc]
  ·rw[Ab (Am e hl)];exact sA _ _ (s8 _ _ e)
theorem JN:AZ ["formula"] ["formula"] (AO Dg):=BC
theorem Iq (T:Txt w K mg t):A1 P w K mg base Bo 3 t.a6 t.a7 ["formula"] Uf:=by
 have D:=T.en
 refine D.fn.okX JN ?_ (fun cdv A outer s H vs Q E hr h Z hZ=>?_)
 ·rintro _ _ _ _ ⟨v,th,pr,rfl,_⟩
  rfl
 ·obtain⟨v,th,pr,rfl,h,ht,k⟩:=h
  refine hZ ⟨_,((AH (AM (AW Aj (by rfl) T.fz PySem.boot_len (BP (AR T.em (GM T) (BO hr) (AA (AK 0) AC)) AC))))),?_⟩
  try dsimp only[BB,Au]
  refine⟨_,rfl,v,th,pr,rfl,h,ht,fun l ws gs H' hl e _ _ _ s=>?_⟩
  refine⟨l,ws,rfl,.inl (As.of hl),?_⟩
  rw[e]
  exact k _ s
theorem GN:AZ ["thing"] ["thing"] (AO CU):=BC
theorem CF (T:Txt w K mg t):A1 P w K mg base Bo 2 t.a8 t.a9 ["thing"] (Fi Ek):=by
 have D:=T.eo
 refine D.fn.okX GN ?_ (fun cdv A outer s H vs Q E hr h Z hZ=>?_)
 ·rintro _ _ _ _ ⟨v,th,rfl,_⟩
  rfl
 ·obtain⟨v,th,rfl,h,k⟩:=h
  refine hZ ⟨_,((AH (AM (Ax (AR T.ed (B1 T) (BO hr) (AA (AK 0) AC)) (A6 (Ao J7 (AK 0) (Hi T.g4) rfl)))))),?_⟩
  try dsimp only[BB,Au]
  cases id h with
  | non=>
   exact⟨_,rfl,_,_,rfl,h,fun H1 s1=>⟨false,rfl,AY (k _ s1)⟩⟩
  | bl b=>
   exact⟨_,rfl,_,_,rfl,h,fun H1 s1=>⟨false,rfl,AY (k _ s1)⟩⟩
  | int i=>
   exact⟨_,rfl,_,_,rfl,h,fun H1 s1=>⟨false,rfl,AY (k _ s1)⟩⟩
  | str z hz=>
   refine⟨_,rfl,_,_,rfl,h,fun H1 s1=>⟨_,rfl,?_⟩⟩
   have k':∀ H',AF H H'→Q (.bl (B4 (.str z)&&!Fc (.str z) S7)) H':=k
   cases e1:B4 (.str z)with
   | false=>rw[e1]at k';exact AY (k' _ s1)
   | true=>rw[e1]at k';exact AU ⟨_,rfl,fun b hb=>⟨b,_,rfl,.inr (hb _),rfl,Qm,k' _ s1⟩⟩
  | @lst a xs e=>
   exact⟨_,rfl,_,_,rfl,h,fun H1 s1=>⟨false,rfl,AY (k _ s1)⟩⟩
  | @dic a kvs e=>
   exact⟨_,rfl,_,_,rfl,h,fun H1 s1=>⟨false,rfl,AY (k _ s1)⟩⟩
  | @tup a us ts e hn hh=>
   exact⟨_,rfl,_,_,rfl,h,fun H1 s1=>⟨false,rfl,AY (k _ s1)⟩⟩
theorem ME:AZ ["thing","texts"] ["thing","texts"] (AO Eu):=BC
theorem GO (T:Txt w K mg t):A1 P w K mg base Bo 1 t.ba t.bb ["thing","texts"] (V0 K):=by
 have D:=T.ep
 refine D.fn.okX ME ?_ (fun cdv A outer s H vs Q E hr h Z hZ=>?_)
 ·rintro _ _ _ _ ⟨v,th,b,ys,rfl,_⟩
  rfl
 ·obtain⟨v,th,b,ys,rfl,h,hb,hf,k⟩:=h
  refine hZ ⟨_,((AH (AM (Ax (AW Az (by rfl) T.f1 Aa (AA (AK 0) (AA (Bg T.f4 DE) AC))) (A6 (Ao E8 (AK 0) (AK 1) rfl)))))),?_⟩
  try dsimp only[BB,Au]
  cases id h with
  | non=>
   exact⟨_,rfl,_,_,_,_,false,rfl,h.ty,rfl,(fun _=>.inr trivial),T.hg,false,rfl,AY (k _ (AF.refl _))⟩
  | bl bb=>
   exact⟨_,rfl,_,_,_,_,false,rfl,h.ty,rfl,(fun _=>.inr trivial),T.hk,false,rfl,AY (k _ (AF.refl _))⟩
  | int i=>
   exact⟨_,rfl,_,_,_,_,false,rfl,h.ty,rfl,(fun _=>.inr trivial),T.ho,false,rfl,AY (k _ (AF.refl _))⟩
  | str z hz=>
   refine⟨_,rfl,_,_,_,_,true,rfl,h.ty,rfl,(fun _=>.inr trivial),T.hs,true,rfl,AU ?_⟩
   exact⟨_,rfl,_,rfl,b,ys,rfl,.inr (hb _),rfl,hf,k _ (AF.refl _)⟩
  | @lst a xs e=>
   exact⟨_,rfl,_,_,_,_,false,rfl,h.ty,rfl,(fun _=>.inr trivial),T.hw,false,rfl,AY (k _ (AF.refl _))⟩
  | @dic a kvs e=>
   exact⟨_,rfl,_,_,_,_,false,rfl,h.ty,rfl,(fun _=>.inr trivial),T.h0,false,rfl,AY (k _ (AF.refl _))⟩
  | @tup a us ts e hn hh=>
   exact⟨_,rfl,_,_,_,_,false,rfl,h.ty,rfl,(fun _=>.inr trivial),T.h4,false,rfl,AY (k _ (AF.refl _))⟩
theorem Fw:AZ ["thing"] ["thing"] (AO CC):=BC
theorem FQ (T:Txt w K mg t):A1 P w K mg base Bo 5 t.bc t.bd ["thing"] (Fi U7):=by
 have D:=T.eq
 refine D.fn.okX Fw ?_ (fun cdv A outer s H vs Q E hr h Z hZ=>?_)
 ·rintro _ _ _ _ ⟨v,th,rfl,_⟩
  rfl
 ·obtain⟨v,th,rfl,h,k⟩:=h
  refine hZ ⟨_,((AG (Ah (A5 (A4 (AR T.ek (Gz T) (BO hr) (AA (AK 0) AC)))) (AH (AM BF)) AT)
   (AG (Ah (AX Aq (AV Ac (AK 0) AD (fun _ _=>rfl)) AI (AS _)) (AH (AM (Ax (Ao Aq (AV Ac (AK 0) AD (fun _ _=>rfl)) AD (AS _)) (Ax (Ao DS AD (AV Ac (AK 0) AD (fun _ _=>rfl)) (AS _)) (A6 (Ao DS (AV Ac (AK 0) AD (fun _ _=>rfl)) (BN T.g3) (AS _))))))) AT)
   (AH (AM (Sl (Ao Aq (AV Ac (AK 0) AD (fun _ _=>rfl)) AI (AS _)) (A6 (Ao Aq (AV Ac (AK 0) AD (fun _ _=>rfl)) AI (AS _))))))))),?_⟩
  try dsimp only[BB,Au]
  cases id h with
  | non=>
   exact⟨_,rfl,_,_,rfl,h,fun H1 s1=>⟨false,rfl,AU (k _ s1)⟩⟩
  | bl b=>
   exact⟨_,rfl,_,_,rfl,h,fun H1 s1=>⟨false,rfl,AU (k _ s1)⟩⟩
  | int i=>
   exact⟨_,rfl,_,_,rfl,h,fun H1 s1=>⟨false,rfl,AU (k _ s1)⟩⟩
  | str z hz=>
   exact⟨_,rfl,_,_,rfl,h,fun H1 s1=>⟨false,rfl,AU (k _ s1)⟩⟩
  | @lst a xs e=>
   exact⟨_,rfl,_,_,rfl,h,fun H1 s1=>⟨false,rfl,AU (k _ s1)⟩⟩
  | @dic a kvs e=>
   exact⟨_,rfl,_,_,rfl,h,fun H1 s1=>⟨false,rfl,AU (k _ s1)⟩⟩
  | @tup a us ts e hn hh=>
   have p:=Al.toP hn hh
   refine⟨_,rfl,_,_,rfl,h,fun H1 s1=>⟨_,rfl,?_⟩⟩
   cases e1:EY (.tup ts)with
   | false=>exact AU (I0 (by rw[V1 e1]) (k _ s1))
   | true=>
    refine AY ?_
    have e':=s1 _ _ e
    obtain⟨k0,ts',rfl⟩:=Ov e1
    rw[V2 e1]at k
    cases p with | cons p0 p=>
    cases p0
    by_cases hk:k0=zS "number"
    ·subst hk
     obtain⟨x,y,rfl⟩:=R9 e1
     cases p with | cons p1 p=>cases p with | cons p2 p=>cases p with | nil=>
     cases p1;cases p2
     rw[SA]at k
     refine⟨_,rfl,a,_,_,_,rfl,rfl,A0.of e',A2,rfl,true,(by nofun),AU ?_⟩
     exact⟨_,rfl,a,_,_,_,rfl,rfl,A0.of e',B7,rfl,Pm (fun k=>⟨_,rfl,a,_,_,_,rfl,rfl,A0.of e',Bz,_,_,rfl,rfl,Pm (fun k=>⟨_,rfl,a,_,_,_,rfl,rfl,A0.of e',Bz,_,_,rfl,rfl,k⟩) k⟩) (k _ s1)⟩
    ·rw[Uc hk]at k
     refine⟨_,rfl,a,_,_,_,rfl,rfl,A0.of e',A2,rfl,false,EZ hk,AY ?_⟩
     by_cases ht:k0=zS "text"
     ·exact⟨_,rfl,a,_,_,_,rfl,rfl,A0.of e',A2,rfl,true,FL ht,AU (I0 (by rw[decide_eq_true ht];rfl) (k _ s1))⟩
     ·exact⟨_,rfl,a,_,_,_,rfl,rfl,A0.of e',A2,rfl,false,EZ ht,AY ⟨_,rfl,a,_,_,_,rfl,rfl,A0.of e',A2,rfl,I0 (by rw[decide_eq_false ht,Bool.false_or];exact US) (k _ s1)⟩⟩
theorem Fx:AZ ["thing"] ["thing"] (AO CD):=BC
theorem FR (T:Txt w K mg t):A1 P w K mg base Bo 2 t.be t.bf ["thing"] (Fi FN):=by
 have D:=T.er
 refine D.fn.okX Fx ?_ (fun cdv A outer s H vs Q E hr h Z hZ=>?_)
 ·rintro _ _ _ _ ⟨v,th,rfl,_⟩
  rfl
 ·obtain⟨v,th,rfl,h,k⟩:=h
  refine hZ ⟨_,((AH (AM (Sl (Ao Tg (AK 0) CL (AS _)) (A6 (AR T.ed (B1 T) (BO hr) (AA (AK 0) AC))))))),?_⟩
  try dsimp only[BB,Au]
  cases id h with
  | non=>
   exact⟨_,rfl,rfl,true,rfl,AU (k _ (AF.refl _))⟩
  | bl b=>
   exact⟨_,rfl,rfl,false,rfl,AY ⟨_,rfl,_,_,rfl,h,k⟩⟩
  | int i=>
   exact⟨_,rfl,rfl,false,rfl,AY ⟨_,rfl,_,_,rfl,h,k⟩⟩
  | str z hz=>
   exact⟨_,rfl,rfl,false,rfl,AY ⟨_,rfl,_,_,rfl,h,k⟩⟩
  | @lst a xs e=>
   exact⟨_,rfl,rfl,false,rfl,AY ⟨_,rfl,_,_,rfl,h,k⟩⟩
  | @dic a kvs e=>
   exact⟨_,rfl,rfl,false,rfl,AY ⟨_,rfl,_,_,rfl,h,k⟩⟩
  | @tup a us ts e hn hh=>
   exact⟨_,rfl,rfl,false,rfl,AY ⟨_,rfl,_,_,rfl,h,k⟩⟩
theorem HB:AZ ["thing","stands"] ["thing"] (AO Ev):=BC
theorem GP (T:Txt w K mg t):A1 P w K mg base Bo 3 t.bg t.bh ["thing"] (Fi CQ):=by
 have D:=T.es
 refine D.fn.okX HB ?_ (fun cdv A outer s H vs Q E hr h Z hZ=>?_)
 ·rintro _ _ _ _ ⟨v,th,rfl,_⟩
  rfl
 ·obtain⟨v,th,rfl,h,k⟩:=h
  refine hZ ⟨_,((AG (Ah (By (A5 (A4 (AW Az (by rfl) T.f1 Aa (AA (AK 0) (AA (Bg T.f5 Bk) AC))))) (Bu (AX Ht (AW Aj (by rfl) T.fz PySem.boot_len (AA (AK 0) AC)) AD (AS _)))).pt (AH (AM BF)) AT)
   (AG (Af (i:=1) HB.nd rfl (Or.inl rfl) (Ax (AW Az (by rfl) T.f1 Aa (AQ (AV Ac (AK 0) AD (fun _ _=>rfl)) (AA (Bg T.f3 Dq) AC))) (A6 (AW Az (by rfl) T.f1 Aa (AQ (AV Ac (AK 0) AD (fun _ _=>rfl)) (AA (Bg T.f3 Dq) AC))))))
   (AH (AM (Ax (AK 1) (Ax (AR T.ee (Bp T) (BO hr) (AQ (AV Ac (AK 0) AD (fun _ _=>rfl)) (AA (BN T.gt) AC))) (A6 (AR T.ee (Bp T) (BO hr) (AQ (AV Ac (AK 0) AD (fun _ _=>rfl)) (AA (BN T.gu) AC))))))))))),?_⟩
  try dsimp only[BB,Au]
  cases id h with
  | non=>
   exact⟨_,rfl,_,_,_,_,false,rfl,h.ty,rfl,(fun _=>.inr trivial),T.hh,false,rfl,AU (AU (k _ (AF.refl _)))⟩
  | bl b=>
   exact⟨_,rfl,_,_,_,_,false,rfl,h.ty,rfl,(fun _=>.inr trivial),T.hl,false,rfl,AU (AU (k _ (AF.refl _)))⟩
  | int i=>
   exact⟨_,rfl,_,_,_,_,false,rfl,h.ty,rfl,(fun _=>.inr trivial),T.hp,false,rfl,AU (AU (k _ (AF.refl _)))⟩
  | str z hz=>
   exact⟨_,rfl,_,_,_,_,false,rfl,h.ty,rfl,(fun _=>.inr trivial),T.ht,false,rfl,AU (AU (k _ (AF.refl _)))⟩
  | @lst a xs e=>
   exact⟨_,rfl,_,_,_,_,false,rfl,h.ty,rfl,(fun _=>.inr trivial),T.hx,false,rfl,AU (AU (k _ (AF.refl _)))⟩
  | @dic a kvs e=>
   exact⟨_,rfl,_,_,_,_,false,rfl,h.ty,rfl,(fun _=>.inr trivial),T.h1,false,rfl,AU (AU (k _ (AF.refl _)))⟩
  | @tup a us ts e hn hh=>
   have p:=Al.toP hn hh
   refine⟨_,rfl,_,_,_,_,true,rfl,h.ty,rfl,(fun _=>.inr trivial),T.h5,true,rfl,AY ?_⟩
   by_cases hl:us.length=4
   ·refine⟨_,rfl,a,_,rfl,.inr (A0.of e),rfl,false,Nt (by omega),AY ?_⟩
    obtain⟨u0,u1,u2,u3,rfl⟩:∃ u0 u1 u2 u3,us=[u0,u1,u2,u3]:=Ud hl
    cases p with | cons p0 p=>cases p with | cons p1 p=>cases p with | cons p2 p=>cases p with | cons p3 p=>cases p with | nil=>
    rename_i t0 t1 t2 t3
    have k:∀ H',AF H H'→Q (.bl (Ej t2&&Ej t3&&Bb 16 t0&&Bb 8 t1)) H':=k
    refine⟨_,rfl,a,_,_,_,rfl,rfl,A0.of e,B7,_,_,_,_,(Ej t2),rfl,p2.ty,rfl,(fun _=>.inr trivial),U1 T t2,Pm (fun q=>⟨_,rfl,a,_,_,_,rfl,rfl,A0.of e,IR,_,_,_,_,(Ej t3),rfl,p3.ty,rfl,(fun _=>.inr trivial),U1 T t3,q⟩) ?_⟩
    refine⟨_,rfl,_,rfl,?_⟩
    cases e2:(Ej t2&&Ej t3)with
    | false=>rw[e2]at k;exact AY (k _ (AF.refl _))
    | true=>
     rw[e2]at k
     refine AU ⟨_,rfl,a,_,_,_,rfl,rfl,A0.of e,A2,u0,t0,16,rfl,p0,fun H2 s2=>⟨_,rfl,?_⟩⟩
     cases e3:Bb 16 t0 with
     | false=>rw[e3]at k;exact AY (k _ s2)
     | true=>
      rw[e3]at k
      exact AU ⟨_,rfl,a,_,_,_,rfl,rfl,A0.of (s2 _ _ e),Bz,u1,t1,8,rfl,p1.same s2,fun H3 s3=>k _ (s2.trans s3)⟩
   ·refine⟨_,rfl,a,_,rfl,.inr (A0.of e),rfl,true,Nu (by omega),AU (I0 ?_ (k _ (AF.refl _)))⟩
    rw[Ow (by rw[← hn];exact hl)]
theorem HQ:AZ ["thing"] ["thing"] (AO Cp):=BC
theorem Dw (T:Txt w K mg t):A1 P w K mg base Bo 3 t.bi t.bj ["thing"] (Fi Dr):=by
 have D:=T.et
 refine D.fn.okX HQ ?_ (fun cdv A outer s H vs Q E hr h Z hZ=>?_)
 ·rintro _ _ _ _ ⟨v,th,rfl,_⟩
  rfl
 ·obtain⟨v,th,rfl,h,k⟩:=h
  refine hZ ⟨_,((AG (Ah (By (A5 (A4 (AW Az (by rfl) T.f1 Aa (AA (AK 0) (AA (Bg T.f5 Bk) AC))))) (Bu (AX Ht (AW Aj (by rfl) T.fz PySem.boot_len (AA (AK 0) AC)) AD (AS _)))).pt (AH (AM BF)) AT)
   (AH (AM (Ax (AR T.ee (Bp T) (BO hr) (AQ (AV Ac (AK 0) AD (fun _ _=>rfl)) (AA (BN T.gu) AC))) (A6 (AW Az (by rfl) T.f1 Aa (AQ (AV Ac (AK 0) AD (fun _ _=>rfl)) (AA (Bg T.f3 Dq) AC))))))))),?_⟩
  try dsimp only[BB,Au]
  cases id h with
  | non=>
   exact⟨_,rfl,_,_,_,_,false,rfl,h.ty,rfl,(fun _=>.inr trivial),T.hh,false,rfl,AU (AU (k _ (AF.refl _)))⟩
  | bl b=>
   exact⟨_,rfl,_,_,_,_,false,rfl,h.ty,rfl,(fun _=>.inr trivial),T.hl,false,rfl,AU (AU (k _ (AF.refl _)))⟩
  | int i=>
   exact⟨_,rfl,_,_,_,_,false,rfl,h.ty,rfl,(fun _=>.inr trivial),T.hp,false,rfl,AU (AU (k _ (AF.refl _)))⟩
  | str z hz=>
   exact⟨_,rfl,_,_,_,_,false,rfl,h.ty,rfl,(fun _=>.inr trivial),T.ht,false,rfl,AU (AU (k _ (AF.refl _)))⟩
  | @lst a xs e=>
   exact⟨_,rfl,_,_,_,_,false,rfl,h.ty,rfl,(fun _=>.inr trivial),T.hx,false,rfl,AU (AU (k _ (AF.refl _)))⟩
  | @dic a kvs e=>
   exact⟨_,rfl,_,_,_,_,false,rfl,h.ty,rfl,(fun _=>.inr trivial),T.h1,false,rfl,AU (AU (k _ (AF.refl _)))⟩
  | @tup a us ts e hn hh=>
   have p:=Al.toP hn hh
   refine⟨_,rfl,_,_,_,_,true,rfl,h.ty,rfl,(fun _=>.inr trivial),T.h5,true,rfl,AY ?_⟩
   by_cases hl:us.length=2
   ·refine⟨_,rfl,a,_,rfl,.inr (A0.of e),rfl,false,Nt (by omega),AY ?_⟩
    obtain⟨u0,u1,rfl⟩:∃ u0 u1,us=[u0,u1]:=LX hl
    cases p with | cons p0 p=>cases p with | cons p1 p=>cases p with | nil=>
    rename_i t0 t1
    have k:∀ H',AF H H'→Q (.bl (Bb 8 t0&&Ej t1)) H':=k
    refine⟨_,rfl,a,_,_,_,rfl,rfl,A0.of e,A2,u0,t0,8,rfl,p0,fun H2 s2=>⟨_,rfl,?_⟩⟩
    cases e3:Bb 8 t0 with
    | false=>rw[e3]at k;exact AY (k _ s2)
    | true=>
     rw[e3]at k
     exact AU ⟨_,rfl,a,_,_,_,rfl,rfl,A0.of (s2 _ _ e),Bz,_,_,_,_,(Ej t1),rfl,(p1.same s2).ty,rfl,(fun _=>.inr trivial),U1 T t1,k _ s2⟩
   ·refine⟨_,rfl,a,_,rfl,.inr (A0.of e),rfl,true,Nu (by omega),AU (I0 ?_ (k _ (AF.refl _)))⟩
    rw[Ox (by rw[← hn];exact hl)]
theorem Ir:AZ ["thing"] ["thing"] (AO DF):=BC
theorem HR (T:Txt w K mg t):A1 P w K mg base Bo 4 t.bk t.bl ["thing"] Xw:=by
 have D:=T.eu
 refine D.fn.okX Ir ?_ (fun cdv A outer s H vs Q E hr h Z hZ=>?_)
 ·rintro _ _ _ _ ⟨v,k0,ts,rfl,_⟩
  rfl
 ·obtain⟨v,k0,ts,rfl,h,hk,k⟩:=h
  refine hZ ⟨_,((AG (Ah (A5 (A4 (AR T.er (FR T) (BO hr) (AQ (AV Ac (AK 0) AD (fun _ _=>rfl)) AC)))) (AH (AM BF)) AT)
   (AG (Ah (AX Aq (AV Ac (AK 0) AD (fun _ _=>rfl)) AI (AS _)) (AH (AM (Ax (AR T.et (Dw T) (BO hr) (AQ (AV Ac (AK 0) AD (fun _ _=>rfl)) AC)) (Ax (AR T.et (Dw T) (BO hr) (AQ (AV Ac (AK 0) AD (fun _ _=>rfl)) AC)) (A6 (Ao DS (AV Ac (AV Ac (AK 0) AD (fun _ _=>rfl)) AD (fun _ _=>rfl)) (AV Ac (AV Ac (AK 0) AD (fun _ _=>rfl)) AD (fun _ _=>rfl)) (AS _))))))) AT)
   (AG (Ah (A5 (A4 (AR T.es (GP T) (BO hr) (AQ (AV Ac (AK 0) AD (fun _ _=>rfl)) AC)))) (AH (AM BF)) AT)
   (AG (Ah (AX Aq (AV Ac (AK 0) AD (fun _ _=>rfl)) AI (AS _)) (AH (AM BF)) AT)
   (AH (AM (Ax (AR T.es (GP T) (BO hr) (AQ (AV Ac (AK 0) AD (fun _ _=>rfl)) AC)) (Ax (Ao DS (AV Ac (AV Ac (AK 0) AD (fun _ _=>rfl)) AD (fun _ _=>rfl)) (AV Ac (AV Ac (AK 0) AD (fun _ _=>rfl)) AD (fun _ _=>rfl)) (AS _)) (A6 (Ao DS (AV Ac (AV Ac (AK 0) AD (fun _ _=>rfl)) AD (fun _ _=>rfl)) (AV Ac (AV Ac (AK 0) AD (fun _ _=>rfl)) AD (fun _ _=>rfl)) (AS _)))))))))))),?_⟩
  try dsimp only[BB,Au]
  obtain⟨a,us,rfl,e,p⟩:=A9 h
  cases p with | cons p0 p=>
  cases p0
  rcases hk with⟨rfl,hl⟩ | ⟨rfl,hl⟩ | ⟨rfl,hl⟩
  ·obtain⟨t1,t2,rfl⟩:=LX hl
   cases p with | cons p1 p=>cases p with | cons p2 p=>cases p with | nil=>
   rw[Qs]at k
   refine⟨_,rfl,a,_,_,_,rfl,rfl,A0.of e,Bz,_,t1,rfl,p1,fun H1 s1=>⟨_,rfl,?_⟩⟩
   cases e1:FN t1 with
   | false=>rw[e1]at k;exact AU (k _ s1)
   | true=>
    rw[e1]at k
    refine AY ?_
    have e':=s1 _ _ e
    refine⟨_,rfl,a,_,_,_,rfl,rfl,A0.of e',A2,rfl,false,(by nofun),AY ?_⟩
    refine⟨_,rfl,a,_,_,_,rfl,rfl,A0.of e',B7,_,t2,rfl,p2.same s1,fun H2 s2=>⟨_,rfl,?_⟩⟩
    cases e2:CQ t2 with
    | false=>rw[e2]at k;exact AU (k _ (s1.trans s2))
    | true=>
     rw[e2]at k
     exact AY ⟨_,rfl,a,_,_,_,rfl,rfl,A0.of (s2 _ _ e'),A2,rfl,true,(by nofun),AU (k _ (s1.trans s2))⟩
  ·obtain⟨t1,t2,t3,rfl⟩:=LY hl
   cases p with | cons p1 p=>cases p with | cons p2 p=>cases p with | cons p3 p=>cases p with | nil=>
   rw[Oy]at k
   refine⟨_,rfl,a,_,_,_,rfl,rfl,A0.of e,Bz,_,t1,rfl,p1,fun H1 s1=>⟨_,rfl,?_⟩⟩
   cases e1:FN t1 with
   | false=>rw[e1]at k;exact AU (k _ s1)
   | true=>
    rw[e1,Bool.true_and]at k
    refine AY ?_
    have e':=s1 _ _ e
    refine⟨_,rfl,a,_,_,_,rfl,rfl,A0.of e',A2,rfl,false,(by nofun),AY ?_⟩
    refine⟨_,rfl,a,_,_,_,rfl,rfl,A0.of e',B7,_,t2,rfl,p2.same s1,fun H2 s2=>⟨_,rfl,?_⟩⟩
    have s12:=s1.trans s2
    have e'':=s2 _ _ e'
    cases e2:CQ t2 with
    | false=>rw[SB e2]at k;exact AU (k _ s12)
    | true=>
     refine AY ⟨_,rfl,a,_,_,_,rfl,rfl,A0.of e'',A2,rfl,false,(by nofun),AY ?_⟩
     refine⟨_,rfl,a,_,_,_,rfl,rfl,A0.of e'',IR,_,t3,rfl,p3.same s12,fun H3 s3=>⟨_,rfl,?_⟩⟩
     have s13:=s12.trans s3
     have e3':=s3 _ _ e''
     cases e3:CQ t3 with
     | false=>rw[SC e3]at k;exact AY (k _ s13)
     | true=>
      obtain⟨i,j,b,c,rfl⟩:=Ic e2
      obtain⟨i',j',b',c',rfl⟩:=Ic e3
      rw[SD e2 e3]at k
      obtain⟨q,vs1,rfl,hq,pq⟩:=A9 (p2.same s13)
      obtain⟨q',vs2,rfl,hq',pq'⟩:=A9 (p3.same s13)
      cases pq with | cons q0 pq=>cases pq with | cons q1 pq=>
      cases pq' with | cons q0' pq'=>cases pq' with | cons q1' pq'=>
      cases q0;cases q1;cases q0';cases q1'
      exact AU ⟨_,rfl,a,_,_,_,rfl,rfl,A0.of e3',B7,q,_,_,_,rfl,rfl,A0.of hq,A2,_,rfl,a,_,_,_,rfl,rfl,A0.of e3',IR,q',_,_,_,rfl,rfl,A0.of hq',A2,_,_,rfl,rfl,Pm (fun k=>⟨_,rfl,a,_,_,_,rfl,rfl,A0.of e3',B7,q,_,_,_,rfl,rfl,A0.of hq,Bz,_,rfl,a,_,_,_,rfl,rfl,A0.of e3',IR,q',_,_,_,rfl,rfl,A0.of hq',Bz,_,_,rfl,rfl,k⟩) (k _ s13)⟩
  ·obtain⟨t1,t2,t3,rfl⟩:=LY hl
   cases p with | cons p1 p=>cases p with | cons p2 p=>cases p with | cons p3 p=>cases p with | nil=>
   rw[Ln]at k
   refine⟨_,rfl,a,_,_,_,rfl,rfl,A0.of e,Bz,_,t1,rfl,p1,fun H1 s1=>⟨_,rfl,?_⟩⟩
   cases e1:FN t1 with
   | false=>rw[e1]at k;exact AU (k _ s1)
   | true=>
    rw[e1,Bool.true_and]at k
    refine AY ?_
    have e':=s1 _ _ e
    refine⟨_,rfl,a,_,_,_,rfl,rfl,A0.of e',A2,rfl,true,(by nofun),AU ?_⟩
    refine⟨_,rfl,a,_,_,_,rfl,rfl,A0.of e',B7,_,t2,rfl,p2.same s1,fun H2 s2=>⟨_,rfl,?_⟩⟩
    have s12:=s1.trans s2
    have e'':=s2 _ _ e'
    cases e2:Dr t2 with
    | false=>rw[Qp e2]at k;exact AY (k _ s12)
    | true=>
     refine AU ⟨_,rfl,a,_,_,_,rfl,rfl,A0.of e'',IR,_,t3,rfl,p3.same s12,fun H3 s3=>⟨_,rfl,?_⟩⟩
     have s13:=s12.trans s3
     have e3':=s3 _ _ e''
     cases e3:Dr t3 with
     | false=>rw[Qq e3]at k;exact AY (k _ s13)
     | true=>
      obtain⟨i,b,rfl⟩:=Ib e2
      obtain⟨i',b',rfl⟩:=Ib e3
      rw[Qr e2 e3]at k
      obtain⟨q,vs1,rfl,hq,pq⟩:=A9 (p2.same s13)
      obtain⟨q',vs2,rfl,hq',pq'⟩:=A9 (p3.same s13)
      cases pq with | cons q0 pq=>
      cases pq' with | cons q0' pq'=>
      cases q0;cases q0'
      exact AU ⟨_,rfl,a,_,_,_,rfl,rfl,A0.of e3',B7,q,_,_,_,rfl,rfl,A0.of hq,A2,_,rfl,a,_,_,_,rfl,rfl,A0.of e3',IR,q',_,_,_,rfl,rfl,A0.of hq',A2,_,_,rfl,rfl,k _ s13⟩
theorem MF:AZ ["thing"] ["thing"] (AO Ew):=BC
theorem Kc (T:Txt w K mg t):A1 P w K mg base Bo 3 t.bm t.bn ["thing"] V3:=by
 have D:=T.ev
 refine D.fn.okX MF ?_ (fun cdv A outer s H vs Q E hr h Z hZ=>?_)
 ·rintro _ _ _ _ ⟨v,k0,ts,rfl,_⟩
  rfl
 ·obtain⟨v,k0,ts,rfl,h,hk,k⟩:=h
  refine hZ ⟨_,((AG (Ah (A5 (A4 (AR T.eo (CF T) (BO hr) (AQ (AV Ac (AK 0) AD (fun _ _=>rfl)) AC)))) (AH (AM BF)) AT)
   (AG (Ah (AX Aq (AV Ac (AK 0) AD (fun _ _=>rfl)) AI (AS _)) (AH (AM BF)) AT)
   (AH (AM (Ax (AW Az (by rfl) T.f1 Aa (AQ (AV Ac (AK 0) AD (fun _ _=>rfl)) (AA (Bg T.f5 Bk) AC))) (A6 (Ao DS (AW Aj (by rfl) T.fz PySem.boot_len (AQ (AV Ac (AK 0) AD (fun _ _=>rfl)) AC)) (BN T.g1) (AS _))))))))),?_⟩
  try dsimp only[BB,Au]
  obtain⟨a,us,rfl,e,p⟩:=A9 h
  cases p with | cons p0 p=>
  cases p0
  rcases hk with⟨rfl,hl⟩ | ⟨rfl,hl⟩
  ·obtain⟨t1,rfl⟩:=Ol hl
   cases p with | cons p1 p=>cases p with | nil=>
   rw[Qt]at k
   refine⟨_,rfl,a,_,_,_,rfl,rfl,A0.of e,Bz,_,t1,rfl,p1,fun H1 s1=>⟨_,rfl,?_⟩⟩
   cases e1:Ek t1 with
   | false=>rw[e1]at k;exact AU (k _ s1)
   | true=>
    rw[e1]at k
    have e':=s1 _ _ e
    exact AY ⟨_,rfl,a,_,_,_,rfl,rfl,A0.of e',A2,rfl,true,(by nofun),AU (k _ s1)⟩
  ·obtain⟨t1,t2,rfl⟩:=LX hl
   cases p with | cons p1 p=>cases p with | cons p2 p=>cases p with | nil=>
   rw[SE]at k
   refine⟨_,rfl,a,_,_,_,rfl,rfl,A0.of e,Bz,_,t1,rfl,p1,fun H1 s1=>⟨_,rfl,?_⟩⟩
   cases e1:Ek t1 with
   | false=>rw[e1]at k;exact AU (k _ s1)
   | true=>
    rw[e1,Bool.true_and]at k
    refine AY ?_
    have e':=s1 _ _ e
    refine⟨_,rfl,a,_,_,_,rfl,rfl,A0.of e',A2,rfl,false,(by nofun),AY ?_⟩
    have h2:=p2.same s1
    cases id h2 with
    | non=>exact⟨_,rfl,a,_,_,_,rfl,rfl,A0.of e',B7,_,_,_,_,false,rfl,h2.ty,rfl,(fun _=>.inr trivial),T.hh,false,rfl,AY (k _ s1)⟩
    | bl b=>exact⟨_,rfl,a,_,_,_,rfl,rfl,A0.of e',B7,_,_,_,_,false,rfl,h2.ty,rfl,(fun _=>.inr trivial),T.hl,false,rfl,AY (k _ s1)⟩
    | int i=>exact⟨_,rfl,a,_,_,_,rfl,rfl,A0.of e',B7,_,_,_,_,false,rfl,h2.ty,rfl,(fun _=>.inr trivial),T.hp,false,rfl,AY (k _ s1)⟩
    | str z hz=>exact⟨_,rfl,a,_,_,_,rfl,rfl,A0.of e',B7,_,_,_,_,false,rfl,h2.ty,rfl,(fun _=>.inr trivial),T.ht,false,rfl,AY (k _ s1)⟩
    | @lst b2 xs2 e2=>exact⟨_,rfl,a,_,_,_,rfl,rfl,A0.of e',B7,_,_,_,_,false,rfl,h2.ty,rfl,(fun _=>.inr trivial),T.hx,false,rfl,AY (k _ s1)⟩
    | @dic b2 kvs2 e2=>exact⟨_,rfl,a,_,_,_,rfl,rfl,A0.of e',B7,_,_,_,_,false,rfl,h2.ty,rfl,(fun _=>.inr trivial),T.h1,false,rfl,AY (k _ s1)⟩
    | @tup b2 us2 ts2 e2 hn2 hh2=>exact⟨_,rfl,a,_,_,_,rfl,rfl,A0.of e',B7,_,_,_,_,true,rfl,h2.ty,rfl,(fun _=>.inr trivial),T.h5,true,rfl,AU ⟨_,rfl,a,_,_,_,rfl,rfl,A0.of e',B7,b2,_,rfl,.inr (A0.of e2),_,_,rfl,rfl,I0 (by rw[hn2];exact congrArg V.bl Xy) (k _ s1)⟩⟩
theorem NH:AZ ["thing","params"] ["thing","params"] (AO Fp):=BC
theorem MG (T:Txt w K mg t):A1 P w K mg base Bo 2 t.bo t.bp ["thing","params"] V4:=by
 have D:=T.ew
 refine D.fn.okX NH ?_ (fun cdv A outer s H vs Q E hr h Z hZ=>?_)
 ·rintro _ _ _ _ ⟨v,th,pr,rfl,_⟩
  rfl
 ·obtain⟨v,th,pr,rfl,h,k⟩:=h
  refine hZ ⟨_,((AH (AM (Ax (AR T.ea (DY T) (BO hr) (AA (AK 0) AC)) (Ax (Ao DS AD (AK 0) (AS _)) (A6 (Ao EV (AK 0) (AW (Gb rfl) (by rfl) T.f9 IO (AA (AK 1) (AA (BN T.g2) AC))) (AS _)))))))),?_⟩
  try dsimp only[BB,Au]
  cases id h with
  | non=>
   exact⟨_,rfl,_,_,rfl,h,fun H1 s1=>⟨false,rfl,AY (k _ s1)⟩⟩
  | bl b=>
   exact⟨_,rfl,_,_,rfl,h,fun H1 s1=>⟨false,rfl,AY (k _ s1)⟩⟩
  | int i=>
   refine⟨_,rfl,_,_,rfl,h,fun H1 s1=>⟨true,rfl,AU ?_⟩⟩
   have k':Q (.bl (decide (0≤i)&&decide (i<min pr 3))) H1:=k H1 s1
   exact⟨_,rfl,_,_,rfl,rfl,Pm (fun k=>⟨_,rfl,_,rfl,_,_,rfl,_,_,rfl,rfl,I0 (by rw[Xz]) k⟩) k'⟩
  | str z hz=>
   exact⟨_,rfl,_,_,rfl,h,fun H1 s1=>⟨false,rfl,AY (k _ s1)⟩⟩
  | @lst a xs e=>
   exact⟨_,rfl,_,_,rfl,h,fun H1 s1=>⟨false,rfl,AY (k _ s1)⟩⟩
  | @dic a kvs e=>
   exact⟨_,rfl,_,_,rfl,h,fun H1 s1=>⟨false,rfl,AY (k _ s1)⟩⟩
  | @tup a us ts e hn hh=>
   exact⟨_,rfl,_,_,rfl,h,fun H1 s1=>⟨false,rfl,AY (k _ s1)⟩⟩
theorem Iu:AZ ["thing","params","kind"] ["thing","params"] (AO Fq):=BC
theorem HC (T:Txt w K mg t):A1 P w K mg base Bo 6 t.bq t.br ["thing","params"] Xx:=by
 have D:=T.ex
 refine D.fn.okX Iu ?_ (fun cdv A outer s H vs Q E hr h Z hZ=>?_)
 ·rintro _ _ _ _ ⟨v,th,pr,rfl,_⟩
  rfl
 ·obtain⟨v,th,pr,rfl,h,k⟩:=h
  refine hZ ⟨_,((AG (Ah (By (A5 (A4 (AW Az (by rfl) T.f1 Aa (AA (AK 0) (AA (Bg T.f5 Bk) AC))))) (By (AX Aq (AW Aj (by rfl) T.fz PySem.boot_len (AA (AK 0) AC)) AD (AS _)) (Bu (A5 (A4 (AW Az (by rfl) T.f1 Aa (AQ (AV Ac (AK 0) AD (fun _ _=>rfl)) (AA (Bg T.f4 DE) AC)))))))).pt (AH (AM BF)) AT)
   (AG (Af (i:=2) Iu.nd rfl (Or.inl rfl) (AV Ac (AK 0) AD (fun _ _=>rfl)))
   (AG (Ah (AX Ht (AW Aj (by rfl) T.fz PySem.boot_len (AA (AK 0) AC)) (LJ (Re T.g7) (AK 2) AD ⟨rfl,rfl,rfl,rfl⟩) (AS _)) (AH (AM BF)) AT)
   (AG (Ah (AX Aq (AK 2) AI (AS _)) (AH (AM (AR T.eq (FQ T) (BO hr) (AQ (AV Ac (AK 0) AD (fun _ _=>rfl)) AC)))) AT)
   (AG (Ah (By (AX Aq (AK 2) AI (AS _)) (By (AX Aq (AK 2) AI (AS _)) (Bu (AX Aq (AK 2) AI (AS _))))).pt (AH (AM (AR T.eu (HR T) (BO hr) (AA (AK 0) AC)))) AT)
   (AG (Ah (By (AX Aq (AK 2) AI (AS _)) (Bu (AX Aq (AK 2) AI (AS _)))).pt (AH (AM (AR T.ev (Kc T) (BO hr) (AA (AK 0) AC)))) AT)
   (AG (Ah (AX Aq (AK 2) AI (AS _)) (AH (AM (AR T.ew (MG T) (BO hr) (AQ (AV Ac (AK 0) AD (fun _ _=>rfl)) (AA (AK 1) AC))))) AT)
   (AG (Ah (AX Aq (AK 2) AI (AS _)) (AH (AM (AR T.ep (GO T) (BO hr) (AQ (AV Ac (AK 0) AD (fun _ _=>rfl)) (AA (Hi T.g5) AC))))) AT)
   (AG (Ah (AX Aq (AK 2) AI (AS _)) (AH (AM (AR T.ep (GO T) (BO hr) (AQ (AV Ac (AK 0) AD (fun _ _=>rfl)) (AA (Hi T.g6) AC))))) AT)
   (AG (Ah (AX Aq (AK 2) AI (AS _)) (AH (AM (Ax (AR T.ee (Bp T) (BO hr) (AQ (AV Ac (AK 0) AD (fun _ _=>rfl)) (AA (BN T.gt) AC))) (A6 (AR T.ee (Bp T) (BO hr) (AQ (AV Ac (AK 0) AD (fun _ _=>rfl)) (AA (BN T.gu) AC))))))) AT)
   (AH (AM BF))))))))))))),?_⟩
  try dsimp only[BB,Au]
  cases id h with
  | non=>
   exact⟨_,rfl,_,_,_,_,false,rfl,h.ty,rfl,(fun _=>.inr trivial),T.hh,false,rfl,AU (AU (k _ (AF.refl _)))⟩
  | bl b=>
   exact⟨_,rfl,_,_,_,_,false,rfl,h.ty,rfl,(fun _=>.inr trivial),T.hl,false,rfl,AU (AU (k _ (AF.refl _)))⟩
  | int i=>
   exact⟨_,rfl,_,_,_,_,false,rfl,h.ty,rfl,(fun _=>.inr trivial),T.hp,false,rfl,AU (AU (k _ (AF.refl _)))⟩
  | str z hz=>
   exact⟨_,rfl,_,_,_,_,false,rfl,h.ty,rfl,(fun _=>.inr trivial),T.ht,false,rfl,AU (AU (k _ (AF.refl _)))⟩
  | @lst a xs e=>
   exact⟨_,rfl,_,_,_,_,false,rfl,h.ty,rfl,(fun _=>.inr trivial),T.hx,false,rfl,AU (AU (k _ (AF.refl _)))⟩
  | @dic a kvs e=>
   exact⟨_,rfl,_,_,_,_,false,rfl,h.ty,rfl,(fun _=>.inr trivial),T.h1,false,rfl,AU (AU (k _ (AF.refl _)))⟩
  | @tup a us ts e hn hh=>
   have p:=Al.toP hn hh
   refine⟨_,rfl,_,_,_,_,true,rfl,h.ty,rfl,(fun _=>.inr trivial),T.h5,true,rfl,AY ?_⟩
   cases p with
   | nil=>exact⟨_,rfl,a,_,rfl,.inr (A0.of e),rfl,true,Ms rfl,AU (AU (k _ (AF.refl _)))⟩
   | cons p0 p=>
    rename_i u0 t0 us ts
    have hlen:us.length=ts.length:=Paired.length p
    refine⟨_,rfl,a,_,rfl,.inr (A0.of e),rfl,false,Ge (by simp only[List.length_cons];omega),AY ?_⟩
    cases id p0 with
    | non=>
     exact⟨_,rfl,a,_,_,_,rfl,rfl,A0.of e,A2,_,_,_,_,false,rfl,p0.ty,rfl,(fun _=>.inr trivial),T.hg,false,rfl,AU (k _ (AF.refl _))⟩
    | bl b=>
     exact⟨_,rfl,a,_,_,_,rfl,rfl,A0.of e,A2,_,_,_,_,false,rfl,p0.ty,rfl,(fun _=>.inr trivial),T.hk,false,rfl,AU (k _ (AF.refl _))⟩
    | int i=>
     exact⟨_,rfl,a,_,_,_,rfl,rfl,A0.of e,A2,_,_,_,_,false,rfl,p0.ty,rfl,(fun _=>.inr trivial),T.ho,false,rfl,AU (k _ (AF.refl _))⟩
    | str z hz=>
     refine⟨_,rfl,a,_,_,_,rfl,rfl,A0.of e,A2,_,_,_,_,true,rfl,p0.ty,rfl,(fun _=>.inr trivial),T.hs,true,rfl,AY ?_⟩
     refine⟨_,rfl,a,_,_,_,rfl,rfl,A0.of e,A2,?_⟩
     refine⟨_,rfl,a,_,rfl,.inr (A0.of e),fun pa hk=>⟨pa,_,rfl,hk,_,rfl,Sum.inr z,rfl,?_⟩⟩
     rw[Qd]
     have k:∀ H',AF H H'→Q (.bl (decide (((ts.length+1:Nat):Int)=DA z)&&Bc pr z ts)) H':=k
     by_cases hL:((ts.length+1:Nat):Int)=DA z
     rotate_left
     ·rw[decide_eq_false hL]at k
      exact⟨rfl,true,Nu (by simp only[List.length_cons];rw[hlen];exact hL),AU (k _ (AF.refl _))⟩
     refine⟨rfl,false,Nt (by simp only[List.length_cons];rw[hlen];exact hL),AY ?_⟩
     rw[decide_eq_true hL,Bool.true_and]at k
     by_cases h_value:z=zS "value"
     ·subst h_value
      rw[Lj]at k
      have hl:ts.length=1:=by have e0:DA (zS "value")=2:=(by nofun);rw[e0]at hL;omega
      refine⟨_,rfl,rfl,true,FL rfl,AU ?_⟩
      obtain⟨t1,rfl⟩:=Ol hl
      cases p with | cons p1 p=>
      exact⟨_,rfl,a,_,_,_,rfl,rfl,A0.of e,Bz,_,t1,rfl,p1,k⟩
     refine⟨_,rfl,rfl,false,EZ h_value,AY ?_⟩
     by_cases h_cell:z=zS "cell"
     ·subst h_cell
      rw[Ny]at k
      have hl:ts.length=2:=by have e0:DA (zS "cell")=3:=(by nofun);rw[e0]at hL;omega
      refine⟨_,rfl,rfl,true,FL rfl,AU (AU ?_)⟩
      exact⟨_,rfl,_,_,ts,rfl,h,.inl ⟨rfl,hl⟩,k⟩
     refine⟨_,rfl,rfl,false,EZ h_cell,AY ?_⟩
     by_cases h_range:z=zS "range"
     ·subst h_range
      rw[Lk]at k
      have hl:ts.length=3:=by have e0:DA (zS "range")=4:=(by nofun);rw[e0]at hL;omega
      refine⟨_,rfl,rfl,true,FL rfl,AU (AU ?_)⟩
      exact⟨_,rfl,_,_,ts,rfl,h,.inr (.inl ⟨rfl,hl⟩),k⟩
     refine⟨_,rfl,rfl,false,EZ h_range,AY ?_⟩
     by_cases h_columns:z=zS "columns"
     ·subst h_columns
      rw[IX]at k
      have hl:ts.length=3:=by have e0:DA (zS "columns")=4:=(by nofun);rw[e0]at hL;omega
      refine⟨_,rfl,rfl,true,FL rfl,AU ?_⟩
      exact⟨_,rfl,_,_,ts,rfl,h,.inr (.inr ⟨rfl,hl⟩),k⟩
     refine⟨_,rfl,rfl,false,EZ h_columns,AY ?_⟩
     by_cases h_name:z=zS "name"
     ·subst h_name
      rw[Nz]at k
      have hl:ts.length=1:=by have e0:DA (zS "name")=2:=(by nofun);rw[e0]at hL;omega
      refine⟨_,rfl,rfl,true,FL rfl,AU (AU ?_)⟩
      exact⟨_,rfl,_,_,ts,rfl,h,.inl ⟨rfl,hl⟩,k⟩
     refine⟨_,rfl,rfl,false,EZ h_name,AY ?_⟩
     by_cases h_own:z=zS "own"
     ·subst h_own
      rw[Qj]at k
      have hl:ts.length=2:=by have e0:DA (zS "own")=3:=(by nofun);rw[e0]at hL;omega
      refine⟨_,rfl,rfl,true,FL rfl,AU ?_⟩
      exact⟨_,rfl,_,_,ts,rfl,h,.inr ⟨rfl,hl⟩,k⟩
     refine⟨_,rfl,rfl,false,EZ h_own,AY ?_⟩
     by_cases h_param:z=zS "param"
     ·subst h_param
      rw[Ll]at k
      have hl:ts.length=1:=by have e0:DA (zS "param")=2:=(by nofun);rw[e0]at hL;omega
      refine⟨_,rfl,rfl,true,FL rfl,AU ?_⟩
      obtain⟨t1,rfl⟩:=Ol hl
      cases p with | cons p1 p=>
      exact⟨_,rfl,a,_,_,_,rfl,rfl,A0.of e,Bz,_,rfl,_,t1,pr,rfl,p1,k⟩
     refine⟨_,rfl,rfl,false,EZ h_param,AY ?_⟩
     by_cases h_op:z=zS "op"
     ·subst h_op
      rw[TB]at k
      have hl:ts.length=3:=by have e0:DA (zS "op")=4:=(by nofun);rw[e0]at hL;omega
      refine⟨_,rfl,rfl,true,FL rfl,AU ?_⟩
      obtain⟨t1,t2,t3,rfl⟩:=LY hl
      cases p with | cons p1 p=>cases p with | cons p2 p=>cases p with | cons p3 p=>
      exact⟨_,rfl,a,_,_,_,rfl,rfl,A0.of e,Bz,fun b hb=>⟨_,t1,b,_,rfl,p1,hb,Qn,k⟩⟩
     refine⟨_,rfl,rfl,false,EZ h_op,AY ?_⟩
     by_cases h_sumif:z=zS "sumif"
     ·subst h_sumif
      rw[Lm]at k
      have hl:ts.length=4:=by have e0:DA (zS "sumif")=5:=(by nofun);rw[e0]at hL;omega
      refine⟨_,rfl,rfl,true,FL rfl,AU ?_⟩
      obtain⟨t1,t2,t3,t4,rfl⟩:=Ud hl
      cases p with | cons p1 p=>cases p with | cons p2 p=>cases p with | cons p3 p=>cases p with | cons p4 p=>
      exact⟨_,rfl,a,_,_,_,rfl,rfl,A0.of e,B7,fun b hb=>⟨_,t2,b,_,rfl,p2,hb,Qo,k⟩⟩
     refine⟨_,rfl,rfl,false,EZ h_sumif,AY ?_⟩
     by_cases h_grid:z=zS "grid"
     ·subst h_grid
      rw[N1]at k
      have hl:ts.length=4:=by have e0:DA (zS "grid")=5:=(by nofun);rw[e0]at hL;omega
      refine⟨_,rfl,rfl,true,FL rfl,AU ?_⟩
      obtain⟨t1,t2,t3,t4,rfl⟩:=Ud hl
      cases p with | cons p1 p=>cases p with | cons p2 p=>cases p with | cons p3 p=>cases p with | cons p4 p=>
      have k:∀ H',AF H H'→Q (.bl (Bb 16 t1&&Bb 8 t2)) H':=k
      refine⟨_,rfl,a,_,_,_,rfl,rfl,A0.of e,Bz,_,t1,16,rfl,p1,fun H1 s1=>⟨_,rfl,?_⟩⟩
      cases e1:Bb 16 t1 with
      | false=>rw[e1]at k;exact AY (k _ s1)
      | true=>
       rw[e1]at k
       exact AU ⟨_,rfl,a,_,_,_,rfl,rfl,A0.of (s1 _ _ e),B7,_,t2,8,rfl,p2.same s1,fun H2 s2=>k _ (s1.trans s2)⟩
     refine⟨_,rfl,rfl,false,EZ h_grid,AY ?_⟩
     rw[show Bc pr z ts=true by unfold Bc;rw[if_neg h_value,if_neg h_cell,if_neg h_range,if_neg h_columns,if_neg h_name,if_neg h_own,if_neg h_param,if_neg h_op,if_neg h_sumif,if_neg h_grid]]at k
     exact k _ (AF.refl _)
    | @lst a0 xs e0=>
     exact⟨_,rfl,a,_,_,_,rfl,rfl,A0.of e,A2,_,_,_,_,false,rfl,p0.ty,rfl,(fun _=>.inr trivial),T.hw,false,rfl,AU (k _ (AF.refl _))⟩
    | @dic a0 kvs e0=>
     exact⟨_,rfl,a,_,_,_,rfl,rfl,A0.of e,A2,_,_,_,_,false,rfl,p0.ty,rfl,(fun _=>.inr trivial),T.h0,false,rfl,AU (k _ (AF.refl _))⟩
    | @tup a0 us0 ts0 e0 hn0 hh0=>
     exact⟨_,rfl,a,_,_,_,rfl,rfl,A0.of e,A2,_,_,_,_,false,rfl,p0.ty,rfl,(fun _=>.inr trivial),T.h4,false,rfl,AU (k _ (AF.refl _))⟩
theorem Jt:AZ ["thing","params","deep"] ["thing","params","deep"] (AO Gp):=BC
theorem NI (T:Txt w K mg t):∀ n:Nat,A1 P w K mg base Bo (3*n+8) t.bs t.bt ["thing","params","deep"] (X1 n):=by
 have D:=T.ey
 intro n
 induction n with
 | zero=>
  refine D.fn.okX Jt ?_ (fun cdv A outer s H vs Q E hr h Z hZ=>?_)
  ·rintro _ _ _ _ ⟨v,th,pr,d,rfl,_⟩
   rfl
  ·obtain⟨v,th,pr,d,rfl,hd,h,k⟩:=h
   refine hZ ⟨_,((AG (Ah (By (AX Aq (AK 2) AD (AS _)) (Bu (A5 (A4 (AR T.ex (HC T) (hr.mono (by omega)) (AA (AK 0) (AA (AK 1) AC))))))).pt (AH (AM BF)) AT)
   (AH DC))),?_⟩
   try dsimp only[BB,Au]
   subst hd
   exact⟨_,rfl,rfl,true,rfl,AU (AU (k _ (AF.refl _)))⟩
 | succ n ih=>
  refine D.fn.okX Jt ?_ (fun cdv A outer s H vs Q E hr h Z hZ=>?_)
  ·rintro _ _ _ _ ⟨v,th,pr,d,rfl,_⟩
   rfl
  ·obtain⟨v,th,pr,d,rfl,hd,h,k⟩:=h
   refine hZ ⟨_,((AG (Ah (By (AX Aq (AK 2) AD (AS _)) (Bu (A5 (A4 (AR T.ex (HC T) (hr.mono (by omega)) (AA (AK 0) (AA (AK 1) AC))))))).pt (AH (AM BF)) AT)
   (AH (AM (AW (Ch rfl) (by rfl) T.f7 Ci (B6 (Br (fv:=["params","deep"]) (js:=[1,2]) (cl:=[("params",s.heap.objs.size+1),("deep",s.heap.objs.size+2)]) rfl (by with_unfolding_all rfl) ⟨rfl,by nofun,by nofun,rfl,by nofun,by nofun,(List.forall_mem_cons.mpr ⟨⟨rfl,rfl,rfl⟩,(List.forall_mem_cons.mpr ⟨⟨rfl,rfl,rfl⟩,(List.forall_mem_nil _)⟩)⟩),(List.forall_mem_cons.mpr ⟨rfl,(List.forall_mem_cons.mpr ⟨rfl,(List.forall_mem_nil _)⟩)⟩),(.cons rfl (.cons rfl .nil))⟩ (CM (AR T.el (G0 T) (hr.mono (by omega)) (AA (AK 0) AC))) (fun _ _ _ _ _=>CO) (fun _ _ _ _ _=>(AR T.ey ih (hr.mono (by omega)) (AA (AK 0) (AA (AK 1) (BG (An MS (AK 2) AD) AC)))))) AC)))))),?_⟩
   try dsimp only[BB,Au]
   refine⟨_,rfl,rfl,false,?_,AY ?_⟩
   ·rw[decide_eq_false fun z=>by injection z with z;omega]
   refine⟨_,rfl,_,rfl,v,th,pr,rfl,h,fun H1 s1=>⟨_,rfl,?_⟩⟩
   cases e1:Cd pr th with
   | false=>rw[Qx e1]at k;exact AU (k _ s1)
   | true=>
    rw[Qw e1]at k
    refine AY ?_
    refine⟨_,rfl,v,th,pr,rfl,h.same s1,e1,fun lp us H2 nlp hlp pm s2=>?_⟩
    have p3:=Qf e1
    have hus:us.length=(Bh th).length:=Paired.length pm
    refine⟨lp,rfl,⟨_,As.of hlp⟩,fun D hD=>?_⟩
    refine⟨fun i m H4=>m=us.length-i∧i≤us.length∧H4 D=some (.lst (((Bh th).take i).map fun g=>V.bl (BZ n pr g)))∧AF H2 H4,⟨us.length,rfl,Nat.zero_le _,AE,AF.new hD⟩,?_⟩
    rintro i m H4 ⟨rfl,hi,hD4,s4⟩
    by_cases hlt:i<us.length
    ·refine .inr ⟨⟨us,us[i],As.of (s4 _ _ hlp),List.getElem?_eq_getElem hlt⟩,fun x H' y=>?_⟩
     obtain⟨e,y⟩:=y
     subst e
     have hx:=y us (As.of (s4 _ _ hlp))
     obtain⟨g,hg,xg⟩:=BQ pm hx
     refine⟨_,rfl,_,rfl,_,rfl,_,_,rfl,rfl,x,g,pr,_,rfl,(by omega),xg.same s4,fun H5 s5=>?_⟩
     refine⟨_,s5 _ _ hD4,DX (by rw[List.length_map,List.length_take];omega),us.length-(i+1),(by omega),rfl,hlt,?_,fun b o e=>?_⟩
     ·rw[AE,List.take_add_one,hg,List.map_append];rfl
     ·rw[Ab (Am e hD)];exact s5 _ _ (s4 _ _ e)
    have ei:i=us.length:=by omega
    subst ei
    refine .inl ⟨⟨us,As.of (s4 _ _ hlp),Nat.le_refl _⟩,?_⟩
    rw[hus,List.take_length,show((Bh th).map fun g=>V.bl (BZ n pr g))=((Bh th).map (BZ n pr)).map V.bl by rw[List.map_map];rfl]at hD4
    refine⟨D,_,rfl,As.of hD4,?_⟩
    rw[List.all_map]
    exact k _ ((s1.trans s2).trans s4)
theorem Ke:AZ ["thing","params"] ["thing","params"] (AO EL):=BC
theorem FY (T:Txt w K mg t):A1 P w K mg base Bo 33 t.bu t.bv ["thing","params"] X2:=by
 have D:=T.ez
 refine D.fn.okX Ke ?_ (fun cdv A outer s H vs Q E hr h Z hZ=>?_)
 ·rintro _ _ _ _ ⟨v,th,pr,rfl,_⟩
  rfl
 ·obtain⟨v,th,pr,rfl,h,k⟩:=h
  refine hZ ⟨_,((AH (AM (Ax (AR T.ey (NI T 8) (hr.mono (by omega)) (AA (AK 0) (AA (AK 1) (AA (BN T.g0) AC)))) (A6 (Ao DS (AR T.en (Iq T) (BO hr) (AA (AK 0) AC)) (BN T.gz) (AS _))))))),?_⟩
  try dsimp only[BB,Au]
  refine⟨_,rfl,_,rfl,v,th,pr,_,rfl,rfl,h,fun H1 s1=>⟨_,rfl,?_⟩⟩
  unfold Qv at k
  cases e1:BZ 8 pr th with
  | false=>rw[e1]at k;exact AY (k _ s1)
  | true=>
   rw[e1]at k
   exact AU ⟨_,rfl,v,th,pr,rfl,h.same s1,e1,fun H2 s2=>⟨_,_,rfl,rfl,k _ (s1.trans s2)⟩⟩
theorem JO:AZ ["thing","many"] ["thing","many"] (AO Dh):=BC
theorem Ca (T:Txt w K mg t):A1 P w K mg base Bo 1 t.bw t.bx ["thing","many"] (Q4 JK):=by
 have D:=T.e0
 refine D.fn.okX JO ?_ (fun cdv A outer s H vs Q E hr h Z hZ=>?_)
 ·rintro _ _ _ _ ⟨v,th,m,rfl,_⟩
  rfl
 ·obtain⟨v,th,m,rfl,h,k⟩:=h
  refine hZ ⟨_,((AH (AM (Ax (AW Az (by rfl) T.f1 Aa (AA (AK 0) (AA (Bg T.f5 Bk) AC))) (A6 (Ao Aq (AW Aj (by rfl) T.fz PySem.boot_len (AA (AK 0) AC)) (AK 1) (AS _))))))),?_⟩
  try dsimp only[BB,Au]
  cases id h with
  | non=>
   exact⟨_,rfl,_,_,_,_,false,rfl,h.ty,rfl,(fun _=>.inr trivial),T.hh,false,rfl,AY (k _ (AF.refl _))⟩
  | bl b=>
   exact⟨_,rfl,_,_,_,_,false,rfl,h.ty,rfl,(fun _=>.inr trivial),T.hl,false,rfl,AY (k _ (AF.refl _))⟩
  | int i=>
   exact⟨_,rfl,_,_,_,_,false,rfl,h.ty,rfl,(fun _=>.inr trivial),T.hp,false,rfl,AY (k _ (AF.refl _))⟩
  | str z hz=>
   exact⟨_,rfl,_,_,_,_,false,rfl,h.ty,rfl,(fun _=>.inr trivial),T.ht,false,rfl,AY (k _ (AF.refl _))⟩
  | @lst a xs e=>
   exact⟨_,rfl,_,_,_,_,false,rfl,h.ty,rfl,(fun _=>.inr trivial),T.hx,false,rfl,AY (k _ (AF.refl _))⟩
  | @dic a kvs e=>
   exact⟨_,rfl,_,_,_,_,false,rfl,h.ty,rfl,(fun _=>.inr trivial),T.h1,false,rfl,AY (k _ (AF.refl _))⟩
  | @tup a us ts e hn hh=>
   refine⟨_,rfl,_,_,_,_,true,rfl,h.ty,rfl,(fun _=>.inr trivial),T.h5,true,rfl,AU ?_⟩
   have k:∀ H',AF H H'→Q (.bl (decide ((ts.length:Int)=m))) H':=k
   refine⟨_,rfl,a,us,rfl,.inr (A0.of e),_,rfl,rfl,I0 (congrArg V.bl ?_) (k _ (AF.refl _))⟩
   rw[hn]
   by_cases c:(ts.length:Int)=m
   ·rw[decide_eq_true c,decide_eq_true (by rw[c])]
   ·rw[decide_eq_false c,decide_eq_false fun z=>c (by injection z)]
theorem NJ:AZ ["thing","most"] ["thing","most"] (AO Fr):=BC
theorem E3 (T:Txt w K mg t):A1 P w K mg base Bo 2 t.bz t.b0 ["thing","most"] (Q4 SK):=by
 have D:=T.e1
 refine D.fn.okX NJ ?_ (fun cdv A outer s H vs Q E hr h Z hZ=>?_)
 ·rintro _ _ _ _ ⟨v,th,m,rfl,_⟩
  rfl
 ·obtain⟨v,th,m,rfl,h,k⟩:=h
  refine hZ ⟨_,((AH (AM (Ax (AR T.ea (DY T) (BO hr) (AA (AK 0) AC)) (Ax (Ao DS AD (AK 0) (AS _)) (A6 (Ao DS (AK 0) (AK 1) (AS _)))))))),?_⟩
  try dsimp only[BB,Au]
  cases id h with
  | non=>
   exact⟨_,rfl,_,_,rfl,h,fun H1 s1=>⟨false,rfl,AY (k _ s1)⟩⟩
  | bl b=>
   exact⟨_,rfl,_,_,rfl,h,fun H1 s1=>⟨false,rfl,AY (k _ s1)⟩⟩
  | int i=>
   refine⟨_,rfl,_,_,rfl,h,fun H1 s1=>⟨true,rfl,AU ?_⟩⟩
   have k:∀ H',AF H H'→Q (.bl (decide (0≤i)&&decide (i≤m))) H':=k
   by_cases c:0≤i
   ·rw[decide_eq_true c,Bool.true_and]at k
    exact⟨_,rfl,_,_,rfl,rfl,true,(by show V.bl (decide (0≤i))=_;rw[decide_eq_true c]),AU ⟨_,rfl,_,rfl,_,_,rfl,rfl,k _ s1⟩⟩
   ·rw[decide_eq_false c,Bool.false_and]at k
    exact⟨_,rfl,_,_,rfl,rfl,false,(by show V.bl (decide (0≤i))=_;rw[decide_eq_false c]),AY (k _ s1)⟩
  | str z hz=>
   exact⟨_,rfl,_,_,rfl,h,fun H1 s1=>⟨false,rfl,AY (k _ s1)⟩⟩
  | @lst a xs e=>
   exact⟨_,rfl,_,_,rfl,h,fun H1 s1=>⟨false,rfl,AY (k _ s1)⟩⟩
  | @dic a kvs e=>
   exact⟨_,rfl,_,_,rfl,h,fun H1 s1=>⟨false,rfl,AY (k _ s1)⟩⟩
  | @tup a us ts e hn hh=>
   exact⟨_,rfl,_,_,rfl,h,fun H1 s1=>⟨false,rfl,AY (k _ s1)⟩⟩
theorem RI:AZ ["thing","most"] ["thing","most"] (AO Il):=BC
theorem FG (T:Txt w K mg t):A1 P w K mg base Bo 1 t.b1 t.b2 ["thing","most"] WD:=by
 have D:=T.e2
 refine D.fn.okX RI ?_ (fun cdv A outer s H vs Q E hr h Z hZ=>?_)
 ·rintro _ _ _ _ ⟨v,r,m,rfl,_⟩
  rfl
 ·obtain⟨v,r,m,rfl,h,k⟩:=h
  refine hZ ⟨_,((AH (AM (Ax (AW IM (by rfl) T.f1 Aa (AA (AK 0) (AJ (AL (AA (Bg T.f6 FD) (AA (Bg T.f5 Bk) AC))) AC))) (A6 (Ao DS (AW Aj (by rfl) T.fz PySem.boot_len (AA (AK 0) AC)) (AK 1) (AS _))))))),?_⟩
  try dsimp only[BB,Au]
  refine⟨_,rfl,BH,fun p hp=>?_⟩
  have s1:=AF.new (o:=.tup [.ty "list",.ty "tuple"]) hp
  cases r with
  | none=>
   obtain⟨th,h,hn⟩:=h
   have ka:PySem.W.kitAny K (.type (S3 th)) [.type "list",.type "tuple"]=some false:=by
    rcases Uh h hn with e | e | e | e | e <;> rw[e]
    ·exact Ls T.ic T.hh
    ·exact Ls T.id T.hl
    ·exact Ls T.ie T.hp
    ·exact Ls T.ig T.ht
    ·exact Ls T.ih T.h1
   exact⟨_,p,_,false,rfl,(h.same s1).ty,AE,ka,false,rfl,AY (k _ s1)⟩
  | some ts=>
   obtain⟨a,us,rfl,ha,pp⟩:=h
   have hl:us.length=ts.length:=Paired.length pp
   have k:∀ H',AF H H'→Q (.bl (decide ((ts.length:Int)≤m))) H':=k
   refine⟨_,p,"list",true,rfl,.lst (s1 _ _ ha),AE,WG,true,rfl,AU ?_⟩
   exact⟨_,rfl,a,us,rfl,.inl (As.of (s1 _ _ ha)),_,rfl,_,_,rfl,rfl,I0 (by rw[hl]) (k _ s1)⟩
theorem E4:AZ ["formula","references"] ["formula"] (AO DG):=BC
theorem HS (T:Txt w K mg t):A1 P w K mg base Bo 4 t.b3 t.b4 ["formula"] WB:=by
 have D:=T.e3
 refine D.fn.okX E4 ?_ (fun cdv A outer s H vs Q E hr h Z hZ=>?_)
 ·rintro _ _ _ _ ⟨v,th,pr,rfl,_⟩
  rfl
 ·obtain⟨v,th,pr,rfl,h,ht,k⟩:=h
  refine hZ ⟨_,((AG (KA (i:=1) E4.nd rfl rfl (fv:=[]) (js:=[]) (cl:=[]) rfl (by with_unfolding_all rfl) ⟨rfl,by nofun,by nofun,rfl,by nofun,by nofun,(List.forall_mem_nil _),(List.forall_mem_nil _),.nil⟩ (CM (AR T.em (GM T) (BO hr) (AA (AK 0) AC))) (fun _ _ _ _ _=>(Tt (AX (SO) (AV Hc (AK 0) AD (fun _ _=>rfl)) (AL (AB AI (AB AI (AB AI AC)))) rfl))) (fun _ _ _ _ _=>(AK 0)))
   (AH (AM (AW (Ch rfl) (by rfl) T.f7 Ci (B6 (Br (fv:=[]) (js:=[]) (cl:=[]) rfl (by with_unfolding_all rfl) ⟨rfl,by nofun,by nofun,rfl,by nofun,by nofun,(List.forall_mem_nil _),(List.forall_mem_nil _),.nil⟩ (CM (AK 1)) (fun _ _ _ _ _=>CO) (fun _ _ _ _ _=>(Ao RR (AV Hc (AK 0) AD (fun _ _=>rfl)) CL (AS _)))) AC)))))),?_⟩
  try dsimp only[BB,Au]
  refine⟨_,rfl,v,th,pr,rfl,h,ht,fun l ws gs H1 hl e8 fm gok gtl s1=>?_⟩
  have h24:ws.length≤3280:=by rw[e8];exact Nat.le_trans (Qg ht) (by decide)
  have lg:ws.length=gs.length:=Paired.length fm
  refine⟨l,rfl,⟨_,As.of hl⟩,fun D hD=>?_⟩
  have sD:∀ ws,AF H1 (upd H1 D (.lst ws)):=fun ws=>AF.new hD
  refine⟨fun i m H4=>∃ us:List V,∃ bs:List Bool,m=ws.length-i∧i≤ws.length∧us.length≤i∧H4 D=some (.lst us)∧AF H1 H4∧Paired (YX H4) us bs∧(gs.take i).all Lo=bs.all id,⟨ws.length,[],[],rfl,Nat.zero_le _,Nat.zero_le _,AE,sD _,.nil,rfl⟩,?_⟩
  rintro i m H4 ⟨us,bs,rfl,hi,lu,o4,s4,tu,al⟩
  by_cases hlt:i<ws.length
  ·refine .inr ⟨⟨_,_,As.of (s4 _ _ hl),List.getElem?_eq_getElem hlt⟩,fun x H' y=>?_⟩
   obtain⟨e,y⟩:=y
   subst e
   have hx:=y _ (As.of (s4 _ _ hl))
   obtain⟨g,hg,xg⟩:=BQ fm hx
   have fg:=(Bt (gok g (List.mem_of_getElem? hg))).1
   obtain⟨k0,ts,rfl⟩:=Id fg
   obtain⟨a,us0,rfl,ha,pa⟩:=A9 (xg.same s4)
   cases pa with | cons p0 pa=>
   rename_i ur
   cases p0
   have ek:((gs.take (i+1)).all Lo)=(bs.all id&&Lo (.tup (.str k0::ts))):=by rw[List.take_add_one,hg,List.all_append,al];simp
   refine⟨_,rfl,a,_,_,_,rfl,rfl,A0.of ha,A2,BE,fun p hp=>?_⟩
   have sp:=AF.new (o:=.tup MN) hp
   refine⟨p,MN,rfl,.inr (A0.of AE),rfl,rfl,?_⟩
   rw[if_neg (by decide)]
   have s5:=s4.trans sp
   have tu5:Paired (YX (upd H' p (.tup MN))) us bs:=Paired.imp' (fun u b ⟨a,k,t,r,x,y,z⟩=>⟨a,k,t,r,x,sp _ _ y,z⟩) tu
   cases hb:Fc (.str k0) MN with
   | false=>
    refine⟨false,rfl,AY ⟨ws.length-(i+1),(by omega),us,bs,rfl,hlt,(by omega),sp _ _ o4,s5,tu5,?_⟩⟩
    rw[ek]
    cases ts with
    | nil=>simp[Lo]
    | cons t r=>show(bs.all id&&(!Fc (.str k0) MN||!Ie t))=_;rw[hb];simp
   | true=>
    obtain⟨t,r,rfl,ht'⟩:=SQ fg hb
    cases pa with | cons p1 pa=>
    rename_i u1 ur
    have hu1':(u1=.non∧Ie t=true)∨(∃ z,u1=.str z)∧Ie t=false:=by
     rcases ht' with rfl | ⟨z,rfl⟩
     ·cases p1;exact .inl ⟨rfl,rfl⟩
     ·cases p1;exact .inr ⟨⟨z,rfl⟩,rfl⟩
    refine⟨true,rfl,AU ⟨_,rfl,us,sp _ _ o4,V7 (by omega),ws.length-(i+1),(by omega),us++[.ref a],bs++[!decide (u1=.non)],rfl,hlt,?_,AE,fun b o e=>?_,?_,?_⟩⟩
    ·rw[List.length_append,List.length_singleton];omega
    ·rw[Ab (Am e hD)];exact s5 _ _ e
    ·have q7:Kp (upd H' p (.tup MN)) (upd (upd H' p (.tup MN)) D (.lst (us++[.ref a]))):=Kp.lst (sp _ _ o4) KeepX.upd
     refine FM (Paired.imp' (fun u b ⟨a,k,t,r,x,y,z⟩=>⟨a,k,t,r,x,q7 _ _ y,z⟩) tu5) (.cons ⟨a,k0,u1,ur,rfl,q7 _ _ (sp _ _ ha),rfl,?_⟩ .nil)
     rcases hu1' with⟨x,_⟩ | ⟨x,_⟩
     ·exact .inl x
     ·exact .inr x
    ·rw[ek,List.all_append]
     show(bs.all id&&(!Fc (.str k0) MN||!Ie t))=_
     rw[hb]
     rcases hu1' with⟨rfl,x⟩ | ⟨⟨z,rfl⟩,x⟩
     ·rw[x];simp
     ·rw[x];simp
  have ei:i=ws.length:=by omega
  subst ei
  rw[lg,List.take_length]at al
  refine .inl ⟨⟨_,As.of (s4 _ _ hl),Nat.le_refl _⟩,?_⟩
  have lb:us.length=bs.length:=Paired.length tu
  refine⟨_,rfl,D,rfl,⟨_,As.of o4⟩,fun D2 hD2=>?_⟩
  have s2D:∀ ws,AF H4 (upd H4 D2 (.lst ws)):=fun ws=>AF.new hD2
  refine⟨fun i m H5=>m=us.length-i∧i≤us.length∧H5=upd H4 D2 (.lst ((bs.take i).map V.bl)),⟨us.length,rfl,Nat.zero_le _,rfl⟩,?_⟩
  rintro i m H5 ⟨rfl,hi,rfl⟩
  by_cases hlt:i<us.length
  ·refine .inr ⟨⟨_,_,As.of (s2D _ _ _ o4),List.getElem?_eq_getElem hlt⟩,fun x H' y=>?_⟩
   obtain⟨e,y⟩:=y
   subst e
   have hx:=y _ (As.of (s2D _ _ _ o4))
   obtain⟨b,hb,a,k0,t,r,rfl,ha,eb,ht'⟩:=BQ tu hx
   have hn:V.bl (!decide (t=.non))=.bl b:=by rw[eb]
   refine⟨_,rfl,a,_,_,_,rfl,rfl,A0.of (s2D _ _ _ ha),Bz,(by rcases ht' with rfl | ⟨z,rfl⟩ <;> rfl),_,AE,V7 (by rw[List.length_map,List.length_take];omega),us.length-(i+1),(by omega),rfl,hlt,?_⟩
   rw[HZ,List.take_add_one,hb,List.map_append,← eb.symm];rfl
  have ei:i=us.length:=by omega
  subst ei
  refine .inl ⟨⟨_,As.of (s2D _ _ _ o4),Nat.le_refl _⟩,?_⟩
  refine⟨D2,bs,rfl,As.of (by rw[lb,List.take_length];exact AE),I0 (congrArg V.bl ?_) (k _ ((s1.trans s4).trans (s2D _)))⟩
  rw[← gtl,al]
theorem GQ:AZ ["thing","params"] ["thing","params"] (AO CV):=BC
theorem DN (T:Txt w K mg t):A1 P w K mg base Bo 34 t.b5 t.b6 ["thing","params"] (Q4 RL):=by
 have D:=T.e4
 refine D.fn.okX GQ ?_ (fun cdv A outer s H vs Q E hr h Z hZ=>?_)
 ·rintro _ _ _ _ ⟨v,th,m,rfl,_⟩
  rfl
 ·obtain⟨v,th,m,rfl,h,k⟩:=h
  refine hZ ⟨_,((AH (AM (Ax (AR T.ez (FY T) (BO hr) (AA (AK 0) (AA (AK 1) AC))) (A6 (AR T.e3 (HS T) (BO hr) (AA (AK 0) AC))))))),?_⟩
  try dsimp only[BB,Au]
  refine⟨_,rfl,_,rfl,v,th,m,rfl,h,fun H1 s1=>⟨_,rfl,?_⟩⟩
  have k:∀ H',AF H H'→Q (.bl (Qv m th&&EJ 8 th)) H':=k
  cases e1:Qv m th with
  | false=>rw[e1]at k;exact AY (k _ s1)
  | true=>
   rw[e1,Bool.true_and]at k
   have e2:BZ 8 m th=true:=by unfold Qv at e1;rw[Bool.and_eq_true]at e1;exact e1.1
   exact AU ⟨_,rfl,v,th,m,rfl,h.same s1,e2,fun H2 s2=>k _ (s1.trans s2)⟩
theorem Iv:AZ ["thing"] ["thing"] (AO DH):=BC
theorem HU (T:Txt w K mg t):A1 P w K mg base Bo 35 t.b7 t.b8 ["thing"] (Fi JB):=by
 have D:=T.e5
 refine D.fn.okX Iv ?_ (fun cdv A outer s H vs Q E hr h Z hZ=>?_)
 ·rintro _ _ _ _ ⟨v,th,rfl,_⟩
  rfl
 ·obtain⟨v,th,rfl,h,k⟩:=h
  refine hZ ⟨_,((AH (AM (Ax (AR T.e0 (Ca T) (BO hr) (AA (AK 0) (AB AD AC))) (Ax (AR T.eo (CF T) (BO hr) (AQ (AV Ac (AK 0) AD (fun _ _=>rfl)) AC)) (A6 (AR T.e4 (DN T) (BO hr) (AQ (AV Ac (AK 0) AD (fun _ _=>rfl)) (AB AD AC))))))))),?_⟩
  try dsimp only[BB,Au]
  refine⟨_,rfl,v,th,2,rfl,h,fun H1 s1=>⟨_,rfl,?_⟩⟩
  cases e1:JK 2 th with
  | false=>rw[WH e1]at k;exact AY (k _ s1)
  | true=>
   obtain⟨ts,rfl,hl⟩:=GH (m:=2) e1
   obtain⟨t0,t1,rfl⟩:∃ t0 t1,ts=[t0,t1]:=by match ts,hl with | [t0,t1],_=>exact⟨t0,t1,rfl⟩
   obtain⟨a,us,rfl,e,p⟩:=A9 h
   cases p with | cons p0 p=>cases p with | cons p1 p=>cases p with | nil=>
   have k:∀ H',AF H H'→Q (.bl (Ek t0&&RL 0 t1)) H':=k
   refine AU ⟨_,rfl,a,_,_,_,rfl,rfl,A0.of (s1 _ _ e),A2,_,t0,rfl,p0.same s1,fun H2 s2=>⟨_,rfl,?_⟩⟩
   have s12:=s1.trans s2
   cases e2:Ek t0 with
   | false=>rw[e2]at k;exact AY (k _ s12)
   | true=>
    rw[e2,Bool.true_and]at k
    exact AU ⟨_,rfl,a,_,_,_,rfl,rfl,A0.of (s12 _ _ e),Bz,_,t1,0,rfl,p1.same s12,fun H3 s3=>k _ (s12.trans s3)⟩
theorem RJ:AZ ["thing"] ["thing"] (AO Im):=BC
theorem O5 (T:Txt w K mg t):A1 P w K mg base Bo 35 t.b9 t.ca ["thing"] (Fi JC):=by
 have D:=T.e6
 refine D.fn.okX RJ ?_ (fun cdv A outer s H vs Q E hr h Z hZ=>?_)
 ·rintro _ _ _ _ ⟨v,th,rfl,_⟩
  rfl
 ·obtain⟨v,th,rfl,h,k⟩:=h
  refine hZ ⟨_,((AG (Ah (PW.pt (By (A5 (A4 (AR T.e0 (Ca T) (BO hr) (AA (AK 0) (AB AD AC))))) (Bu (A5 (A4 (AR T.eo (CF T) (BO hr) (AQ (AV Ac (AK 0) AD (fun _ _=>rfl)) AC))))))) (AH (AM BF)) AT)
   (AH (AM (Ax (AR T.e1 (E3 T) (BO hr) (AQ (AV Ac (AK 0) AD (fun _ _=>rfl)) (AA (BN T.g2) AC))) (A6 (AR T.e4 (DN T) (BO hr) (AQ (AV Ac (AK 0) AD (fun _ _=>rfl)) (AQ (AV Ac (AK 0) AD (fun _ _=>rfl)) AC))))))))),?_⟩
  try dsimp only[BB,Au]
  refine⟨_,rfl,v,th,3,rfl,h,fun H1 s1=>⟨_,rfl,?_⟩⟩
  cases e1:JK 3 th with
  | false=>rw[WI e1]at k;exact AU (k _ s1)
  | true=>
   obtain⟨ts,rfl,hl⟩:=GH (m:=3) e1
   obtain⟨t0,t1,t2,rfl⟩:∃ t0 t1 t2,ts=[t0,t1,t2]:=by match ts,hl with | [t0,t1,t2],_=>exact⟨t0,t1,t2,rfl⟩
   obtain⟨a,us,rfl,e,p⟩:=A9 h
   cases p with | cons p0 p=>cases p with | cons p1 p=>cases p with | cons p2 p=>cases p with | nil=>
   refine AY ⟨_,rfl,a,_,_,_,rfl,rfl,A0.of (s1 _ _ e),A2,_,t0,rfl,p0.same s1,fun H2 s2=>⟨_,rfl,?_⟩⟩
   have s12:=s1.trans s2
   cases e2:Ek t0 with
   | false=>
    refine AU (I0 (congrArg V.bl ?_) (k _ s12))
    cases t1 <;> first | rfl | (show false=(Ek t0&&_&&_);rw[e2];rfl)
   | true=>
    refine AY ⟨_,rfl,a,_,_,_,rfl,rfl,A0.of (s12 _ _ e),Bz,_,t1,3,rfl,p1.same s12,fun H3 s3=>⟨_,rfl,?_⟩⟩
    have s13:=s12.trans s3
    cases t1 with
    | int i=>
     cases p1
     have k:∀ H',AF H H'→Q (.bl (Ek t0&&SK 3 (.int i)&&RL i t2)) H':=k
     rw[e2,Bool.true_and]at k
     cases e3:SK 3 (.int i)with
     | false=>rw[e3]at k;exact AY (k _ s13)
     | true=>
      rw[e3,Bool.true_and]at k
      exact AU ⟨_,rfl,a,_,_,_,rfl,rfl,A0.of (s13 _ _ e),B7,_,rfl,a,_,_,_,rfl,rfl,A0.of (s13 _ _ e),Bz,_,t2,i,rfl,p2.same s13,fun H4 s4=>k _ (s13.trans s4)⟩
    | _=>exact AY (k _ s13)
theorem Kf:AZ ["thing"] ["thing"] (AO EM):=BC
theorem JP (T:Txt w K mg t):A1 P w K mg base Bo 35 t.cb t.cc ["thing"] (Fi En):=by
 have D:=T.e7
 refine D.fn.okX Kf ?_ (fun cdv A outer s H vs Q E hr h Z hZ=>?_)
 ·rintro _ _ _ _ ⟨v,th,rfl,_⟩
  rfl
 ·obtain⟨v,th,rfl,h,k⟩:=h
  refine hZ ⟨_,((AG (Ah (A4 (AR T.ek (Gz T) (BO hr) (AA (AK 0) AC))) (AH (AM (Ax (Ao Ht (AV Ac (AK 0) AD (fun _ _=>rfl)) AI (AS _)) (A6 (Ao Ht (AV Ac (AK 0) AD (fun _ _=>rfl)) AI (AS _)))))) AT)
   (AG (Ah (PW.pt (By (A5 (A4 (AR T.e0 (Ca T) (BO hr) (AA (AK 0) (AB AD AC))))) (Bu (A5 (A4 (AW Az (by rfl) T.f1 Aa (AQ (AV Ac (AK 0) AD (fun _ _=>rfl)) (AA (Bg T.f4 DE) AC)))))))) (AH (AM BF)) AT)
   (AH (AM (Ax (Ao Aq (AV Ac (AK 0) AD (fun _ _=>rfl)) AI (AS _)) (A6 (AR T.ez (FY T) (BO hr) (AQ (AV Ac (AK 0) AD (fun _ _=>rfl)) (AB AD AC)))))))))),?_⟩
  try dsimp only[BB,Au]
  refine⟨_,rfl,v,th,rfl,h,fun H1 s1=>⟨_,rfl,?_⟩⟩
  unfold En at k
  cases e1:EY th with
  | true=>
   rw[e1,if_pos rfl]at k
   obtain⟨k0,ts,rfl⟩:=SR e1
   obtain⟨a,us,rfl,e,p⟩:=A9 h
   cases p with | cons p0 p=>
   cases p0
   have k:∀ H',AF H H'→Q (.bl (!decide (k0=zS "none")&&!decide (k0=zS "fault"))) H':=k
   have e1:=s1 _ _ e
   refine AU ⟨_,rfl,a,_,_,_,rfl,rfl,A0.of e1,A2,rfl,!decide (k0=zS "none"),TD,?_⟩
   by_cases c:k0=zS "none"
   ·rw[decide_eq_true c]at k ⊢
    exact AY (k _ s1)
   ·rw[decide_eq_false c]at k ⊢
    refine AU ⟨_,rfl,a,_,_,_,rfl,rfl,A0.of e1,A2,rfl,I0 TD (k _ s1)⟩
  | false=>
   rw[e1,if_neg (by decide)]at k
   refine AY ⟨_,rfl,v,th,2,rfl,h.same s1,fun H2 s2=>⟨_,rfl,?_⟩⟩
   have s12:=s1.trans s2
   cases e2:JK 2 th with
   | false=>rw[WK e2]at k;exact AU (k _ s12)
   | true=>
    obtain⟨ts,rfl,hl⟩:=GH (m:=2) e2
    obtain⟨t0,t1,rfl⟩:∃ t0 t1,ts=[t0,t1]:=by match ts,hl with | [t0,t1],_=>exact⟨t0,t1,rfl⟩
    obtain⟨a,us,rfl,e,p⟩:=A9 h
    cases p with | cons p0 p=>cases p with | cons p1 p=>cases p with | nil=>
    have e2:=s12 _ _ e
    refine AY ⟨_,rfl,a,_,_,_,rfl,rfl,A0.of e2,A2,_,_,_,_,S4 t0,rfl,(p0.same s12).ty,rfl,(fun _=>.inr trivial),?_,S4 t0,rfl,?_⟩
    ·cases t0 <;> first | exact T.hg | exact T.hk | exact T.ho | exact T.hs | exact T.hw | exact T.h0 | exact T.h4
    cases t0 with
    | str k0=>
     cases p0
     have k:∀ H',AF H H'→Q (.bl (decide (k0=zS "formula")&&Qv 0 t1)) H':=k
     refine AY ⟨_,rfl,a,_,_,_,rfl,rfl,A0.of e2,A2,rfl,decide (k0=zS "formula"),US,?_⟩
     by_cases c:k0=zS "formula"
     ·rw[decide_eq_true c]at k ⊢
      rw[Bool.true_and]at k
      exact AU ⟨_,rfl,a,_,_,_,rfl,rfl,A0.of e2,Bz,_,t1,0,rfl,p1.same s12,fun H3 s3=>k _ (s12.trans s3)⟩
     ·rw[decide_eq_false c]at k ⊢
      exact AY (k _ s12)
    | _=>exact AU (k _ s12)
theorem Iw:AZ ["thing","sheets"] ["thing","sheets"] (AO DI):=BC
theorem HV (T:Txt w K mg t):A1 P w K mg base Bo 36 t.cd t.ce ["thing","sheets"] WC:=by
 have D:=T.e8
 refine D.fn.okX Iw ?_ (fun cdv A outer s H vs Q E hr h Z hZ=>?_)
 ·rintro _ _ _ _ ⟨v,th,sa,zs,rfl,_⟩
  rfl
 ·obtain⟨v,th,sa,zs,rfl,h,hs,k⟩:=h
  refine hZ ⟨_,((AG (Ah (PW.pt (By (A5 (A4 (AR T.e0 (Ca T) (BO hr) (AA (AK 0) (AB AD AC))))) (Bu (A5 (A4 (AR T.ef (Io T) (BO hr) (AQ (AV Ac (AK 0) AD (fun _ _=>rfl)) AC))))))) (AH (AM BF)) AT)
   (AH (AM (Ax (Ao E8 (AV Ac (AV Ac (AK 0) AD (fun _ _=>rfl)) AD (fun _ _=>rfl)) (AK 1) rfl) (A6 (AR T.e7 (JP T) (BO hr) (AQ (AV Ac (AK 0) AD (fun _ _=>rfl)) AC)))))))),?_⟩
  try dsimp only[BB,Au]
  refine⟨_,rfl,v,th,2,rfl,h,fun H1 s1=>⟨_,rfl,?_⟩⟩
  cases e1:JK 2 th with
  | false=>rw[WJ e1]at k;exact AU (k _ s1)
  | true=>
   obtain⟨ts,rfl,hl⟩:=GH (m:=2) e1
   obtain⟨t0,t1,rfl⟩:∃ t0 t1,ts=[t0,t1]:=by match ts,hl with | [t0,t1],_=>exact⟨t0,t1,rfl⟩
   obtain⟨a,us,rfl,e,p⟩:=A9 h
   cases p with | cons p0 p=>cases p with | cons p1 p=>cases p with | nil=>
   have k:∀ H',AF H H'→Q (.bl (FU t0&&YW zs t0&&En t1)) H':=k
   refine AY ⟨_,rfl,a,_,_,_,rfl,rfl,A0.of (s1 _ _ e),A2,_,t0,rfl,p0.same s1,fun H2 s2=>⟨_,rfl,?_⟩⟩
   have s12:=s1.trans s2
   cases e2:FU t0 with
   | false=>rw[e2]at k;exact AU (k _ s12)
   | true=>
    rw[e2,Bool.true_and]at k
    obtain⟨b,z,us2,rfl,e3,r,rfl⟩:∃ b z us2,_=V.ref b∧H b=some (.tup (.str z::us2))∧∃ r,t0=.tup (.str z::r):=by
     unfold FU at e2
     split at e2
     ·rename_i t0 t1 t2 hq
      rw[Bool.and_eq_true,Bool.and_eq_true]at e2
      obtain⟨b,us2,eb,e3,q⟩:=A9 p0
      cases q with | cons q0 q=>
      cases t0 with
      | str z=>cases q0;exact⟨b,z,_,eb,e3,_,rfl⟩
      | _=>cases e2.1.1
     ·cases e2
    have k:∀ H',AF H H'→Q (.bl (decide (z∈zs)&&En t1)) H':=k
    have e4:=s12 _ _ e
    have e5:=s12 _ _ e3
    refine AY ⟨_,rfl,a,_,_,_,rfl,rfl,A0.of e4,A2,b,_,_,_,rfl,rfl,A0.of e5,A2,_,rfl,sa,_,rfl,.inl (As.of (s12 _ _ hs)),rfl,(by simp[B3]),decide (z∈zs),congrArg V.bl (by rw[if_neg (by decide),SH]),?_⟩
    by_cases c:z∈zs
    ·rw[decide_eq_true c]at k ⊢
     rw[Bool.true_and]at k
     exact AU ⟨_,rfl,a,_,_,_,rfl,rfl,A0.of e4,Bz,_,t1,rfl,p1.same s12,fun H3 s3=>k _ (s12.trans s3)⟩
    ·rw[decide_eq_false c]at k ⊢
     exact AY (k _ s12)
theorem HW:AZ ["pairs"] ["pairs"] (AO Cq):=BC
theorem Cg (T:Txt w K mg t):A1 P w K mg base Bo 1 t.cf t.cg ["pairs"] WF:=by
 have D:=T.e9
 refine D.fn.okX HW ?_ (fun cdv A outer s H vs Q E hr h Z hZ=>?_)
 ·rintro _ _ _ _ ⟨a,us,fs,b,rfl,_⟩
  rfl
 ·obtain⟨a,us,fs,b,rfl,ha,hh,el,h60,k⟩:=h
  have hu5:=Q0 hr
  refine hZ ⟨_,((AH (AM (Ao Aq (TSt.pe_lensetU (Q1 hu5) rfl (by rfl) T.fz PySem.boot_len (by rfl) T.gb (Br (fv:=[]) (js:=[]) (cl:=[]) rfl (by with_unfolding_all rfl) ⟨rfl,by nofun,by nofun,rfl,by nofun,by nofun,(List.forall_mem_nil _),(List.forall_mem_nil _),.nil⟩ (CM (AK 0)) (fun _ _ _ _ _=>CO) (fun _ _ _ _ _=>(AV Hc (AK 0) AD (fun _ _=>rfl))))) (AW Aj (by rfl) T.fz PySem.boot_len (AA (AK 0) AC)) (AS _))))),?_⟩
  try dsimp only[BB,Au]
  have hl:us.length=fs.length:=Paired.length hh
  refine⟨_,rfl,?_⟩
  refine⟨a,rfl,⟨_,As.of ha⟩,fun D hD=>?_⟩
  refine⟨fun i m H4=>m=us.length-i∧i≤us.length∧H4=upd H D (.lst (fs.take i)),⟨us.length,rfl,Nat.zero_le _,rfl⟩,?_⟩
  rintro i m H4 ⟨rfl,hi,rfl⟩
  have sD:∀ ws,AF H (upd H D (.lst ws)):=fun ws=>AF.new hD
  by_cases hlt:i<us.length
  ·refine .inr ⟨⟨_,_,As.of (sD _ _ _ ha),List.getElem?_eq_getElem hlt⟩,fun x H' y=>?_⟩
   obtain⟨e,y⟩:=y
   subst e
   have hx:=y _ (As.of (sD _ _ _ ha))
   obtain⟨z,hz,q,r,rfl,hb⟩:=BQ hh hx
   refine⟨_,rfl,q,_,_,_,rfl,rfl,A0.of (sD _ _ _ hb),A2,_,AE,DX (by rw[List.length_take];omega),us.length-(i+1),(by omega),rfl,hlt,?_⟩
   rw[HZ,List.take_add_one,hz];rfl
  have ei:i=us.length:=by omega
  subst ei
  refine .inl ⟨⟨_,As.of (sD _ _ _ ha),Nat.le_refl _⟩,?_⟩
  rw[hl,List.take_length]
  rcases el with⟨zs,rfl,rfl⟩ | ⟨cs,hp,rfl⟩
  ·have lz:us.length=zs.length:=by rw[hl,List.length_map]
   refine⟨D,_,_,rfl,.inl (As.of AE),(by omega),.inl ⟨zs,rfl,rfl⟩,_,rfl,a,_,rfl,.inl (As.of (sD _ _ _ ha)),rfl,I0 (congrArg V.bl ?_) (k _ (sD _))⟩
   exact M1 lz.symm
  ·have lz:us.length=cs.length:=hl.trans (Paired.length hp)
   refine⟨D,fs,_,rfl,.inl (As.of AE),(by omega),.inr ⟨cs.map GS.ckK,TF (Paired.imp' (fun v c ⟨b,e,z⟩=>⟨b,e,sD _ _ _ z⟩) hp),rfl⟩,_,rfl,a,_,rfl,.inl (As.of (sD _ _ _ ha)),rfl,I0 (congrArg V.bl ?_) (k _ (sD _))⟩
   rw[Q5 (fun _ _=>M0) _ cs rfl,List.length_map]
   exact M1 lz.symm
theorem Kg:AZ ["thing"] ["thing"] (AO EN):=BC
theorem FZ (T:Txt w K mg t):A1 P w K mg base Bo 2 t.ch t.ci ["thing"] X5:=by
 have D:=T.fa
 refine D.fn.okX Kg ?_ (fun cdv A outer s H vs Q E hr h Z hZ=>?_)
 ·rintro _ _ _ _ ⟨v,r,rfl,_⟩
  rfl
 ·obtain⟨v,r,rfl,h,k⟩:=h
  have hu5:=Q0 hr
  refine hZ ⟨_,((AG (Ah (PW.pt (By (A5 (A4 (AR T.e2 (FG T) (BO hr) (AA (AK 0) (AA (BN T.g9) AC))))) (By (AX Aq (AW Aj (by rfl) T.fz PySem.boot_len (AA (AK 0) AC)) AD (AS _)) (Bu (A5 (A4 (AW (Ch rfl) (by rfl) T.f7 Ci (B6 (Br (fv:=[]) (js:=[]) (cl:=[]) rfl (by with_unfolding_all rfl) ⟨rfl,by nofun,by nofun,rfl,by nofun,by nofun,(List.forall_mem_nil _),(List.forall_mem_nil _),.nil⟩ (CM (AK 0)) (fun _ _ _ _ _=>CO) (fun _ _ _ _ _=>(AR T.ed (B1 T) (BO hr) (AA (AK 0) AC)))) AC)))))))) (AH (AM BF)) AT)
   (AH (AM (Ao Aq (TSt.pe_lensetU (Q1 hu5) rfl (by rfl) T.fz PySem.boot_len (by rfl) T.gb (AK 0)) (AW Aj (by rfl) T.fz PySem.boot_len (AA (AK 0) AC)) (AS _)))))),?_⟩
  try dsimp only[BB,Au]
  refine⟨_,rfl,v,r,4,rfl,h,fun H1 s1=>⟨_,rfl,?_⟩⟩
  cases r with
  | none=>exact AU (k _ s1)
  | some ts=>
  obtain⟨a,us,rfl,ha,pp⟩:=h
  have hl:us.length=ts.length:=Paired.length pp
  have k:∀ H',AF H H'→Q (.bl (decide ((ts.length:Int)≤4)&&!decide (ts.length=0)&&ts.all B4&&Ds (ts.map FX))) H':=k
  by_cases c4:(ts.length:Int)≤4
  rotate_left
  ·rw[show KW 4 (some ts)=false from decide_eq_false c4]
   rw[decide_eq_false c4]at k
   exact AU (k _ s1)
  rw[show KW 4 (some ts)=true from decide_eq_true c4]
  rw[decide_eq_true c4,Bool.true_and]at k
  refine AY ?_
  have ha1:=s1 _ _ ha
  refine⟨_,rfl,a,_,rfl,.inl (As.of ha1),rfl,decide (ts.length=0),congrArg V.bl (X7 hl),?_⟩
  by_cases c0:ts.length=0
  ·rw[decide_eq_true c0]at k ⊢
   exact AU (k _ s1)
  rw[decide_eq_false c0]at k ⊢
  rw[show(!false)=true from rfl,Bool.true_and]at k
  refine AY ?_
  refine⟨_,rfl,?_⟩
  refine⟨a,rfl,⟨_,As.of ha1⟩,fun D hD=>?_⟩
  refine⟨fun i m H4=>m=us.length-i∧i≤us.length∧H4 D=some (.lst (((ts.take i).map B4).map V.bl))∧AF H1 H4,⟨us.length,rfl,Nat.zero_le _,AE,AF.new hD⟩,?_⟩
  rintro i m H4 ⟨rfl,hi,hD4,s4⟩
  by_cases hlt:i<us.length
  ·refine .inr ⟨⟨_,_,As.of (s4 _ _ ha1),List.getElem?_eq_getElem hlt⟩,fun x H' y=>?_⟩
   obtain⟨e,y⟩:=y
   subst e
   have hx:=y _ (As.of (s4 _ _ ha1))
   have s04:=s1.trans s4
   obtain⟨t',ht,hb⟩:=BQ pp hx
   refine⟨_,rfl,x,t',rfl,hb.same s04,fun H5 s5=>?_⟩
   refine⟨_,s5 _ _ hD4,DX (by rw[List.length_map,List.length_map,List.length_take];omega),us.length-(i+1),by omega,rfl,hlt,?_,fun b o e=>?_⟩
   ·rw[AE,List.take_add_one,ht,List.map_append,List.map_append];rfl
   ·rw[Ab (Am e hD)];exact s5 _ _ (s4 _ _ e)
  have e:i=us.length:=by omega
  subst e
  rw[hl,List.take_length]at hD4
  refine .inl ⟨⟨_,As.of (s4 _ _ ha1),Nat.le_refl _⟩,?_⟩
  have s14:=s1.trans s4
  refine⟨D,_,rfl,As.of hD4,ts.all B4,congrArg V.bl (by rw[List.all_map];rfl),?_⟩
  cases ea:ts.all B4 with
  | false=>rw[ea]at k;exact AU (k _ s14)
  | true=>
   rw[ea,Bool.true_and]at k
   have ez:=Uk pp fun t ht=>List.all_eq_true.mp ea t ht
   refine AY ⟨_,rfl,a,us,_,rfl,.inl (As.of (s14 _ _ ha)),(by omega),.inl ⟨_,ez,rfl⟩,_,rfl,a,_,rfl,.inl (As.of (s14 _ _ ha)),rfl,I0 (congrArg V.bl ?_) (k _ s14)⟩
   exact M1 (by rw[List.length_map,hl])
theorem MH:AZ ["thing","sheets"] ["thing","sheets"] (AO Ex):=BC
theorem GR (T:Txt w K mg t):A1 P w K mg base Bo 37 t.cj t.ck ["thing","sheets"] X6:=by
 have D:=T.fb
 refine D.fn.okX MH ?_ (fun cdv A outer s H vs Q E hr h Z hZ=>?_)
 ·rintro _ _ _ _ ⟨v,r,sa,zs,rfl,_⟩
  rfl
 ·obtain⟨v,r,sa,zs,rfl,h,hs,k⟩:=h
  refine hZ ⟨_,((AG (Ah (PW.pt (By (A5 (A4 (AR T.e2 (FG T) (BO hr) (AA (AK 0) (AA (BN T.ha) AC))))) (Bu (A5 (A4 (AW (Ch rfl) (by rfl) T.f7 Ci (B6 (Br (fv:=["sheets"]) (js:=[1]) (cl:=[("sheets",s.heap.objs.size+1)]) rfl (by with_unfolding_all rfl) ⟨rfl,by nofun,by nofun,rfl,by nofun,by nofun,(List.forall_mem_cons.mpr ⟨⟨rfl,rfl,rfl⟩,(List.forall_mem_nil _)⟩),(List.forall_mem_cons.mpr ⟨rfl,(List.forall_mem_nil _)⟩),(.cons rfl .nil)⟩ (CM (AK 0)) (fun _ _ _ _ _=>CO) (fun _ _ _ _ _=>(AR T.e8 (HV T) (BO hr) (AA (AK 0) (AA (AK 1) AC))))) AC))))))) (AH (AM BF)) AT)
   (AH (AM (AR T.e9 (Cg T) (BO hr) (AA (AK 0) AC)))))),?_⟩
  try dsimp only[BB,Au]
  refine⟨_,rfl,v,r,60,rfl,h,fun H1 s1=>⟨_,rfl,?_⟩⟩
  cases r with
  | none=>exact AU (k _ s1)
  | some ts=>
  obtain⟨a,us,rfl,ha,pp⟩:=h
  have hl:us.length=ts.length:=Paired.length pp
  have k:∀ H',AF H H'→Q (.bl (decide ((ts.length:Int)≤60)&&ts.all (Kl zs)&&Ds (ts.map Lq))) H':=k
  by_cases c4:(ts.length:Int)≤60
  rotate_left
  ·rw[show KW 60 (some ts)=false from decide_eq_false c4]
   rw[decide_eq_false c4]at k
   exact AU (k _ s1)
  rw[show KW 60 (some ts)=true from decide_eq_true c4]
  rw[decide_eq_true c4,Bool.true_and]at k
  have ha1:=s1 _ _ ha
  refine AY ?_
  refine⟨_,rfl,?_⟩
  refine⟨a,rfl,⟨_,As.of ha1⟩,fun D hD=>?_⟩
  refine⟨fun i m H4=>m=us.length-i∧i≤us.length∧H4 D=some (.lst (((ts.take i).map (Kl zs)).map V.bl))∧AF H1 H4,⟨us.length,rfl,Nat.zero_le _,AE,AF.new hD⟩,?_⟩
  rintro i m H4 ⟨rfl,hi,hD4,s4⟩
  by_cases hlt:i<us.length
  ·refine .inr ⟨⟨_,_,As.of (s4 _ _ ha1),List.getElem?_eq_getElem hlt⟩,fun x H' y=>?_⟩
   obtain⟨e,y⟩:=y
   subst e
   have hx:=y _ (As.of (s4 _ _ ha1))
   have s04:=s1.trans s4
   obtain⟨t',ht,hb⟩:=BQ pp hx
   refine⟨_,rfl,_,rfl,x,t',sa,zs,rfl,hb.same s04,s04 _ _ hs,fun H5 s5=>?_⟩
   refine⟨_,s5 _ _ hD4,DX (by rw[List.length_map,List.length_map,List.length_take];omega),us.length-(i+1),by omega,rfl,hlt,?_,fun b o e=>?_⟩
   ·rw[AE,List.take_add_one,ht,List.map_append,List.map_append];rfl
   ·rw[Ab (Am e hD)];exact s5 _ _ (s4 _ _ e)
  have e:i=us.length:=by omega
  subst e
  rw[hl,List.take_length]at hD4
  refine .inl ⟨⟨_,As.of (s4 _ _ ha1),Nat.le_refl _⟩,?_⟩
  have s14:=s1.trans s4
  refine⟨D,_,rfl,As.of hD4,ts.all (Kl zs),congrArg V.bl (by rw[List.all_map];rfl),?_⟩
  cases ea:ts.all (Kl zs)with
  | false=>rw[ea]at k;exact AU (k _ s14)
  | true=>
   rw[ea,Bool.true_and]at k
   obtain⟨fs,f1,f2⟩:=SN (key:=Lq) (f:=Kl zs) (g:=fun _=>.non) (G:=fun v c=>∃ b,v=.ref b∧H4 b=some (.tup (V9 c))) (EI pp s14) (fun t ht=>List.all_eq_true.mp ea t ht) fun v t hv hc=>let ⟨b,x,y⟩:=SM hv hc;⟨.ref b,x,b,rfl,y⟩
   exact AY ⟨_,rfl,a,us,fs,_,rfl,s14 _ _ ha,f1,.inr ⟨_,f2,rfl⟩,(by omega),fun H3 s3=>k _ (s14.trans s3)⟩
theorem MI:AZ ["thing"] ["thing"] (AO Ey):=BC
theorem GT (T:Txt w K mg t):A1 P w K mg base Bo 36 t.cl t.cm ["thing"] (WE JB 8):=by
 have D:=T.fc
 refine D.fn.okX MI ?_ (fun cdv A outer s H vs Q E hr h Z hZ=>?_)
 ·rintro _ _ _ _ ⟨v,r,rfl,_⟩
  rfl
 ·obtain⟨v,r,rfl,h,k⟩:=h
  refine hZ ⟨_,((AH (AM (Ax (AR T.e2 (FG T) (BO hr) (AA (AK 0) (AA (BN T.hb) AC))) (Ax (AW (Ch rfl) (by rfl) T.f7 Ci (B6 (Br (fv:=[]) (js:=[]) (cl:=[]) rfl (by with_unfolding_all rfl) ⟨rfl,by nofun,by nofun,rfl,by nofun,by nofun,(List.forall_mem_nil _),(List.forall_mem_nil _),.nil⟩ (CM (AK 0)) (fun _ _ _ _ _=>CO) (fun _ _ _ _ _=>(AR T.e5 (HU T) (BO hr) (AA (AK 0) AC)))) AC)) (A6 (AR T.e9 (Cg T) (BO hr) (AA (AK 0) AC)))))))),?_⟩
  try dsimp only[BB,Au]
  refine⟨_,rfl,v,r,8,rfl,h,fun H1 s1=>⟨_,rfl,?_⟩⟩
  cases r with
  | none=>exact AY (k _ s1)
  | some ts=>
  obtain⟨a,us,rfl,ha,pp⟩:=h
  have hl:us.length=ts.length:=Paired.length pp
  have k:∀ H',AF H H'→Q (.bl (decide ((ts.length:Int)≤8)&&ts.all JB&&Ds (ts.map Lr))) H':=k
  by_cases c4:(ts.length:Int)≤8
  rotate_left
  ·rw[show KW 8 (some ts)=false from decide_eq_false c4]
   rw[decide_eq_false c4]at k
   exact AY (k _ s1)
  rw[show KW 8 (some ts)=true from decide_eq_true c4]
  rw[decide_eq_true c4,Bool.true_and]at k
  have ha1:=s1 _ _ ha
  refine AU ?_
  refine⟨_,rfl,?_⟩
  refine⟨a,rfl,⟨_,As.of ha1⟩,fun D hD=>?_⟩
  refine⟨fun i m H4=>m=us.length-i∧i≤us.length∧H4 D=some (.lst (((ts.take i).map JB).map V.bl))∧AF H1 H4,⟨us.length,rfl,Nat.zero_le _,AE,AF.new hD⟩,?_⟩
  rintro i m H4 ⟨rfl,hi,hD4,s4⟩
  by_cases hlt:i<us.length
  ·refine .inr ⟨⟨_,_,As.of (s4 _ _ ha1),List.getElem?_eq_getElem hlt⟩,fun x H' y=>?_⟩
   obtain⟨e,y⟩:=y
   subst e
   have hx:=y _ (As.of (s4 _ _ ha1))
   have s04:=s1.trans s4
   obtain⟨t',ht,hb⟩:=BQ pp hx
   refine⟨_,rfl,x,t',rfl,hb.same s04,fun H5 s5=>?_⟩
   refine⟨_,s5 _ _ hD4,DX (by rw[List.length_map,List.length_map,List.length_take];omega),us.length-(i+1),by omega,rfl,hlt,?_,fun b o e=>?_⟩
   ·rw[AE,List.take_add_one,ht,List.map_append,List.map_append];rfl
   ·rw[Ab (Am e hD)];exact s5 _ _ (s4 _ _ e)
  have e:i=us.length:=by omega
  subst e
  rw[hl,List.take_length]at hD4
  refine .inl ⟨⟨_,As.of (s4 _ _ ha1),Nat.le_refl _⟩,?_⟩
  have s14:=s1.trans s4
  refine⟨D,_,rfl,As.of hD4,ts.all JB,congrArg V.bl (by rw[List.all_map];rfl),?_⟩
  cases ea:ts.all JB with
  | false=>rw[ea]at k;exact AY (k _ s14)
  | true=>
   rw[ea,Bool.true_and]at k
   obtain⟨fs,f1,f2⟩:=SN (key:=Lr) (f:=JB) (g:=fun _=>.non) (G:=fun v z=>v=V.str z) (EI pp s14) (fun t ht=>List.all_eq_true.mp ea t ht) fun v t hv hc=>⟨_,N4 Ui hv hc,rfl⟩
   exact AU ⟨_,rfl,a,us,fs,_,rfl,s14 _ _ ha,f1,.inl ⟨_,Q6 f2,rfl⟩,(by omega),fun H3 s3=>k _ (s14.trans s3)⟩
theorem NK:AZ ["thing"] ["thing"] (AO Ft):=BC
theorem HD (T:Txt w K mg t):A1 P w K mg base Bo 36 t.cn t.co ["thing"] (WE JC 6):=by
 have D:=T.fd
 refine D.fn.okX NK ?_ (fun cdv A outer s H vs Q E hr h Z hZ=>?_)
 ·rintro _ _ _ _ ⟨v,r,rfl,_⟩
  rfl
 ·obtain⟨v,r,rfl,h,k⟩:=h
  refine hZ ⟨_,((AH (AM (Ax (AR T.e2 (FG T) (BO hr) (AA (AK 0) (AA (BN T.hc) AC))) (Ax (AW (Ch rfl) (by rfl) T.f7 Ci (B6 (Br (fv:=[]) (js:=[]) (cl:=[]) rfl (by with_unfolding_all rfl) ⟨rfl,by nofun,by nofun,rfl,by nofun,by nofun,(List.forall_mem_nil _),(List.forall_mem_nil _),.nil⟩ (CM (AK 0)) (fun _ _ _ _ _=>CO) (fun _ _ _ _ _=>(AR T.e6 (O5 T) (BO hr) (AA (AK 0) AC)))) AC)) (A6 (AR T.e9 (Cg T) (BO hr) (AA (AK 0) AC)))))))),?_⟩
  try dsimp only[BB,Au]
  refine⟨_,rfl,v,r,6,rfl,h,fun H1 s1=>⟨_,rfl,?_⟩⟩
  cases r with
  | none=>exact AY (k _ s1)
  | some ts=>
  obtain⟨a,us,rfl,ha,pp⟩:=h
  have hl:us.length=ts.length:=Paired.length pp
  have k:∀ H',AF H H'→Q (.bl (decide ((ts.length:Int)≤6)&&ts.all JC&&Ds (ts.map Lr))) H':=k
  by_cases c4:(ts.length:Int)≤6
  rotate_left
  ·rw[show KW 6 (some ts)=false from decide_eq_false c4]
   rw[decide_eq_false c4]at k
   exact AY (k _ s1)
  rw[show KW 6 (some ts)=true from decide_eq_true c4]
  rw[decide_eq_true c4,Bool.true_and]at k
  have ha1:=s1 _ _ ha
  refine AU ?_
  refine⟨_,rfl,?_⟩
  refine⟨a,rfl,⟨_,As.of ha1⟩,fun D hD=>?_⟩
  refine⟨fun i m H4=>m=us.length-i∧i≤us.length∧H4 D=some (.lst (((ts.take i).map JC).map V.bl))∧AF H1 H4,⟨us.length,rfl,Nat.zero_le _,AE,AF.new hD⟩,?_⟩
  rintro i m H4 ⟨rfl,hi,hD4,s4⟩
  by_cases hlt:i<us.length
  ·refine .inr ⟨⟨_,_,As.of (s4 _ _ ha1),List.getElem?_eq_getElem hlt⟩,fun x H' y=>?_⟩
   obtain⟨e,y⟩:=y
   subst e
   have hx:=y _ (As.of (s4 _ _ ha1))
   have s04:=s1.trans s4
   obtain⟨t',ht,hb⟩:=BQ pp hx
   refine⟨_,rfl,x,t',rfl,hb.same s04,fun H5 s5=>?_⟩
   refine⟨_,s5 _ _ hD4,DX (by rw[List.length_map,List.length_map,List.length_take];omega),us.length-(i+1),by omega,rfl,hlt,?_,fun b o e=>?_⟩
   ·rw[AE,List.take_add_one,ht,List.map_append,List.map_append];rfl
   ·rw[Ab (Am e hD)];exact s5 _ _ (s4 _ _ e)
  have e:i=us.length:=by omega
  subst e
  rw[hl,List.take_length]at hD4
  refine .inl ⟨⟨_,As.of (s4 _ _ ha1),Nat.le_refl _⟩,?_⟩
  have s14:=s1.trans s4
  refine⟨D,_,rfl,As.of hD4,ts.all JC,congrArg V.bl (by rw[List.all_map];rfl),?_⟩
  cases ea:ts.all JC with
  | false=>rw[ea]at k;exact AY (k _ s14)
  | true=>
   rw[ea,Bool.true_and]at k
   obtain⟨fs,f1,f2⟩:=SN (key:=Lr) (f:=JC) (g:=fun _=>.non) (G:=fun v z=>v=V.str z) (EI pp s14) (fun t ht=>List.all_eq_true.mp ea t ht) fun v t hv hc=>⟨_,N4 Uj hv hc,rfl⟩
   exact AU ⟨_,rfl,a,us,fs,_,rfl,s14 _ _ ha,f1,.inl ⟨_,Q6 f2,rfl⟩,(by omega),fun H3 s3=>k _ (s14.trans s3)⟩
theorem GU:AZ ["pairs"] ["pairs"] (AO CW):=BC
theorem CG (T:Txt w K mg t)(hC:PySem.W.CodeHd base t.fe t.d7)(hB:BM mg base):A1 P w K mg base Bo 4 t.cp t.cq ["pairs"] (WM t.d7):=by
 have D:=T.fe
 refine D.fn.okCX GU ?_ (fun cdv A outer s H vs Q E hcd hr h Z hZ=>?_)
 ·rintro _ _ _ _ ⟨a,rfl,_⟩
  rfl
 ·obtain⟨a,rfl,ht,hs⟩:=h
  refine hZ ⟨_,((AH (AM (E7 Dd (by rfl) T.f5 Bk (BP (GS.pe_sortG (k:=1) (BO hr) (by rfl) T.ga (AK 0) (T7 (clos:=[]) rfl (by with_unfolding_all rfl) (hcd.symm.trans T.ik) hC hB)) AC))))),?_⟩
  try dsimp only[BB,Au]
  refine⟨_,rfl,ht,fun lf H2 nf keep tab lam=>?_⟩
  obtain⟨tb,hP,_⟩:=id ht
  have neP:∀{b:Addr} {o:HO},H b=some o→(∀ ts,o≠.tbl ts)→b≠t.d7:=fun h n e=>by rw[e,hP]at h;cases h;exact n _ rfl
  obtain⟨c,ctv,hlf,hcd'⟩:=lam
  refine⟨a,lf,qS,(fun vs H Q E=>∃ v f:V,vs=[v]∧Em H v f∧Q f H),rfl,rfl,fun base' W=>?_,?_⟩
  ·refine W.lam (k:=0) (ps:=["pair"]) (fv:=[]) (js:=[]) hlf hcd' ⟨rfl,rfl,rfl,by nofun,(List.forall_mem_cons.mpr ⟨rfl,(List.forall_mem_nil _)⟩),by nofun,by nofun,(List.forall_mem_nil _),(List.forall_mem_nil _),.nil⟩ (fun us hl=>by obtain⟨_,rfl⟩:=Ws hl;rfl) (fun vs H Q E h=>?_) (fun A outer s H vs Q E hr h=>?_)
   ·obtain⟨v,f,rfl,_⟩:=h
    rfl
   ·obtain⟨v,f,rfl,⟨b,r,e,hb⟩,q⟩:=h
    refine⟨_,(AV Ac (AK 0) AD (fun _ _=>rfl)),?_⟩
    rw[e]
    exact⟨_,rfl,b,_,_,_,rfl,rfl,A0.of hb,A2,q⟩
  have fd:∀{v f:V},Em H v f→Em (Jj qS H2) v f:=fun⟨b,r,e,hb⟩=>⟨b,r,e,IH (keep _ _ (neP hb (fun _ z=>by cases z)) hb) rfl⟩
  rcases hs with hs | hs
  ·refine .inl ?_
   obtain⟨b,ps,ha,h64,nd,hh,k⟩:=hs
   have ha2:=keep _ _ (neP ha (fun _ z=>by cases b <;> cases z)) ha
   refine⟨ps,(U5.of ha2).or,h64,nd,fun p hp=>?_,fun l qs hl m1 m2 m3=>?_⟩
   ·exact⟨p.1,.str p.2,rfl,fd (hh p hp),rfl,rfl⟩
   refine⟨l,_,rfl,.inl ⟨As.of AE,fun q hq=>?_⟩⟩
   exact k q qs _ m1 m2 m3 AE (fun b o hb e=>AF.new hq _ _ (AF.new hl _ _ (keep b o hb e))) ((tab.sm (AF.new hl)).sm (AF.new hq))
  ·refine .inr ?_
   obtain⟨b,ps,ha,h64,nd,hh,k⟩:=hs
   have ha2:=keep _ _ (neP ha (fun _ z=>by cases b <;> cases z)) ha
   refine⟨ps,(U5.of ha2).or,h64,nd,fun p hp=>?_,fun l qs hl m1 m2 m3=>?_⟩
   ·obtain⟨x,fx,hx⟩:=hh p hp
    exact⟨p.1,.ref x,rfl,fd fx,⟨x,rfl,keep _ _ (neP hx (fun _ z=>by cases z)) hx⟩,rfl⟩
   refine⟨l,_,rfl,.inl ⟨As.of AE,fun q hq=>?_⟩⟩
   exact k q qs _ m1 m2 m3 AE (fun b o hb e=>AF.new hq _ _ (AF.new hl _ _ (keep b o hb e))) ((tab.sm (AF.new hl)).sm (AF.new hq))
theorem Ju:AZ ["sheets","cells","names","owns","rounds"] ["sheets","cells","names","owns","rounds"] (AO Gq):=BC
theorem Ix (T:Txt w K mg t)(hC:PySem.W.CodeHd base t.fe t.d7)(hB:BM mg base):A1 P w K mg base Bo 40 t.cr t.cs ["sheets","cells","names","owns","rounds"] (WO t.d7):=by
 have D:=T.ff
 refine D.fn.okX Ju ?_ (fun cdv A outer s H vs Q E hr h Z hZ=>?_)
 ·rintro _ _ _ _ ⟨a,c,n,o,xs,us,ws,zs,cs,ns,os,r,rfl,_⟩
  rfl
 ·obtain⟨a,c,n,o,xs,us,ws,zs,cs,ns,os,r,rfl,ha,hc,hn,ho,ec,en,eo,ok,okc,okn,oko,r0,r4,ht,k⟩:=h
  refine hZ ⟨_,((AG (Ah (A5 (A4 (AR T.fa (FZ T) (BO hr) (AA (AK 0) AC)))) (AH DC) AT)
   (AG (Ah (A5 (A4 (AR T.fb (GR T) (BO hr) (AA (AK 1) (AA (AK 0) AC))))) (AH DC) AT)
   (AG (Ah (A5 (A4 (AR T.fc (GT T) (BO hr) (AA (AK 2) AC)))) (AH DC) AT)
   (AG (Ah (A5 (A4 (AR T.fd (HD T) (BO hr) (AA (AK 3) AC)))) (AH DC) AT)
   (AG (Ah (A5 (A4 (AR T.e1 (E3 T) (BO hr) (AA (AK 4) (AA (BN T.hd) AC))))) (AH DC) AT)
   (AH (AM (AL (BP (E7 Lv (by rfl) T.f5 Bk (AA (AK 0) AC)) (BP (AR T.fe (CG T hC hB) (hr.mono (by omega)) (AA (AK 1) AC)) (BP (AR T.fe (CG T hC hB) (hr.mono (by omega)) (AA (AK 2) AC)) (BP (AR T.fe (CG T hC hB) (hr.mono (by omega)) (AA (AK 3) AC)) (AA (AK 4) AC)))))))))))))),?_⟩
  try dsimp only[BB,Au]
  have rs:=OB (H:=H) ok.2.2.2
  refine⟨_,rfl,.ref a,some (zs.map Th.str),rfl,⟨a,_,rfl,ha,rs⟩,fun H1 s1=>?_⟩
  rw[SV ok]
  refine⟨true,rfl,AY ?_⟩
  refine⟨_,rfl,_,rfl,.ref c,_,a,zs,rfl,(Q9 hc ec okc).same s1,s1 _ _ ha,fun H2 s2=>?_⟩
  rw[SW okc]
  refine⟨true,rfl,AY ?_⟩
  have s02:=s1.trans s2
  refine⟨_,rfl,.ref n,_,rfl,(Ka hn en okn).same s02,fun H3 s3=>?_⟩
  rw[show Jr JB 8 _=true from OC (own:=false) okn]
  refine⟨true,rfl,AY ?_⟩
  have s03:=s02.trans s3
  refine⟨_,rfl,.ref o,_,rfl,(Ka ho eo oko).same s03,fun H4 s4=>?_⟩
  rw[show Jr JC 6 _=true from OC (own:=true) oko]
  refine⟨true,rfl,AY ?_⟩
  have s04:=s03.trans s4
  refine⟨_,rfl,.int r,.int r,4,rfl,.int r,fun H4' s4'=>?_⟩
  rw[show SK 4 (.int r)=true by show(decide (0≤r)&&decide (r≤4))=true;rw[decide_eq_true r0,decide_eq_true r4];rfl]
  refine⟨true,rfl,AY ?_⟩
  have s04:=s04.trans s4'
  have ha4:=s04 _ _ ha
  obtain⟨tb0,hP,_⟩:=id ht
  have kpX:∀{G G':Hp},Bw G t.d7 qS→KeepX t.d7 G G'→Kp G G':=fun⟨x,hx,_⟩ kk b xs e=>kk b _ (CJ e hx (by intro z;cases z)) e
  have nP:∀{b:Addr} {o:HO},H b=some o→(∀ ts,o≠.tbl ts)→b≠t.d7:=fun h n e=>by rw[e,hP]at h;cases h;exact n _ rfl
  refine⟨_,rfl,a,true,_,rfl,ha4,fun t1 H5 s5' o1=>?_⟩
  have s5:=s04.trans s5'
  have tb5:=ht.sm s5
  refine⟨_,rfl,c,rfl,tb5,.inr (M3 (b:=true) (F:=EK) (key:=fun(p:Pr)=>p.1) (s5 _ _ hc) (Paired.imp' (fun _ _ (x:EK H _ _)=>x.kp (Kp.same s5)) ec) (fun x=>x.hd) (by have:=okc.1;omega) okc.2.1 fun t2 q2 cs' H6 pc sc o2 k6 tb6=>?_)⟩
  have q56:=kpX tb5 k6
  refine⟨_,rfl,n,rfl,tb6,.inl (M3 (b:=true) (F:=Bl false) (key:=fun(e:El)=>e.1) (k6 _ _ (nP hn (fun _ z=>nomatch z)) (s5 _ _ hn)) (Paired.imp' (fun _ _ (x:Bl false H _ _)=>x.kp ((Kp.same s5).trans q56)) en) (fun x=>x.hd) (by have:ns.length≤8:=okn.1;omega) okn.2.1 fun t3 q3 ns' H7 pn sn o3 k7 tb7=>?_)⟩
  have q67:=kpX tb6 k7
  refine⟨_,rfl,o,rfl,tb7,.inl (M3 (b:=true) (F:=Bl true) (key:=fun(e:El)=>e.1) (k7 _ _ (nP ho (fun _ z=>nomatch z)) (k6 _ _ (nP ho (fun _ z=>nomatch z)) (s5 _ _ ho))) (Paired.imp' (fun _ _ (x:Bl true H _ _)=>x.kp (((Kp.same s5).trans q56).trans q67)) eo) (fun x=>x.hd) (by have:os.length≤6:=oko.1;omega) oko.2.1 fun t4 q4 os' H8 po so o4 k8 tb8=>?_)⟩
  have q78:=kpX tb7 k8
  refine⟨_,rfl,(by show 5≤sizeLine;decide),fun b hb=>?_⟩
  have sb:=AF.new (o:=.tup [.ref t1,.ref t2,.ref t3,.ref t4,.int r]) hb
  have qb:=Kp.same sb
  have q8:=q78.trans qb
  have q7:=q67.trans q8
  exact k b cs' ns' os' _ ⟨t1,t2,t3,t4,q2,q3,q4,AE,q7 _ _ (q56 _ _ o1),q7 _ _ o2,q8 _ _ o3,qb _ _ o4,Paired.imp' (fun _ _ x=>x.kp (q56.trans q7)) pc,Paired.imp' (fun _ _ x=>x.kp q7) pn,Paired.imp' (fun _ _ x=>x.kp q8) po⟩ sc sn so (fun x u hx e=>sb _ _ (k8 _ _ hx (k7 _ _ hx (k6 _ _ hx (s5 _ _ e))))) (tb8.sm sb)
theorem MJ (T:Txt w K mg t):A1 P w K mg base (NV P w) 40 t.cr t.cs ["sheets","cells","names","owns","rounds"] (Wt t):=by
 have D:=T.ff
 refine D.fn.okE Ju (fun vs H Q E h=>?_) (fun cdv A outer s H vs Q E hr h=>?_)
 ·obtain⟨v0,v1,v2,v3,v4,r0,r1,r2,r3,t4,rfl,_⟩:=h
  rfl
 ·obtain⟨v0,v1,v2,v3,v4,r0,r1,r2,r3,t4,rfl,h0,h1,h2,h3,h4,bad,k⟩:=h
  have hu:=hr.units0
  refine⟨_,((AG (Ah (A5 (A4 (E6 (A1.toE (FZ T)) (hr.mono (by decide)) rfl T.fa.gl T.fa.fn.kp T.fa.b .nil (K3 (E':=E0) fun _ _ _ z=>z.elim) (AA (pv 0) AC)))) (AH (Ee T.ii hr.hd AI)) AT)
   (AG (Ah (A5 (A4 (E6 (A1.toE (GR T)) (hr.mono (by decide)) rfl T.fb.gl T.fb.fn.kp T.fb.b .nil (K3 (E':=E0) fun _ _ _ z=>z.elim) (AA (pv 1) (AA (pv 0) AC))))) (AH (Ee T.ii hr.hd AI)) AT)
   (AG (Ah (A5 (A4 (E6 (A1.toE (GT T)) (hr.mono (by decide)) rfl T.fc.gl T.fc.fn.kp T.fc.b .nil (K3 (E':=E0) fun _ _ _ z=>z.elim) (AA (pv 2) AC)))) (AH (Ee T.ii hr.hd AI)) AT)
   (AG (Ah (A5 (A4 (E6 (A1.toE (HD T)) (hr.mono (by decide)) rfl T.fd.gl T.fd.fn.kp T.fd.b .nil (K3 (E':=E0) fun _ _ _ z=>z.elim) (AA (pv 3) AC)))) (AH (Ee T.ii hr.hd AI)) AT)
   (AG (Ah (A5 (A4 (E6 (A1.toE (E3 T)) (hr.mono (by decide)) rfl T.e1.gl T.e1.fn.kp T.e1.b .nil (K3 (E':=E0) fun _ _ _ z=>z.elim) (AA (pv 4) (AA (BN T.hd) AC))))) (AH (Ee T.ii hr.hd AI)) AT)
   (AH DC))))))),?_⟩
  refine⟨_,rfl,v0,r0,rfl,h0,fun H1 s1=>⟨_,rfl,?_⟩⟩
  unfold Dt at bad
  cases e0:RM r0 with
  | false=>exact AU (k _ s1)
  | true=>
  rw[e0,Bool.true_and]at bad
  obtain⟨a,rfl,ha⟩:=SX h0 e0
  refine AY ⟨_,rfl,_,rfl,v1,r1,a,_,rfl,h1.same s1,s1 _ _ ha,fun H2 s2=>⟨_,rfl,?_⟩⟩
  have s02:=s1.trans s2
  cases e1:O8 (WP r0) r1 with
  | false=>exact AU (k _ s02)
  | true=>
  rw[e1,Bool.true_and]at bad
  refine AY ⟨_,rfl,v2,r2,rfl,h2.same s02,fun H3 s3=>⟨_,rfl,?_⟩⟩
  have s03:=s02.trans s3
  cases e2:Jr JB 8 r2 with
  | false=>exact AU (k _ s03)
  | true=>
  rw[e2,Bool.true_and]at bad
  refine AY ⟨_,rfl,v3,r3,rfl,h3.same s03,fun H4 s4=>⟨_,rfl,?_⟩⟩
  have s04:=s03.trans s4
  cases e3:Jr JC 6 r3 with
  | false=>exact AU (k _ s04)
  | true=>
  rw[e3,Bool.true_and]at bad
  refine AY ⟨_,rfl,v4,t4,4,rfl,h4.same s04,fun H5 s5=>⟨_,rfl,?_⟩⟩
  rw[bad]
  exact AU (k _ (s04.trans s5))
theorem GV:AZ ["_law_pen_here","_law_way"] ["_law_pen_here"] (AO EO):=BC
theorem Fa (T:Txt w K mg t):A1 P w K mg base Bo 2 t.ct t.cu ["_law_pen_here"] (WR K):=by
 have D:=T.fg
 refine D.fn.okX GV ?_ (fun cdv A outer s H vs Q E hr h Z hZ=>?_)
 ·rintro _ _ _ _ ⟨p,n,S,rfl,_⟩
  rfl
 ·obtain⟨p,n,S,rfl,hpen,hn,k⟩:=h
  refine hZ ⟨_,((AG (Af (i:=1) GV.nd rfl (Or.inl rfl) (AR T.d8 (AN T) (BO hr) (AA (AK 0) (AB AD AC))))
   (AG (Ah (AX Aq (AK 1) AD (AS _)) (AH (AM (AL (AB AI (AQ (AV Ai (Ae (AB AI (AB AI (AB AI (AB AI AC))))) (AR T.d8 (AN T) (BO hr) (AA (AK 0) (AB AD AC))) (fun _ _=>rfl)) AC))))) AT)
   (AG (Ah (AX Aq (AK 1) AD (AS _)) (AH (AM (AL (AB AI (Ef (Ao Aq (AR T.d8 (AN T) (BO hr) (AA (AK 0) (AB AD AC))) AD (AS _)) AC))))) AT)
   (AH (AM (AL (AB AI (AQ (AV Ai (Ae (AB AD (AB AD (AB AD (AB AD (AB AD AC)))))) (AR T.d8 (AN T) (BO hr) (AA (AK 0) (AB AD AC))) (fun _ _=>rfl)) (AB AD AC)))))))))),?_⟩
  try dsimp only[BB,Au]
  refine⟨_,rfl,p,_,_,_,rfl,(by show(0:Int)<_;decide),Ag (by decide) (by decide),hpen,(by omega),fun r1 H1 a1 b1 pen1 kp1=>?_⟩
  refine⟨_,rfl,rfl,_,rfl,Bn (fun _=>?_) (fun _=>?_)⟩
  ·refine⟨(by show 4≤sizeLine;decide),fun q2 h2=>⟨_,rfl,p,_,_,_,rfl,(by show(0:Int)<_;decide),Ag (by decide) (by decide),(pen1.same (AF.new h2)),(by omega),fun r2 H2 a2 b2 pen2 kp2=>?_⟩⟩
   obtain⟨z,ez,pz⟩:=FF (L:=[vS "",vS "ab",vS "a b",vS "b7"]) (P:=X9) (by nofun) a2 b2
   refine⟨q2,_,_,_,rfl,rfl,As.of (kp2 _ _ (pen1.ne h2) AE),ez,BH,fun q hq=>?_⟩
   exact k q (.txt z) _ AE (Uq pz) trivial (pen2.same (AF.new hq)) (kp1.trans ((AF.keep (AF.new h2)).trans (kp2.trans (AF.keep (AF.new hq)))))
  refine⟨_,rfl,rfl,_,rfl,Bn (fun _=>?_) (fun _=>?_)⟩
  ·refine⟨_,rfl,p,_,_,_,rfl,(by show(0:Int)<_;decide),Ag (by decide) (by decide),pen1,(by omega),fun r2 H2 a2 b2 pen2 kp2=>⟨rfl,BH,fun q hq=>?_⟩⟩
   exact k q (.tru _) _ AE trivial trivial (pen2.same (AF.new hq)) (kp1.trans (kp2.trans (AF.keep (AF.new hq))))
  ·refine⟨(by show 5≤sizeLine;decide),fun q2 h2=>⟨_,rfl,p,_,_,_,rfl,(by show(0:Int)<_;decide),Ag (by decide) (by decide),(pen1.same (AF.new h2)),(by omega),fun r2 H2 a2 b2 pen2 kp2=>?_⟩⟩
   obtain⟨i,ei,i0,i9⟩:=GJ (L:=[.int 0,.int 1,.int 2,.int 7,.int 999999999]) (lo:=0) (hi:=999999999) (by nofun) a2 b2
   refine⟨q2,_,_,_,rfl,rfl,As.of (kp2 _ _ (pen1.ne h2) AE),ei,BE,fun q hq=>?_⟩
   exact k q (.num i 1) _ AE ⟨R4,by omega,by decide⟩ ⟨rfl,i0,i9⟩ (pen2.same (AF.new hq)) (kp1.trans ((AF.keep (AF.new h2)).trans (kp2.trans (AF.keep (AF.new hq)))))
theorem Dk:AZ ["_law_pen_here","_law_row","_law_column"] ["_law_pen_here"] (AO Di):=BC
theorem Iy (T:Txt w K mg t):A1 P w K mg base Bo 2 t.cv t.cw ["_law_pen_here"] (WS K):=by
 have D:=T.fh
 refine D.fn.okX Dk ?_ (fun cdv A outer s H vs Q E hr h Z hZ=>?_)
 ·rintro _ _ _ _ ⟨p,n,S,rfl,_⟩
  rfl
 ·obtain⟨p,n,S,rfl,hpen,hn,k⟩:=h
  refine hZ ⟨_,((AG (Af (i:=1) Dk.nd rfl (Or.inl rfl) (AV Ai (Ae (AB AD (AB AD (AB AD (AB AD (AB AD (AB AD (AB AD (AB AD AC))))))))) (AR T.d8 (AN T) (BO hr) (AA (AK 0) (AB AD AC))) (fun _ _=>rfl)))
   (AG (Af (i:=2) Dk.nd rfl (Or.inl rfl) (AV Ai (Ae (AB AD (AB AD (AB AD (AB AD (AB AD (AB AD (AB AD (AB AD AC))))))))) (AR T.d8 (AN T) (BO hr) (AA (AK 0) (AB AD AC))) (fun _ _=>rfl)))
   (AH (AM (AL (AA (AK 1) (AA (AK 2) (Ef (Ao Aq (AR T.d8 (AN T) (BO hr) (AA (AK 0) (AB AD AC))) AD (AS _)) (Ef (Ao Aq (AR T.d8 (AN T) (BO hr) (AA (AK 0) (AB AD AC))) AD (AS _)) AC)))))))))),?_⟩
  try dsimp only[BB,Au]
  refine⟨(by show 8≤sizeLine;decide),fun q1 h1=>⟨_,rfl,p,_,_,_,rfl,(by show(0:Int)<_;decide),Ag (by decide) (by decide),(hpen.same (AF.new h1)),(by omega),fun r1 H1 a1 b1 pen1 kp1=>?_⟩⟩
  obtain⟨i,ei,i0,i9⟩:=GJ (L:=[.int 1,.int 2,.int 3,.int 4,.int 16,.int 15,.int 2,.int 1]) (lo:=1) (hi:=16) (by nofun) a1 b1
  refine⟨q1,_,_,_,rfl,rfl,As.of (kp1 _ _ (hpen.ne h1) AE),ei,?_⟩
  refine⟨(by show 8≤sizeLine;decide),fun q2 h2=>⟨_,rfl,p,_,_,_,rfl,(by show(0:Int)<_;decide),Ag (by decide) (by decide),(pen1.same (AF.new h2)),(by omega),fun r2 H2 a2 b2 pen2 kp2=>?_⟩⟩
  obtain⟨j,ej,j0,j9⟩:=GJ (L:=[.int 1,.int 2,.int 3,.int 4,.int 8,.int 7,.int 2,.int 1]) (lo:=1) (hi:=8) (by nofun) a2 b2
  refine⟨q2,_,_,_,rfl,rfl,As.of (kp2 _ _ (pen1.ne h2) AE),ej,?_⟩
  refine⟨_,rfl,_,rfl,_,rfl,p,_,_,_,rfl,(by show(0:Int)<_;decide),Ag (by decide) (by decide),pen2,(by omega),fun r3 H3 a3 b3 pen3 kp3=>⟨rfl,_,rfl,p,_,_,_,rfl,(by show(0:Int)<_;decide),Ag (by decide) (by decide),pen3,(by omega),fun r4 H4 a4 b4 pen4 kp4=>⟨rfl,(by show 4≤sizeLine;decide),fun q hq=>?_⟩⟩⟩
  exact k q ⟨i,j,decide (V.int r3=V.int 1),decide (V.int r4=V.int 1)⟩ _ AE ⟨i0,i9,j0,j9⟩ (pen4.same (AF.new hq)) ((AF.keep (AF.new h1)).trans (kp1.trans ((AF.keep (AF.new h2)).trans (kp2.trans (kp3.trans (kp4.trans (AF.keep (AF.new hq))))))))
theorem GW:AZ ["_law_pen_here","_law_sheets_here","_law_told_on"] ["_law_pen_here","_law_sheets_here","_law_told_on"] (AO CY):=BC
theorem Fy (T:Txt w K mg t):A1 P w K mg base Bo 2 t.cx t.cy ["_law_pen_here","_law_sheets_here","_law_told_on"] (WT K):=by
 have D:=T.fi
 refine D.fn.okX GW ?_ (fun cdv A outer s H vs Q E hr h Z hZ=>?_)
 ·rintro _ _ _ _ ⟨p,sl,zs,n,S,tn,rfl,_⟩
  rfl
 ·obtain⟨p,sl,zs,n,S,tn,rfl,hpen,hn,hsl,ok,k⟩:=h
  refine hZ ⟨_,((AG (Ah (MO (A5 (A4 (AK 2))) (Jx (AX Aq (AR T.d8 (AN T) (BO hr) (AA (AK 0) (AB AD AC))) AD (AS _)))).pt (AH (AM CL)) AT)
   (AH (AM (AV Ai (An A7 (E7 F5 (by rfl) T.f6 FD (AA (AK 1) AC)) (Ae (AB AI AC))) (An F1 (AR T.d8 (AN T) (BO hr) (AA (AK 0) (BG (An Bv (An F6 AD (AW Aj (by rfl) T.fz PySem.boot_len (AA (AK 1) AC))) AD) AC))) AD) (fun _ _=>rfl)))))),?_⟩
  try dsimp only[BB,Au]
  have nsl:=GI hpen hsl ok
  obtain⟨l1,l4,_,nm⟩:=ok
  have hl:(zs.map V.str).length=zs.length:=List.length_map ..
  refine Hl (fun σ' H'=>σ'=[some (.ref p),some (.ref sl),some (.bl tn)]∧BD K S H' p (n+1)∧KeepX p H H') (fun N hN=>?_) (fun σ' H1 hJ=>?_)
  ·cases tn with
   | true=>exact⟨_,rfl,true,rfl,AY (AY (hN _ _ ⟨rfl,hpen.mono (by omega),KeepX.refl _ _⟩))⟩
   | false=>
    refine⟨_,rfl,false,rfl,AU ⟨_,rfl,p,_,_,_,rfl,(by show(0:Int)<_;decide),Ag (by decide) (by decide),hpen,(by omega),fun r1 H1 a1 b1 pen1 kp1=>⟨rfl,_,rfl,Bn (fun _=>?_) (fun _=>?_)⟩⟩⟩
    ·exact k none H1 ⟨trivial,fun z=>by cases z⟩ (pen1.mono (by omega)) kp1
    ·exact hN _ _ ⟨rfl,pen1,kp1⟩
  obtain⟨rfl,pen1,kp1⟩:=hJ
  have hs1:=kp1 _ _ nsl hsl
  refine⟨_,rfl,sl,_,rfl,.inl (As.of hs1),fun d hd=>?_⟩
  have s2:=AF.new (o:=.lst (zs.map V.str)) hd
  refine⟨Fh,fun e he=>⟨d,e,_,_,rfl,rfl,AF.new he _ _ AE,AE,(by rw[hl];show _+1≤_;exact BJ (by omega)),fun q hq=>?_⟩⟩
  have s3:=(s2.trans (AF.new (o:=.lst [vS "lost"]) he)).trans (AF.new (o:=.lst (zs.map V.str++[vS "lost"])) hq)
  have pen2:=pen1.same s3
  have o2:upd (upd (upd H1 d (.lst (zs.map V.str))) e (.lst [vS "lost"])) q (.lst (zs.map V.str++[vS "lost"])) q=some (.lst (zs.map V.str++[vS "lost"])):=AE
  have nq:q≠p:=fun z=>by
   obtain⟨vs,ez⟩:=pen1.ob
   have:=AF.back0 (s2.trans (AF.new (o:=.lst [vS "lost"]) he)) hq
   rw[z,ez]at this;cases this
  generalize upd (upd (upd H1 d (.lst (zs.map V.str))) e (.lst [vS "lost"])) q (.lst (zs.map V.str++[vS "lost"]))=H2 at *
  have hs2:=s3 _ _ hs1
  refine⟨_,rfl,_,rfl,sl,_,rfl,.inl (As.of hs2),_,_,rfl,rfl,⟨Ag (by decide) (by decide),Ag (by omega) (by omega)⟩,_,_,rfl,rfl,?_⟩
  rw[hl]
  refine⟨p,_,_,_,rfl,(by omega),Ag (by omega) (by omega),pen2,(by omega),fun r3 H3 a3 b3 pen3 kp3=>⟨_,_,rfl,rfl,⟨by decide,by decide⟩,?_⟩⟩
  obtain⟨z,ez,nz⟩:=Ur (r:=r3 / 3) nm (by omega) (by omega)
  exact⟨q,_,_,_,rfl,rfl,As.of (kp3 _ _ nq o2),ez,k (some z) H3 ⟨nz,fun _ e=>by cases e⟩ (pen3.mono (by omega)) (kp1.trans ((AF.keep s3).trans kp3))⟩
theorem B2:AZ ["_law_pen_here","_law_sheets_here","_law_told_on","_law_way","_law_sheet","_law_one","_law_high","_law_wide"] ["_law_pen_here","_law_sheets_here","_law_told_on"] (AO EQ):=BC
theorem JQ (T:Txt w K mg t):A1 P w K mg base Bo 3 t.cz t.c0 ["_law_pen_here","_law_sheets_here","_law_told_on"] (WU K):=by
 have D:=T.fj
 refine D.fn.okX B2 ?_ (fun cdv A outer s H vs Q E hr h Z hZ=>?_)
 ·rintro _ _ _ _ ⟨p,sl,zs,n,S,tn,rfl,_⟩
  rfl
 ·obtain⟨p,sl,zs,n,S,tn,rfl,hpen,hn,hsl,ok,k⟩:=h
  refine hZ ⟨_,((AG (Af (i:=3) B2.nd rfl (Or.inl rfl) (AR T.d8 (AN T) (BO hr) (AA (AK 0) (AB AD AC))))
   (AG (Af (i:=4) B2.nd rfl (Or.inl rfl) (AR T.fi (Fy T) (BO hr) (AA (AK 0) (AA (AK 1) (AA (AK 2) AC)))))
   (AG (Af (i:=5) B2.nd rfl (Or.inl rfl) (AR T.fh (Iy T) (BO hr) (AA (AK 0) AC)))
   (AG (Ah (AX EV (AK 3) AD (AS _)) (AH (AM (AL (AB AI (AA (AK 4) (AA (AK 5) AC)))))) AT)
   (AG (Af (i:=6) B2.nd rfl (Or.inl rfl) (AW (Gb rfl) (by rfl) T.f9 IO (AB AD (BG (An Bv (AV Ac (AK 5) AD (fun _ _=>rfl)) (AR T.d8 (AN T) (BO hr) (AA (AK 0) (AB AD AC)))) AC))))
   (AG (Af (i:=7) B2.nd rfl (Or.inl rfl) (AW (Gb rfl) (by rfl) T.f9 IO (AB AD (BG (An Bv (AV Ac (AK 5) AD (fun _ _=>rfl)) (AR T.d8 (AN T) (BO hr) (AA (AK 0) (AB AD AC)))) AC))))
   (AG (Ah (AX EV (AK 3) AD (AS _)) (AH (AM (AL (AB AI (AA (AK 4) (AA (AK 5) (AJ (AL (AA (AK 6) (AA (AK 7) (Ef (Ao Aq (AR T.d8 (AN T) (BO hr) (AA (AK 0) (AB AD AC))) AD (AS _)) (Ef (Ao Aq (AR T.d8 (AN T) (BO hr) (AA (AK 0) (AB AD AC))) AD (AS _)) AC))))) AC))))))) AT)
   (AH (AM (AL (AB AI (AA (AK 4) (AJ (AL (AQ (AV Ac (AK 5) AD (fun _ _=>rfl)) (AQ (AV Ac (AK 5) AD (fun _ _=>rfl)) AC))) (AJ (AL (AA (AK 7) (AQ (AV Ac (AK 5) AD (fun _ _=>rfl)) AC))) AC))))))))))))))),?_⟩
  try dsimp only[BB,Au]
  have nsl:=GI hpen hsl ok
  refine⟨_,rfl,p,_,_,_,rfl,(by show(0:Int)<_;decide),Ag (by decide) (by decide),hpen,(by omega),fun r1 H1 a1 b1 pen1 kp1=>?_⟩
  refine⟨_,rfl,_,rfl,_,rfl,p,sl,zs,_,S,tn,rfl,pen1,(by omega),kp1 _ _ nsl hsl,ok,fun s H2 sok2 pen2 kp2=>?_⟩
  obtain⟨sok,stn⟩:=sok2
  have tcell:tn=true→∀ c,DB (.lf (.cell s c))=true:=fun z c=>by cases s with | none=>exact absurd rfl (stn z) | some x=>simp[DB]
  have trng:tn=true→∀ c d,DB (.lf (.rng s c d))=true:=fun z c d=>by cases s with | none=>exact absurd rfl (stn z) | some x=>simp[DB]
  have tcol:tn=true→∀ i x j y,DB (.lf (.cols s i x j y))=true:=fun z i x j y=>by cases s with | none=>exact absurd rfl (stn z) | some x=>simp[DB]
  refine⟨_,rfl,p,_,S,rfl,pen2,(by omega),fun q c H3 hq cok pen3 kp3=>?_⟩
  obtain⟨c1,c2,c3,c4⟩:=cok
  have kp03:=kp1.trans (kp2.trans kp3)
  refine⟨_,rfl,_,_,rfl,rfl,_,rfl,Bn (fun _=>?_) (fun _=>?_)⟩
  ·refine⟨_,rfl,_,rfl,BE,fun a ha=>?_⟩
   exact k a (.cell s c) _ ⟨q,AE,AF.new ha _ _ hq⟩ ⟨⟨sok,c1,c2,c3,c4⟩,fun z=>tcell z c⟩ ((pen3.same (AF.new ha)).mono (by omega)) (kp03.trans (AF.keep (AF.new ha)))
  obtain⟨vs3,ob3⟩:=pen3.ob
  have nq:q≠p:=CJ hq ob3 (by intro z;cases z)
  refine⟨_,rfl,q,_,_,_,rfl,rfl,A0.of hq,A2,_,rfl,p,_,_,_,rfl,(by show(0:Int)<_;decide),Ag (by decide) (by decide),pen3,(by omega),fun r4 H4 a4 b4 pen4 kp4=>⟨_,_,rfl,rfl,_,_,rfl,?_⟩⟩
  have hq4:=kp4 _ _ nq hq
  have hh:c.r≤(if c.r+r4<16 then c.r+r4 else(16:Int))∧(if c.r+r4<16 then c.r+r4 else(16:Int))≤16:=by split <;> omega
  generalize (if c.r+r4<16 then c.r+r4 else(16:Int))=hi at hh
  refine⟨_,rfl,q,_,_,_,rfl,rfl,A0.of hq4,Bz,_,rfl,p,_,_,_,rfl,(by show(0:Int)<_;decide),Ag (by decide) (by decide),pen4,(by omega),fun r5 H5 a5 b5 pen5 kp5=>⟨_,_,rfl,rfl,_,_,rfl,?_⟩⟩
  have hq5:=kp5 _ _ nq hq4
  have hw:c.c≤(if c.c+r5<8 then c.c+r5 else(8:Int))∧(if c.c+r5<8 then c.c+r5 else(8:Int))≤8:=by split <;> omega
  generalize (if c.c+r5<8 then c.c+r5 else(8:Int))=wi at hw
  have kp05:=kp03.trans (kp4.trans kp5)
  refine⟨_,rfl,_,_,rfl,rfl,_,rfl,Bn (fun _=>?_) (fun _=>?_)⟩
  ·refine⟨_,rfl,_,rfl,_,rfl,_,rfl,_,rfl,p,_,_,_,rfl,(by show(0:Int)<_;decide),Ag (by decide) (by decide),pen5,(by omega),fun r6 H6 a6 b6 pen6 kp6=>⟨rfl,_,rfl,p,_,_,_,rfl,(by show(0:Int)<_;decide),Ag (by decide) (by decide),pen6,(by omega),fun r7 H7 a7 b7 pen7 kp7=>⟨rfl,(by show 4≤sizeLine;decide),fun q2 h2=>⟨(by show 4≤sizeLine;decide),fun a ha=>?_⟩⟩⟩⟩
   have hq7:=kp7 _ _ nq (kp6 _ _ nq hq5)
   have s8:=AF.new (o:=.tup [.int hi,.int wi,.bl (decide (V.int r6=V.int 1)),.bl (decide (V.int r7=V.int 1))]) h2
   have s9:=AF.new (o:=.tup [vS "range",R3 s,.ref q,.ref q2]) ha
   exact k a (.rng s c ⟨hi,wi,decide (V.int r6=V.int 1),decide (V.int r7=V.int 1)⟩) _ ⟨q,q2,AE,s9 _ _ (s8 _ _ hq7),s9 _ _ AE⟩ ⟨⟨sok,⟨c1,c2,c3,c4⟩,⟨by show 1≤hi;omega,hh.2,by show 1≤wi;omega,hw.2⟩,hh.1,hw.1⟩,fun z=>trng z c _⟩ (((pen7.same s8).same s9).mono (by omega)) (kp05.trans (kp6.trans (kp7.trans ((AF.keep s8).trans (AF.keep s9)))))
  ·refine⟨_,rfl,_,rfl,q,_,_,_,rfl,rfl,A0.of hq5,Bz,_,rfl,q,_,_,_,rfl,rfl,A0.of hq5,B7,BH,fun q2 h2=>?_⟩
   have s8:=AF.new (o:=.tup [.int c.c,.bl c.x]) h2
   refine⟨_,rfl,_,rfl,q,_,_,_,rfl,rfl,A0.of (s8 _ _ hq5),IR,BH,fun q3 h3=>⟨(by show 4≤sizeLine;decide),fun a ha=>?_⟩⟩
   have s9:=AF.new (o:=.tup [.int wi,.bl c.y]) h3
   have s10:=AF.new (o:=.tup [vS "columns",R3 s,.ref q2,.ref q3]) ha
   exact k a (.cols s c.c c.x wi c.y) _ ⟨q2,q3,AE,s10 _ _ (s9 _ _ AE),s10 _ _ AE⟩ ⟨⟨sok,c3,hw.1,hw.2⟩,fun z=>tcol z _ _ _ _⟩ ((((pen5.same s8).same s9).same s10).mono (by omega)) (kp05.trans ((AF.keep s8).trans ((AF.keep s9).trans (AF.keep s10))))
theorem HE:AZ ["_law_pen_here","_law_sheets_here","_law_told_on","_law_params","_law_way"] ["_law_pen_here","_law_sheets_here","_law_told_on","_law_params"] (AO Ez):=BC
theorem ET (T:Txt w K mg t):A1 P w K mg base Bo 4 t.c1 t.c2 ["_law_pen_here","_law_sheets_here","_law_told_on","_law_params"] (WV K):=by
 have D:=T.fk
 refine D.fn.okX HE ?_ (fun cdv A outer s H vs Q E hr h Z hZ=>?_)
 ·rintro _ _ _ _ ⟨p,sl,zs,n,S,tn,pr,rfl,_⟩
  rfl
 ·obtain⟨p,sl,zs,n,S,tn,pr,rfl,hp3,hpen,hn,hsl,ok,k⟩:=h
  refine hZ ⟨_,((AG (Af (i:=4) HE.nd rfl (Or.inl rfl) (AR T.d8 (AN T) (BO hr) (AA (AK 0) (AB AD AC))))
   (AG (Ah (AX EV (AK 4) AD (AS _)) (AH (AM (AL (AB AI (BP (AR T.fg (Fa T) (BO hr) (AA (AK 0) AC)) AC))))) AT)
   (AG (Ah (MO (AX Aq (AK 4) AD (AS _)) (Jx (AX Hu (AK 3) AD (AS _)))).pt (AH (AM (AL (AB AI (BP (AR T.d8 (AN T) (BO hr) (AA (AK 0) (AA (AK 3) AC))) AC))))) AT)
   (AG (Ah (AX Aq (AK 4) AD (AS _)) (AH (AM (AV Ai (Ae (AJ (AL (AB AI AC)) (AJ (AL (AB AI (AB AI AC))) (AJ (AL (AB AI (AB AI AC))) (AJ (AL (AB AI (AB AI AC))) AC))))) (AR T.d8 (AN T) (BO hr) (AA (AK 0) (AB AD AC))) (fun _ _=>rfl)))) AT)
   (AH (AM (AR T.fj (JQ T) (BO hr) (AA (AK 0) (AA (AK 1) (AA (AK 2) AC))))))))))),?_⟩
  try dsimp only[BB,Au]
  have nsl:=GI hpen hsl ok
  refine⟨_,rfl,p,_,_,_,rfl,(by show(0:Int)<_;decide),Ag (by decide) (by decide),hpen,(by omega),fun r1 H1 a1 b1 pen1 kp1=>?_⟩
  refine⟨_,rfl,_,_,rfl,rfl,_,rfl,Bn (fun _=>?_) (fun _=>?_)⟩
  ·refine⟨_,rfl,p,_,S,rfl,pen1,(by omega),fun q v H2 hq vok vw pen2 kp2=>⟨BH,fun a ha=>?_⟩⟩
   exact k a (.val v) _ ⟨q,AE,Ff.same hq (AF.new ha)⟩ ⟨⟨vok,vw⟩,fun _=>by simp[DB]⟩ ((pen2.same (AF.new ha)).mono (by omega)) (kp1.trans (kp2.trans (AF.keep (AF.new ha))))
  refine Hl (fun σ' H'=>σ'=[some (.ref p),some (.ref sl),some (.bl tn),some (.int pr),some (.int r1)]∧H'=H1) (fun N hN=>hN [some (.ref p),some (.ref sl),some (.bl tn),some (.int pr),some (.int r1)] H1 ⟨rfl,rfl⟩) (fun σ' H'0 hJ=>?_)
  obtain⟨rfl,rfl⟩:=hJ
  refine Hl (fun σ' H'=>σ'=[some (.ref p),some (.ref sl),some (.bl tn),some (.int pr),some (.int r1)]∧H'=H'0) (fun N hN=>?_) (fun σ' H' hJ=>?_)
  ·refine⟨_,rfl,rfl,_,rfl,Bn (fun _=>?_) (fun _=>AY (hN _ _ ⟨rfl,rfl⟩))⟩
   refine⟨_,rfl,_,_,rfl,rfl,_,rfl,?_⟩
   by_cases h0:0<pr
   ·rw[decide_eq_true (by omega)]
    refine AU ⟨_,rfl,_,rfl,p,_,_,_,rfl,(by omega),Ag (by omega) (by omega),pen1,(by omega),fun r2 H2 a2 b2 pen2 kp2=>⟨BH,fun a ha=>?_⟩⟩
    exact k a (.par r2) _ AE ⟨⟨a2,b2⟩,fun _=>by simp[DB]⟩ ((pen2.same (AF.new ha)).mono (by omega)) (kp1.trans (kp2.trans (AF.keep (AF.new ha))))
   ·rw[decide_eq_false (by omega)]
    exact AY (hN _ _ ⟨rfl,rfl⟩)
  obtain⟨rfl,rfl⟩:=hJ
  refine⟨_,rfl,rfl,_,rfl,Bn (fun _=>?_) (fun _=>?_)⟩
  ·refine⟨Fh,fun q1 h1=>⟨BH,fun q2 h2=>⟨BH,fun q3 h3=>⟨BH,fun q4 h4=>⟨(by show 4≤sizeLine;decide),fun q5 h5=>?_⟩⟩⟩⟩⟩
   have s1:=AF.new (o:=.tup [vS "gone"]) h1
   have o1:upd H' q1 (.tup [vS "gone"]) q1=some (.tup [vS "gone"]):=AE
   generalize upd H' q1 (.tup [vS "gone"])=G1 at *
   have s2:=AF.new (o:=.tup [vS "name",vS "n"]) h2
   have o2:upd G1 q2 (.tup [vS "name",vS "n"]) q2=some (.tup [vS "name",vS "n"]):=AE
   generalize upd G1 q2 (.tup [vS "name",vS "n"])=G2 at *
   have s3:=AF.new (o:=.tup [vS "name",vS "m"]) h3
   have o3:upd G2 q3 (.tup [vS "name",vS "m"]) q3=some (.tup [vS "name",vS "m"]):=AE
   generalize upd G2 q3 (.tup [vS "name",vS "m"])=G3 at *
   have s4:=AF.new (o:=.tup [vS "name",vS "k"]) h4
   have o4:upd G3 q4 (.tup [vS "name",vS "k"]) q4=some (.tup [vS "name",vS "k"]):=AE
   generalize upd G3 q4 (.tup [vS "name",vS "k"])=G4 at *
   have s5:=AF.new (o:=.lst [.ref q1,.ref q2,.ref q3,.ref q4]) h5
   have o5:upd G4 q5 (.lst [.ref q1,.ref q2,.ref q3,.ref q4]) q5=some (.lst [.ref q1,.ref q2,.ref q3,.ref q4]):=AE
   generalize upd G4 q5 (.lst [.ref q1,.ref q2,.ref q3,.ref q4])=G5 at *
   have s15:=((((s1.trans s2).trans s3).trans s4).trans s5)
   have pen5:=pen1.same s15
   have n5:q5≠p:=fun z=>by
    obtain⟨vs,ez⟩:=pen1.ob
    have:=AF.back0 (((s1.trans s2).trans s3).trans s4) h5
    rw[z,ez]at this;cases this
   refine⟨_,rfl,p,_,_,_,rfl,(by show(0:Int)<_;decide),Ag (by decide) (by decide),pen5,(by omega),fun r6 H6 a6 b6 pen6 kp6=>?_⟩
   have q6:Kp G5 H6:=pen5.kp kp6
   obtain⟨a,l,ea,hl,lok⟩:∃ a l,Hb [V.ref q1,.ref q2,.ref q3,.ref q4] r6=some (.ref a)∧Fg H6 a l∧LD pr tn l:=by
    have:r6=0∨r6=1∨r6=2∨r6=3:=by omega
    rcases this with rfl | rfl | rfl | rfl
    ·exact⟨q1,.gone,rfl,q6 _ _ (s5 _ _ (s4 _ _ (s3 _ _ (s2 _ _ o1)))),trivial,fun _=>by simp[DB]⟩
    ·exact⟨q2,.nam (zS "n"),rfl,q6 _ _ (s5 _ _ (s4 _ _ (s3 _ _ o2))),⟨B9 (by nofun),by nofun⟩,fun _=>by simp[DB]⟩
    ·exact⟨q3,.nam (zS "m"),rfl,q6 _ _ (s5 _ _ (s4 _ _ o3)),⟨B9 (by nofun),by nofun⟩,fun _=>by simp[DB]⟩
    ·exact⟨q4,.nam (zS "k"),rfl,q6 _ _ (s5 _ _ o4),⟨B9 (by nofun),by nofun⟩,fun _=>by simp[DB]⟩
   exact⟨q5,_,_,_,rfl,rfl,As.of (kp6 _ _ n5 o5),ea,k a l H6 hl lok (pen6.mono (by omega)) (kp1.trans ((AF.keep s15).trans kp6))⟩
  refine⟨_,rfl,_,rfl,_,rfl,p,sl,zs,_,S,tn,rfl,pen1,(by omega),kp1 _ _ nsl hsl,ok,fun a l H2 hl lok pen2 kp2=>k a l H2 hl (lok.up (Nat.zero_le _)) (pen2.mono (by omega)) (kp1.trans kp2)⟩
theorem MK:AZ ["_law_pen_here","_law_sheets_here","_law_told_on","_law_params","_law_deep"] ["_law_pen_here","_law_sheets_here","_law_told_on","_law_params","_law_deep"] (AO E1):=BC
theorem Kh (T:Txt w K mg t){n k:Nat}(F:A1 P w K mg base Bo k t.c5 t.c6 ["_law_pen_here","_law_sheets_here","_law_told_on","_law_params","_law_deep"] (TH K n))(hk:4≤k):A1 P w K mg base Bo (k+1) t.c3 t.c4 ["_law_pen_here","_law_sheets_here","_law_told_on","_law_params","_law_deep"] (WW K n):=by
 have D:=T.fl
 refine D.fn.okX MK ?_ (fun cdv A outer s H vs Q E hr h Z hZ=>?_)
 ·rintro _ _ _ _ ⟨p,sl,zs,c,S,tn,pr,rfl,_⟩
  rfl
 ·obtain⟨p,sl,zs,c,S,tn,pr,rfl,hp3,hpen,hn,hsl,ok,kk⟩:=h
  refine hZ ⟨_,((AG (Ah (AX Aq (AK 4) AD (AS _)) (AH (AM (AR T.fk (ET T) (hr.mono (by omega)) (AA (AK 0) (AA (AK 1) (AA (AK 2) (AA (AK 3) AC))))))) AT)
   (AH (AM (AR T.fm F (hr.mono (by omega)) (AA (AK 0) (AA (AK 1) (AA (AK 2) (AA (AK 3) (AA (AK 4) AC)))))))))),?_⟩
  try dsimp only[BB,Au]
  cases n with
  | zero=>
   refine⟨_,rfl,rfl,true,rfl,AU ?_⟩
   have:uB 0=14:=rfl
   exact⟨_,rfl,_,rfl,_,rfl,_,rfl,p,sl,zs,c,S,tn,pr,rfl,hp3,hpen,(by omega),hsl,ok,fun a l H' hl lok pen' kp'=>kk (.ref a) (.lf l) H' (.lf hl) (.lf lok) (by rw[U8];exact Nat.le_refl _) pen' kp'⟩
  | succ n=>
   refine⟨_,rfl,rfl,false,congrArg V.bl (decide_eq_false fun e=>by injection e with e;omega),AY ?_⟩
   exact⟨_,rfl,_,rfl,_,rfl,_,rfl,_,rfl,p,sl,zs,c,S,tn,pr,rfl,hp3,Nat.succ_le_succ (Nat.zero_le _),hpen,hn,hsl,ok,kk⟩
theorem Bm:AZ ["_law_pen_here","_law_sheets_here","_law_told_on","_law_params","_law_deep","_law_way","_law_a","_law_b","_law_c"] ["_law_pen_here","_law_sheets_here","_law_told_on","_law_params","_law_deep"] (AO DJ):=BC
theorem Cs (T:Txt w K mg t):∀ n:Nat,A1 P w K mg base Bo (2*n+5) t.c5 t.c6 ["_law_pen_here","_law_sheets_here","_law_told_on","_law_params","_law_deep"] (TH K n):=by
 have D:=T.fm
 intro m
 induction m with
 | zero=>
  refine D.fn.okX Bm ?_ (fun cdv A outer s H vs Q E hr h Z hZ=>?_)
  ·rintro _ _ _ _ ⟨p,sl,zs,c,S,tn,pr,rfl,_⟩
   rfl
  ·obtain⟨p,sl,zs,c,S,tn,pr,rfl,hp3,h1,_⟩:=h
   exact absurd h1 (by decide)
 | succ m ih=>
  have M:=Kh T ih (by omega)
  refine D.fn.okX Bm ?_ (fun cdv A outer s H vs Q E hr h Z hZ=>?_)
  ·rintro _ _ _ _ ⟨p,sl,zs,c,S,tn,pr,rfl,_⟩
   rfl
  ·obtain⟨p,sl,zs,c,S,tn,pr,rfl,hp3,h1,hpen,hn,hsl,ok,k⟩:=h
   refine hZ ⟨_,((AG (Af (i:=5) Bm.nd rfl (Or.inl rfl) (AR T.d8 (AN T) (hr.mono (by omega)) (AA (AK 0) (AB AD AC))))
   (AG (Ah (AX EV (AK 5) AD (AS _)) (AH (AM (AR T.fk (ET T) (hr.mono (by omega)) (AA (AK 0) (AA (AK 1) (AA (AK 2) (AA (AK 3) AC))))))) AT)
   (AG (Af (i:=6) Bm.nd rfl (Or.inl rfl) (AR T.fl M (hr.mono (by omega)) (AA (AK 0) (AA (AK 1) (AA (AK 2) (AA (AK 3) (BG (An MS (AK 4) AD) AC)))))))
   (AG (Ah (AX Aq (AK 5) AD (AS _)) (AH (AM (AL (AB AI (AA (AK 6) AC))))) AT)
   (AG (Ah (AX EV (AK 5) AD (AS _)) (AH (AM (AL (AQ (AV Ai (Ae (AB AI (AB AI (AB AI (AB AI AC))))) (AR T.d8 (AN T) (hr.mono (by omega)) (AA (AK 0) (AB AD AC))) (fun _ _=>rfl)) (AA (AK 6) AC))))) AT)
   (AG (Ah (AX EV (AK 5) AD (AS _)) (AH (AM (AL (AQ (AV Ai (Ae (AB AI (AB AI AC))) (An Cl (AK 5) AD) (fun _ _=>rfl)) (AA (AK 6) AC))))) AT)
   (AG (Ah (AX Aq (AK 5) AD (AS _)) (AH (AM (AL (AB AI (AQ (AV Ai (Ae (AB AI (AB AI (AB AI AC)))) (AR T.d8 (AN T) (hr.mono (by omega)) (AA (AK 0) (AB AD AC))) (fun _ _=>rfl)) (AQ (AV Ai (Ae (AJ (AL AC) (AJ (AL (AA (AK 6) AC)) AC))) (AR T.d8 (AN T) (hr.mono (by omega)) (AA (AK 0) (AB AD AC))) (fun _ _=>rfl)) AC)))))) AT)
   (AG (Af (i:=7) Bm.nd rfl (Or.inl rfl) (AR T.fl M (hr.mono (by omega)) (AA (AK 0) (AA (AK 1) (AA (AK 2) (AA (AK 3) (BG (An MS (AK 4) AD) AC)))))))
   (AG (Ah (AX EV (AK 5) AD (AS _)) (AH (AM (AL (AB AI (AQ (AV J4 AI (AR T.d8 (AN T) (hr.mono (by omega)) (AA (AK 0) (AB AD AC))) (fun _ _=>rfl)) (AA (AK 6) (AA (AK 7) AC))))))) AT)
   (AG (Ah (AX EV (AK 5) AD (AS _)) (AH (AM (AL (AB AI (AA (AK 6) (AA (AK 7) AC)))))) AT)
   (AG (Ah (AX EV (AK 5) AD (AS _)) (AH (AM (AL (AB AI (BG (An Bv AD (AR T.d8 (AN T) (hr.mono (by omega)) (AA (AK 0) (AB AD AC)))) (BG (An Bv AD (AR T.d8 (AN T) (hr.mono (by omega)) (AA (AK 0) (AB AD AC)))) (AA (AK 6) (AA (AK 7) AC)))))))) AT)
   (AG (Ah (AX Aq (AK 5) AD (AS _)) (AH (AM (AL (AB AI (AQ (AV Ai (Ae (AB AI (AB AI (AB AI AC)))) (AR T.d8 (AN T) (hr.mono (by omega)) (AA (AK 0) (AB AD AC))) (fun _ _=>rfl)) (AJ (AL (AA (AK 6) (AA (AK 7) AC))) AC)))))) AT)
   (AG (Af (i:=8) Bm.nd rfl (Or.inl rfl) (AR T.fk (ET T) (hr.mono (by omega)) (AA (AK 0) (AA (AK 1) (AA (AK 2) (AA (AK 3) AC))))))
   (AG (Ah (AX Aq (AK 5) AD (AS _)) (AH (AM (AL (AB AI (AQ (AV Ai (Ae (AB AI (AB AI (AB AI AC)))) (AR T.d8 (AN T) (hr.mono (by omega)) (AA (AK 0) (AB AD AC))) (fun _ _=>rfl)) (AJ (AL (AA (AK 6) (AA (AK 7) (AA (AK 8) AC)))) AC)))))) AT)
   (AG (Ah (AX Aq (AK 5) AD (AS _)) (AH (AM (AL (AB AI (AA (AK 6) (AA (AK 7) (AA (AK 8) AC))))))) AT)
   (AG (Ah (AX Aq (AK 5) AD (AS _)) (AH (AM (AL (AB AI (AA (AK 6) (AQ (AV J4 AI (AR T.d8 (AN T) (hr.mono (by omega)) (AA (AK 0) (AB AD AC))) (fun _ _=>rfl)) (AA (AK 7) (AA (AK 8) AC)))))))) AT)
   (AH (AM (AL (AB AI (AA (AK 6) (AA (AK 7) (AA (AK 8) AC)))))))))))))))))))))))),?_⟩
   try dsimp only[BB,Au]
   have nsl:=GI hpen hsl ok
   have eu:uB (m+1)=2*uB m+20:=rfl
   have es:sB (m+1)=2*sB m+2:=rfl
   have lo:=Wa m
   refine⟨_,rfl,p,_,_,_,rfl,(by show(0:Int)<_;decide),Ag (by decide) (by decide),hpen,(by omega),fun r1 H1 a1 b1 pen1 kp1=>?_⟩
   refine⟨_,rfl,_,_,rfl,rfl,_,rfl,Bn (fun _=>?_) (fun w3=>?_)⟩
   ·exact⟨_,rfl,_,rfl,_,rfl,_,rfl,p,sl,zs,_,S,tn,pr,rfl,hp3,pen1,(by omega),kp1 _ _ nsl hsl,ok,fun a l H2 hl lok pen2 kp2=>k (.ref a) (.lf l) H2 (.lf hl) (.lf lok) (by rw[U8];omega) (pen2.mono (by omega)) (kp1.trans kp2)⟩
   have w3:¬ r1<3:=fun z=>w3 (decide_eq_true z)
   refine⟨_,rfl,_,rfl,_,rfl,_,rfl,_,rfl,_,_,rfl,rfl,p,sl,zs,_,S,tn,pr,(congrArg (fun i=>[V.ref p,.ref sl,.bl tn,.int pr,.int i]) (by omega)),hp3,pen1,(by omega),kp1 _ _ nsl hsl,ok,fun a fa H2 fa' oa za pena kpa=>?_⟩
   have hs2:=kpa _ _ nsl (kp1 _ _ nsl hsl)
   have k2:=kp1.trans kpa
   refine⟨_,rfl,rfl,_,rfl,Bn (fun _=>?_) (fun w4=>?_)⟩
   ·refine⟨_,rfl,BH,fun q hq=>?_⟩
    obtain⟨x,y⟩:=Du (a:=q) (t:=q) (k:=.neg) (n:=m+1) (ps:=[fa]) (us:=[a]) (show upd H2 q _ q=_ from AE) (fun z=>by cases z) (.cons (fa'.kp (Kp.new0 hq)) .nil) rfl (W4 oa)
    exact k _ _ _ x y (by rw[RB];omega) ((pena.same (AF.new hq)).mono (by omega)) (k2.trans (AF.keep (AF.new hq)))
   refine⟨_,rfl,_,_,rfl,rfl,_,rfl,Bn (fun _=>?_) (fun w5=>?_)⟩
   ·refine⟨(by show 4≤sizeLine;decide),fun q3 h3=>⟨_,rfl,p,_,_,_,rfl,(by show(0:Int)<_;decide),Ag (by decide) (by decide),(pena.same (AF.new h3)),(by omega),fun r3 H3 a3 b3 pen3 kp3=>?_⟩⟩
    obtain⟨w,ew,pw⟩:=FF (L:=[vS "sum",vS "count",vS "least",vS "most"]) (P:=fun z=>decide ((z,1)∈Kk)) (by nofun) a3 b3
    refine⟨q3,_,_,_,rfl,rfl,As.of (kp3 _ _ (pena.ne h3) AE),ew,_,rfl,BH,fun q hq=>?_⟩
    have q34:=(Kp.same (AF.new (o:=.lst [vS "sum",vS "count",vS "least",vS "most"]) h3)).trans ((pena.same (AF.new h3)).kp kp3)
    obtain⟨x,y⟩:=Du (a:=q) (t:=q) (k:=.wd w) (n:=m+1) (ps:=[fa]) (us:=[a]) (show upd H3 q _ q=_ from AE) (fun z=>by cases z) (.cons ((fa'.kp q34).kp (Kp.new0 hq)) .nil) (show(w,1)∈Kk from of_decide_eq_true pw) (W4 oa)
    exact k _ _ _ x y (by rw[RB];omega) ((pen3.same (AF.new hq)).mono (by omega)) (k2.trans ((AF.keep (AF.new h3)).trans (kp3.trans (AF.keep (AF.new hq)))))
   refine⟨_,rfl,_,_,rfl,rfl,_,rfl,Bn (fun _=>?_) (fun w6=>?_)⟩
   ·refine⟨BH,fun q3 h3=>⟨_,rfl,_,_,rfl,rfl,(by show(0:Int)<2;decide),?_⟩⟩
    obtain⟨w,ew,pw⟩:=FF (L:=[vS "turn",vS "outer"]) (P:=fun z=>decide ((z,1)∈Kk)) (r:=r1%2) (by nofun) (by omega) (by show r1%2<2;omega)
    refine⟨q3,_,_,_,rfl,rfl,As.of AE,ew,_,rfl,BH,fun q hq=>?_⟩
    have q34:=(Kp.same (AF.new (o:=.lst [vS "turn",vS "outer"]) h3))
    obtain⟨x,y⟩:=Du (a:=q) (t:=q) (k:=.wd w) (n:=m+1) (ps:=[fa]) (us:=[a]) (show upd (upd H2 q3 _) q _ q=_ from AE) (fun z=>by cases z) (.cons ((fa'.kp q34).kp (Kp.new0 hq)) .nil) (show(w,1)∈Kk from of_decide_eq_true pw) (W4 oa)
    exact k _ _ _ x y (by rw[RB];omega) (((pena.same (AF.new h3)).same (AF.new hq)).mono (by omega)) (k2.trans ((AF.keep (AF.new h3)).trans (AF.keep (AF.new hq))))
   refine⟨_,rfl,rfl,_,rfl,Bn (fun _=>?_) (fun w7=>?_)⟩
   ·refine⟨BE,fun q3 h3=>⟨_,rfl,p,_,_,_,rfl,(by show(0:Int)<_;decide),Ag (by decide) (by decide),(pena.same (AF.new h3)),(by omega),fun r3 H3 a3 b3 pen3 kp3=>?_⟩⟩
    obtain⟨w,ew,pw⟩:=FF (L:=[vS "f",vS "g",vS "h"]) (P:=Lx) (by nofun) a3 b3
    obtain⟨nw,rw_⟩:=Ih pw
    refine⟨q3,_,_,_,rfl,rfl,As.of (kp3 _ _ (pena.ne h3) AE),ew,?_⟩
    have q34:=(Kp.same (AF.new (o:=.lst [vS "f",vS "g",vS "h"]) h3)).trans ((pena.same (AF.new h3)).kp kp3)
    have fa3:=fa'.kp q34
    have k3:=k2.trans ((AF.keep (AF.new (o:=.lst [vS "f",vS "g",vS "h"]) h3)).trans kp3)
    refine⟨Nat.zero_le _,fun e1 n1=>⟨_,rfl,Fh,fun e2 n2=>⟨BH,fun q5 n5=>?_⟩⟩⟩
    have s1:=AF.new (o:=.tup []) n1
    have o1:upd H3 e1 (.tup []) e1=some (.tup []):=AE
    generalize upd H3 e1 (.tup [])=G1 at *
    have s2:=AF.new (o:=.tup [a]) n2
    have o2:upd G1 e2 (.tup [a]) e2=some (.tup [a]):=AE
    generalize upd G1 e2 (.tup [a])=G2 at *
    have s3:=AF.new (o:=.lst [.ref e1,.ref e2]) n5
    have o3:upd G2 q5 (.lst [.ref e1,.ref e2]) q5=some (.lst [.ref e1,.ref e2]):=AE
    generalize upd G2 q5 (.lst [.ref e1,.ref e2])=G3 at *
    have s13:=(s1.trans s2).trans s3
    have pen4:=pen3.same s13
    have nq5:q5≠p:=fun z=>by
     obtain⟨vs,ez⟩:=pen3.ob
     have:=AF.back0 (s1.trans s2) n5
     rw[z,ez]at this;cases this
    refine⟨_,rfl,p,_,_,_,rfl,(by show(0:Int)<_;decide),Ag (by decide) (by decide),pen4,(by omega),fun r6 H6 a6 b6 pen6 kp6=>?_⟩
    have q6:Kp G3 H6:=pen4.kp kp6
    have k6:=k3.trans ((AF.keep s13).trans kp6)
    have:r6=0∨r6=1:=by omega
    rcases this with rfl | rfl
    ·refine⟨q5,_,_,_,rfl,rfl,As.of (kp6 _ _ nq5 o3),rfl,BE,fun q hq=>?_⟩
     have sq:=AF.new (o:=.tup [vS "own",.str w,.ref e1]) hq
     obtain⟨x,y⟩:=Du (a:=q) (t:=e1) (k:=.own w) (n:=m+1) (ps:=[]) (us:=[]) (show upd H6 q _ q=_ from AE) (fun _=>sq _ _ (q6 _ _ (s3 _ _ (s2 _ _ o1)))) .nil ⟨nw,rw_,by simp⟩ (fun g hg=>by cases hg)
     exact k _ _ _ x y (by rw[Yq];omega) ((pen6.same (AF.new hq)).mono (by omega)) (k6.trans (AF.keep (AF.new hq)))
    ·refine⟨q5,_,_,_,rfl,rfl,As.of (kp6 _ _ nq5 o3),rfl,BE,fun q hq=>?_⟩
     have sq:=AF.new (o:=.tup [vS "own",.str w,.ref e2]) hq
     obtain⟨x,y⟩:=Du (a:=q) (t:=e2) (k:=.own w) (n:=m+1) (ps:=[fa]) (us:=[a]) (show upd H6 q _ q=_ from AE) (fun _=>sq _ _ (q6 _ _ (s3 _ _ o2))) (.cons (((fa3.kp (Kp.same s13)).kp q6).kp (Kp.same sq)) .nil) ⟨nw,rw_,by simp⟩ (W4 oa)
     exact k _ _ _ x y (by rw[RB];omega) ((pen6.same (AF.new hq)).mono (by omega)) (k6.trans (AF.keep (AF.new hq)))
   refine⟨_,rfl,_,rfl,_,rfl,_,rfl,_,rfl,_,_,rfl,rfl,p,sl,zs,_,S,tn,pr,(congrArg (fun i=>[V.ref p,.ref sl,.bl tn,.int pr,.int i]) (by omega)),hp3,pena,(by omega),hs2,ok,fun b fb H3 fb' ob zb penb kpb=>?_⟩
   have fa3:=fa'.kp (pena.kp kpb)
   have hs3:=kpb _ _ nsl hs2
   have k3:=k2.trans kpb
   refine⟨_,rfl,_,_,rfl,rfl,_,rfl,Bn (fun _=>?_) (fun w8=>?_)⟩
   ·refine⟨_,rfl,p,_,_,_,rfl,(by show(0:Int)<_;decide),Ag (by decide) (by decide),penb,(by omega),fun r4 H4 a4 b4 pen4 kp4=>?_⟩
    obtain⟨ch,hc,hin⟩:=Yl a4 b4
    refine⟨_,_,ch,rfl,rfl,(by nofun),hc,_,rfl,_,rfl,(by show 4≤sizeLine;decide),fun q hq=>?_⟩
    have q4:=(penb.kp kp4).trans (Kp.new0 (o:=.tup [vS "op",.str ⟨#[ch]⟩,a,b]) hq)
    obtain⟨x,y⟩:=Du (a:=q) (t:=q) (k:=.op ⟨#[ch]⟩) (n:=m+1) (ps:=[fa,fb]) (us:=[a,b]) (show upd H4 q _ q=_ from AE) (fun z=>by cases z) (.cons (fa3.kp q4) (.cons (fb'.kp q4) .nil)) ⟨hin,rfl⟩ (WZ oa ob)
    exact k _ _ _ x y (by rw[W2];omega) ((pen4.same (AF.new hq)).mono (by omega)) (k3.trans (kp4.trans (AF.keep (AF.new hq))))
   refine⟨_,rfl,_,_,rfl,rfl,_,rfl,Bn (fun _=>?_) (fun w9=>?_)⟩
   ·refine⟨_,rfl,_,rfl,BE,fun q hq=>?_⟩
    have q4:=(Kp.new0 (o:=.tup [vS "stack",a,b]) hq)
    obtain⟨x,y⟩:=Du (a:=q) (t:=q) (k:=.wd (zS "stack")) (n:=m+1) (ps:=[fa,fb]) (us:=[a,b]) (show upd H3 q _ q=_ from AE) (fun z=>by cases z) (.cons (fa3.kp q4) (.cons (fb'.kp q4) .nil)) (show(zS "stack",2)∈Kk by nofun) (WZ oa ob)
    exact k _ _ _ x y (by rw[W2];omega) ((penb.same (AF.new hq)).mono (by omega)) (k3.trans (AF.keep (AF.new hq)))
   refine⟨_,rfl,_,_,rfl,rfl,_,rfl,Bn (fun _=>?_) (fun w10=>?_)⟩
   ·refine⟨_,rfl,p,_,_,_,rfl,(by show(0:Int)<_;decide),Ag (by decide) (by decide),penb,(by omega),fun r4 H4 a4 b4 pen4 kp4=>⟨_,_,rfl,rfl,_,rfl,p,_,_,_,rfl,(by show(0:Int)<_;decide),Ag (by decide) (by decide),pen4,(by omega),fun r5 H5 a5 b5 pen5 kp5=>⟨_,_,rfl,rfl,_,rfl,_,rfl,(by show 5≤sizeLine;decide),fun q hq=>?_⟩⟩⟩
    have q4:=((penb.kp kp4).trans (pen4.kp kp5)).trans (Kp.new0 (o:=.tup [vS "grid",.int (1+r4),.int (1+r5),a,b]) hq)
    obtain⟨x,y⟩:=Du (a:=q) (t:=q) (k:=.grid (1+r4) (1+r5)) (n:=m+1) (ps:=[fa,fb]) (us:=[a,b]) (show upd H5 q _ q=_ from AE) (fun z=>by cases z) (.cons (fa3.kp q4) (.cons (fb'.kp q4) .nil)) ⟨by omega,by omega,by omega,by omega,rfl⟩ (WZ oa ob)
    exact k _ _ _ x y (by rw[W2];omega) ((pen5.same (AF.new hq)).mono (by omega)) (k3.trans (kp4.trans (kp5.trans (AF.keep (AF.new hq)))))
   refine⟨_,rfl,rfl,_,rfl,Bn (fun _=>?_) (fun w11=>?_)⟩
   ·refine⟨BE,fun q3 h3=>⟨_,rfl,p,_,_,_,rfl,(by show(0:Int)<_;decide),Ag (by decide) (by decide),(penb.same (AF.new h3)),(by omega),fun r4 H4 a4 b4 pen4 kp4=>?_⟩⟩
    obtain⟨w,ew,pw⟩:=FF (L:=[vS "f",vS "g",vS "h"]) (P:=Lx) (by nofun) a4 b4
    obtain⟨nw,rw_⟩:=Ih pw
    refine⟨q3,_,_,_,rfl,rfl,As.of (kp4 _ _ (penb.ne h3) AE),ew,_,rfl,_,rfl,BH,fun e1 n1=>⟨BE,fun q hq=>?_⟩⟩
    have s1:=AF.new (o:=.tup [a,b]) n1
    have sq:=AF.new (o:=.tup [vS "own",.str w,.ref e1]) hq
    have q4:=(Kp.new0 (o:=.lst [vS "f",vS "g",vS "h"]) h3).trans (((penb.same (AF.new h3)).kp kp4).trans ((Kp.same s1).trans (Kp.same sq)))
    obtain⟨x,y⟩:=Du (a:=q) (t:=e1) (k:=.own w) (n:=m+1) (ps:=[fa,fb]) (us:=[a,b]) (show upd (upd H4 e1 _) q _ q=_ from AE) (fun _=>sq _ _ AE) (.cons (fa3.kp q4) (.cons (fb'.kp q4) .nil)) ⟨nw,rw_,by simp⟩ (WZ oa ob)
    exact k _ _ _ x y (by rw[W2];omega) (((pen4.same s1).same sq).mono (by omega)) (k3.trans ((AF.keep (AF.new h3)).trans (kp4.trans ((AF.keep s1).trans (AF.keep sq)))))
   refine⟨_,rfl,_,rfl,_,rfl,_,rfl,p,sl,zs,_,S,tn,pr,rfl,hp3,penb,(by omega),hs3,ok,fun c l H4 hc lok penc kpc=>?_⟩
   have q34:=penb.kp kpc
   have fa4:=fa3.kp q34
   have fb4:=fb'.kp q34
   have fc4:CP H4 (.ref c) (.lf l):=.lf hc
   have oc:DO pr tn (m+1) (.lf l):=.lf lok
   have k4:=k3.trans kpc
   refine⟨_,rfl,rfl,_,rfl,Bn (fun _=>?_) (fun w12=>?_)⟩
   ·refine⟨BE,fun q3 h3=>⟨_,rfl,p,_,_,_,rfl,(by show(0:Int)<_;decide),Ag (by decide) (by decide),(penc.same (AF.new h3)),(by omega),fun r5 H5 a5 b5 pen5 kp5=>?_⟩⟩
    obtain⟨w,ew,pw⟩:=FF (L:=[vS "f",vS "g",vS "h"]) (P:=Lx) (by nofun) a5 b5
    obtain⟨nw,rw_⟩:=Ih pw
    refine⟨q3,_,_,_,rfl,rfl,As.of (kp5 _ _ (penc.ne h3) AE),ew,_,rfl,_,rfl,_,rfl,BE,fun e1 n1=>⟨BE,fun q hq=>?_⟩⟩
    have s1:=AF.new (o:=.tup [a,b,.ref c]) n1
    have sq:=AF.new (o:=.tup [vS "own",.str w,.ref e1]) hq
    have q4:=(Kp.new0 (o:=.lst [vS "f",vS "g",vS "h"]) h3).trans (((penc.same (AF.new h3)).kp kp5).trans ((Kp.same s1).trans (Kp.same sq)))
    obtain⟨x,y⟩:=Du (a:=q) (t:=e1) (k:=.own w) (n:=m+1) (ps:=[fa,fb,.lf l]) (us:=[a,b,.ref c]) (show upd (upd H5 e1 _) q _ q=_ from AE) (fun _=>sq _ _ AE) (.cons (fa4.kp q4) (.cons (fb4.kp q4) (.cons (fc4.kp q4) .nil))) ⟨nw,rw_,by simp⟩ (W5 oa ob oc)
    exact k _ _ _ x y (by rw[W3,U8];omega) (((pen5.same s1).same sq).mono (by omega)) (k4.trans ((AF.keep (AF.new h3)).trans (kp5.trans ((AF.keep s1).trans (AF.keep sq)))))
   refine⟨_,rfl,rfl,_,rfl,Bn (fun _=>?_) (fun w13=>?_)⟩
   ·refine⟨_,rfl,_,rfl,_,rfl,(by show 4≤sizeLine;decide),fun q hq=>?_⟩
    have q4:=(Kp.new0 (o:=.tup [vS "if",a,b,.ref c]) hq)
    obtain⟨x,y⟩:=Du (a:=q) (t:=q) (k:=.wd (zS "if")) (n:=m+1) (ps:=[fa,fb,.lf l]) (us:=[a,b,.ref c]) (show upd H4 q _ q=_ from AE) (fun z=>by cases z) (.cons (fa4.kp q4) (.cons (fb4.kp q4) (.cons (fc4.kp q4) .nil))) (show(zS "if",3)∈Kk by nofun) (W5 oa ob oc)
    exact k _ _ _ x y (by rw[W3,U8];omega) ((penc.same (AF.new hq)).mono (by omega)) (k4.trans (AF.keep (AF.new hq)))
   refine⟨_,rfl,rfl,_,rfl,Bn (fun _=>?_) (fun w14=>?_)⟩
   ·refine⟨_,rfl,_,rfl,p,_,_,_,rfl,(by show(0:Int)<_;decide),Ag (by decide) (by decide),penc,(by omega),fun r5 H5 a5 b5 pen5 kp5=>?_⟩
    obtain⟨ch,hc2,hin⟩:=Yr a5 b5
    refine⟨_,_,ch,rfl,rfl,(by nofun),hc2,_,rfl,_,rfl,(by show 5≤sizeLine;decide),fun q hq=>?_⟩
    have q4:=(penc.kp kp5).trans (Kp.new0 (o:=.tup [vS "sumif",a,.str ⟨#[ch]⟩,b,.ref c]) hq)
    obtain⟨x,y⟩:=Du (a:=q) (t:=q) (k:=.sumif ⟨#[ch]⟩) (n:=m+1) (ps:=[fa,fb,.lf l]) (us:=[a,b,.ref c]) (show upd H5 q _ q=_ from AE) (fun z=>by cases z) (.cons (fa4.kp q4) (.cons (fb4.kp q4) (.cons (fc4.kp q4) .nil))) ⟨hin,rfl⟩ (W5 oa ob oc)
    exact k _ _ _ x y (by rw[W3,U8];omega) ((pen5.same (AF.new hq)).mono (by omega)) (k4.trans (kp5.trans (AF.keep (AF.new hq))))
   ·refine⟨_,rfl,_,rfl,_,rfl,(by show 4≤sizeLine;decide),fun q hq=>?_⟩
    have q4:=(Kp.new0 (o:=.tup [vS "find",a,b,.ref c]) hq)
    obtain⟨x,y⟩:=Du (a:=q) (t:=q) (k:=.wd (zS "find")) (n:=m+1) (ps:=[fa,fb,.lf l]) (us:=[a,b,.ref c]) (show upd H4 q _ q=_ from AE) (fun z=>by cases z) (.cons (fa4.kp q4) (.cons (fb4.kp q4) (.cons (fc4.kp q4) .nil))) (show(zS "find",3)∈Kk by nofun) (W5 oa ob oc)
    exact k _ _ _ x y (by rw[W3,U8];omega) ((penc.same (AF.new hq)).mono (by omega)) (k4.trans (AF.keep (AF.new hq)))
theorem JR:AZ ["_law_pen_here"] ["_law_pen_here"] (AO Dj):=BC
theorem Iz (T:Txt w K mg t):A1 P w K mg base Bo 2 t.c7 t.c8 ["_law_pen_here"] (Wb K):=by
 have D:=T.fn
 refine D.fn.okX JR ?_ (fun cdv A outer s H vs Q E hr h Z hZ=>?_)
 ·rintro _ _ _ _ ⟨p,n,S,rfl,_⟩
  rfl
 ·obtain⟨p,n,S,rfl,hpen,hn,k⟩:=h
  refine hZ ⟨_,((AH (AM (AV Ai (Ae (Be (Ae (AB AI AC)) (Be (Ae (AB AI (AB AI AC))) (Be (Ae (AB AI (AB AI (AB AI AC)))) AC)))) (AR T.d8 (AN T) (BO hr) (AA (AK 0) (AB AD AC))) (fun _ _=>rfl))))),?_⟩
  try dsimp only[BB,Au]
  refine⟨Fh,fun l1 h1=>⟨BH,fun l2 h2=>⟨BE,fun l3 h3=>⟨BE,fun q hq=>?_⟩⟩⟩⟩
  have s1:=AF.new (o:=.lst [vS "main"]) h1
  have o1:upd H l1 (.lst [vS "main"]) l1=some (.lst [vS "main"]):=AE
  have p1:=hpen.same s1
  generalize upd H l1 (.lst [vS "main"])=G1 at *
  have s2:=AF.new (o:=.lst [vS "main",vS "two"]) h2
  have o2:upd G1 l2 (.lst [vS "main",vS "two"]) l2=some (.lst [vS "main",vS "two"]):=AE
  have p2:=p1.same s2
  generalize upd G1 l2 (.lst [vS "main",vS "two"])=G2 at *
  have s3:=AF.new (o:=.lst [vS "two",vS "main",vS "a"]) h3
  have o3:upd G2 l3 (.lst [vS "two",vS "main",vS "a"]) l3=some (.lst [vS "two",vS "main",vS "a"]):=AE
  have p3:=p2.same s3
  generalize upd G2 l3 (.lst [vS "two",vS "main",vS "a"])=G3 at *
  have s4:=AF.new (o:=.lst [.ref l1,.ref l2,.ref l3]) hq
  have o4:upd G3 q (.lst [.ref l1,.ref l2,.ref l3]) q=some (.lst [.ref l1,.ref l2,.ref l3]):=AE
  have p4:=p3.same s4
  have n1:=hpen.ne h1
  have n2:=p1.ne h2
  have n3:=p2.ne h3
  have n4:=p3.ne hq
  generalize upd G3 q (.lst [.ref l1,.ref l2,.ref l3])=G4 at *
  refine⟨_,rfl,p,_,_,_,rfl,(by show(0:Int)<_;decide),Ag (by decide) (by decide),p4,(by omega),fun r1 H1 a1 b1 pen1 kp1=>?_⟩
  have kk:=AF.keep (p:=p) (((s1.trans s2).trans s3).trans s4)
  have:r1=0∨r1=1∨r1=2:=by omega
  rcases this with rfl | rfl | rfl
  ·exact⟨q,_,_,_,rfl,rfl,As.of (kp1 _ _ n4 o4),rfl,k l1 [zS "main"] _ (kp1 _ _ n1 (s4 _ _ (s3 _ _ (s2 _ _ o1)))) Sa (by simp[U9]) pen1 (kk.trans kp1)⟩
  ·exact⟨q,_,_,_,rfl,rfl,As.of (kp1 _ _ n4 o4),rfl,k l2 [zS "main",zS "two"] _ (kp1 _ _ n2 (s4 _ _ (s3 _ _ o2))) Sb (by simp[U9]) pen1 (kk.trans kp1)⟩
  ·exact⟨q,_,_,_,rfl,rfl,As.of (kp1 _ _ n4 o4),rfl,k l3 [zS "two",zS "main",zS "a"] _ (kp1 _ _ n3 (s4 _ _ o3)) Sc (by simp[U9]) pen1 (kk.trans kp1)⟩
theorem EU:AZ ["_law_pen_here","_law_sheets_here","_law_names_here","_law_name"] ["_law_pen_here","_law_sheets_here"] (AO ER):=BC
theorem JS (T:Txt w K mg t):A1 P w K mg base Bo 30 t.c9 t.da ["_law_pen_here","_law_sheets_here"] (TJ K false):=by
 have D:=T.fo
 refine D.fn.okX EU ?_ (fun cdv A outer s H vs Q E hr h Z hZ=>?_)
 ·rintro _ _ _ _ ⟨p,sl,zs,c,S,rfl,_⟩
  rfl
 ·obtain⟨p,sl,zs,c,S,rfl,hpen,hc,hsl,ok,k⟩:=h
  refine hZ ⟨_,((AG (Af (i:=2) EU.nd rfl (Or.inl rfl) (Ae AC))
   (AG (Jy PassesOwn.never rfl (CM (Ae (AB AI (AB AI AC)))) (DR (i:=3) EU.nd rfl (Or.inl rfl))
   (AH (Ah (AX Hu (AR T.d8 (AN T) (hr.mono (by omega)) (AA (AK 0) (AB AD AC))) AD (AS _)) (AH (Ha (NU PySem.F.plainAttrs_list PySem.F.slot_list_append PySem.F.type_list_append E9 (AK 2) (AJ (AL (AA (AK 3) (BP (AR T.fm (Cs T 1) (hr.mono (by omega)) (AA (AK 0) (AA (AK 1) (AB BF (AB AD (AB AD AC)))))) AC))) AC)))) AT)))
   (AH (AM (AK 2)))))),?_⟩
  try dsimp only[BB,Au]
  have np:=GI hpen hsl ok
  refine⟨Nat.zero_le _,fun l hl=>?_⟩
  have s1:=AF.new (o:=.lst []) hl
  have ol:upd H l (.lst []) l=some (.lst []):=AE
  have pe1:=hpen.same s1
  have nl:=hpen.ne hl
  generalize upd H l (.lst [])=G1 at *
  refine⟨BH,fun ls hls=>?_⟩
  have s2:=AF.new (o:=.lst ((Gi false).map V.str)) hls
  have nls:=pe1.ne hls
  have lls:ls≠l:=fun e=>by rw[e,ol]at hls;cases hls
  refine⟨ls,rfl,⟨_,As.of AE⟩,?_⟩
  have u1:uB 1=48:=rfl
  have b1:sB 1=4:=rfl
  refine Kt (xs:=(Gi false).map V.str) (fun i σ H5=>∃(us:List V) (es:List El) (x3:Option V),σ=[some (.ref p),some (.ref sl),some (.ref l),x3]∧TL K false S H p l ls c i H5 us es) ⟨[],[],none,rfl,s2 _ _ ol,.nil,(fun _ h=>nomatch h),List.nil_sublist _,(pe1.same s2).mono (by omega),AE,fun b o _ e=>s2 _ _ (s1 _ _ e)⟩ ?_ ?_ ?_
  ·rintro i σ H5 _ ⟨us,es,x3,rfl,st⟩
   exact As.of st.ls
  ·rintro i x σ H5 hx ⟨us,es,x3,rfl,st⟩
   rw[List.getElem?_map]at hx
   obtain⟨z,hz,rfl⟩:∃ z,(Gi false)[i]?=some z∧V.str z=x:=by
    cases q:(Gi false)[i]? with
    | none=>rw[q]at hx;cases hx
    | some z=>rw[q]at hx;exact⟨z,rfl,Option.some.inj hx⟩
   have hi2:i<2:=(List.getElem?_eq_some_iff.mp hz).1
   have pe5:=st.pen
   refine⟨_,rfl,p,_,_,_,rfl,(by show(0:Int)<_;decide),Ag (by decide) (by decide),pe5,(by omega),fun r1 H1 a1 b1 pen1 kp1=>⟨_,_,rfl,rfl,_,rfl,Bn (fun _=>?_) (fun _=>?_)⟩⟩
   ·
    have k02:KeepX p H5 H1:=kp1
    have q02:=st.pen.kp k02
    have pen0:=pen1
    have ol2:=k02 _ _ nl st.ol
    have hs2:=k02 _ _ np (st.kp _ _ np hsl)
    refine⟨_,rfl,.inl ⟨rfl,_,As.of ol2⟩,_,rfl,_,rfl,_,rfl,p,sl,zs,_,S,true,0,rfl,(by decide),(by decide),pen0,(by omega),hs2,ok,fun v f H6 hv fo sz pen6 kp6=>?_⟩
    refine⟨BH,fun a ha=>?_⟩
    have s7:=AF.new (o:=.tup [.str z,v]) ha
    obtain⟨ln,nx⟩:=st.add (e:=(z,0,f)) (H7:=upd H6 a (.tup [.str z,v])) hpen nl nls lls hl (k02.trans (kp6.trans (AF.keep s7))) ((q02.trans (pen0.kp kp6)).trans (Kp.same s7)) ((pen6.same s7).mono (by omega)) AE (hv.kp (Kp.same s7)) ⟨⟨(Hm z (List.mem_of_getElem? hz)).1,(Hm z (List.mem_of_getElem? hz)).2,(fun _=>rfl),(Nat.zero_le _),fo.1.mono (by decide),(by show Ei f≤24;omega),fo.2 rfl⟩,fo.1,(by show Ei f≤4;omega)⟩ hz
    exact⟨l,us,_,rfl,rfl,s7 _ _ (kp6 _ _ nl ol2),ln,_,_,_,rfl,nx⟩
   ·exact⟨us,es,_,rfl,st.skip nl nls kp1 (pe5.kp kp1) (pen1.mono (by omega))⟩
  ·rintro σ H5 ⟨us,es,x3,rfl,st⟩
   exact⟨_,rfl,k l us es H5 hl st.ol st.en st.ok st.sb (st.pen.mono (by show c+60*2≤c+200;omega)) st.kp⟩
theorem Da:AZ ["_law_pen_here","_law_sheets_here","_law_owns_here","_law_name","_law_count"] ["_law_pen_here","_law_sheets_here"] (AO E2):=BC
theorem Ki (T:Txt w K mg t):A1 P w K mg base Bo 30 t.db t.dc ["_law_pen_here","_law_sheets_here"] (TJ K true):=by
 have D:=T.fp
 refine D.fn.okX Da ?_ (fun cdv A outer s H vs Q E hr h Z hZ=>?_)
 ·rintro _ _ _ _ ⟨p,sl,zs,c,S,rfl,_⟩
  rfl
 ·obtain⟨p,sl,zs,c,S,rfl,hpen,hc,hsl,ok,k⟩:=h
  refine hZ ⟨_,((AG (Af (i:=2) Da.nd rfl (Or.inl rfl) (Ae AC))
   (AG (Jy PassesOwn.never rfl (CM (Ae (AB AI (AB AI AC)))) (DR (i:=3) Da.nd rfl (Or.inl rfl))
   (AH (Ah (AX Hu (AR T.d8 (AN T) (hr.mono (by omega)) (AA (AK 0) (AB AD AC))) AD (AS _)) (AG (Af (i:=4) Da.nd rfl (Or.inl rfl) (AV Ai (Ae (AB AD (AB AD (AB AD (AB AD AC))))) (AR T.d8 (AN T) (hr.mono (by omega)) (AA (AK 0) (AB AD AC))) (fun _ _=>rfl)))
   (AH (Ha (NU PySem.F.plainAttrs_list PySem.F.slot_list_append PySem.F.type_list_append E9 (AK 2) (AJ (AL (AA (AK 3) (AA (AK 4) (BP (AR T.fm (Cs T 1) (hr.mono (by omega)) (AA (AK 0) (AA (AK 1) (AB BF (AA (AK 4) (AB AD AC)))))) AC)))) AC))))) AT)))
   (AH (AM (AK 2)))))),?_⟩
  try dsimp only[BB,Au]
  have np:=GI hpen hsl ok
  refine⟨Nat.zero_le _,fun l hl=>?_⟩
  have s1:=AF.new (o:=.lst []) hl
  have ol:upd H l (.lst []) l=some (.lst []):=AE
  have pe1:=hpen.same s1
  have nl:=hpen.ne hl
  generalize upd H l (.lst [])=G1 at *
  refine⟨BH,fun ls hls=>?_⟩
  have s2:=AF.new (o:=.lst ((Gi true).map V.str)) hls
  have nls:=pe1.ne hls
  have lls:ls≠l:=fun e=>by rw[e,ol]at hls;cases hls
  refine⟨ls,rfl,⟨_,As.of AE⟩,?_⟩
  have u1:uB 1=48:=rfl
  have b1:sB 1=4:=rfl
  refine Kt (xs:=(Gi true).map V.str) (fun i σ H5=>∃(us:List V) (es:List El) (x3 x4:Option V),σ=[some (.ref p),some (.ref sl),some (.ref l),x3,x4]∧TL K true S H p l ls c i H5 us es) ⟨[],[],none,none,rfl,s2 _ _ ol,.nil,(fun _ h=>nomatch h),List.nil_sublist _,(pe1.same s2).mono (by omega),AE,fun b o _ e=>s2 _ _ (s1 _ _ e)⟩ ?_ ?_ ?_
  ·rintro i σ H5 _ ⟨us,es,x3,x4,rfl,st⟩
   exact As.of st.ls
  ·rintro i x σ H5 hx ⟨us,es,x3,x4,rfl,st⟩
   rw[List.getElem?_map]at hx
   obtain⟨z,hz,rfl⟩:∃ z,(Gi true)[i]?=some z∧V.str z=x:=by
    cases q:(Gi true)[i]? with
    | none=>rw[q]at hx;cases hx
    | some z=>rw[q]at hx;exact⟨z,rfl,Option.some.inj hx⟩
   have hi2:i<2:=(List.getElem?_eq_some_iff.mp hz).1
   have pe5:=st.pen
   refine⟨_,rfl,p,_,_,_,rfl,(by show(0:Int)<_;decide),Ag (by decide) (by decide),pe5,(by omega),fun r1 H1 a1 b1 pen1 kp1=>⟨_,_,rfl,rfl,_,rfl,Bn (fun _=>?_) (fun _=>?_)⟩⟩
   ·
    refine⟨(by show 4≤sizeLine;decide),fun lc hlc=>?_⟩
    have sc:=AF.new (o:=.lst [.int 1,.int 2,.int 0,.int 3]) hlc
    have penc:=pen1.same sc
    have nlc:=pen1.ne hlc
    refine⟨_,rfl,p,_,_,_,rfl,(by show(0:Int)<_;decide),Ag (by decide) (by decide),penc,(by omega),fun r2 H2 a2 b2 pen2 kp2=>?_⟩
    obtain⟨m,hm,m3⟩:=RC a2 b2
    refine⟨lc,_,_,_,rfl,rfl,As.of (kp2 _ _ nlc AE),hm,?_⟩
    have k02:KeepX p H5 H2:=(kp1.trans (AF.keep sc)).trans kp2
    have q02:=st.pen.kp k02
    have pen0:=pen2
    have ol2:=k02 _ _ nl st.ol
    have hs2:=k02 _ _ np (st.kp _ _ np hsl)
    refine⟨_,rfl,.inl ⟨rfl,_,As.of ol2⟩,_,rfl,_,rfl,_,rfl,_,rfl,_,rfl,p,sl,zs,_,S,true,m,rfl,m3,(by decide),pen0,(by omega),hs2,ok,fun v f H6 hv fo sz pen6 kp6=>?_⟩
    refine⟨BE,fun a ha=>?_⟩
    have s7:=AF.new (o:=.tup [.str z,.int (m:Nat),v]) ha
    obtain⟨ln,nx⟩:=st.add (e:=(z,m,f)) (H7:=upd H6 a (.tup [.str z,.int (m:Nat),v])) hpen nl nls lls hl (k02.trans (kp6.trans (AF.keep s7))) ((q02.trans (pen0.kp kp6)).trans (Kp.same s7)) ((pen6.same s7).mono (by omega)) AE (hv.kp (Kp.same s7)) ⟨⟨(Hm z (List.mem_of_getElem? hz)).1,(Hm z (List.mem_of_getElem? hz)).2,(fun z=>by cases z),m3,fo.1.mono (by decide),(by show Ei f≤24;omega),fo.2 rfl⟩,fo.1,(by show Ei f≤4;omega)⟩ hz
    exact⟨l,us,_,rfl,rfl,s7 _ _ (kp6 _ _ nl ol2),ln,_,_,_,_,rfl,nx⟩
   ·exact⟨us,es,_,_,rfl,st.skip nl nls kp1 (pe5.kp kp1) (pen1.mono (by omega))⟩
  ·rintro σ H5 ⟨us,es,x3,x4,rfl,st⟩
   exact⟨_,rfl,k l us es H5 hl st.ol st.en st.ok st.sb (st.pen.mono (by show c+60*2≤c+200;omega)) st.kp⟩
theorem E5:AZ ["_law_pen_here","_law_sheets_here","_law_deep","_law_way"] ["_law_pen_here","_law_sheets_here","_law_deep"] (AO DK):=BC
theorem HX (T:Txt w K mg t):A1 P w K mg base Bo 9 t.dd t.de ["_law_pen_here","_law_sheets_here","_law_deep"] (Wd K):=by
 have D:=T.fq
 refine D.fn.okX E5 ?_ (fun cdv A outer s H vs Q E hr h Z hZ=>?_)
 ·rintro _ _ _ _ ⟨p,sl,zs,n,S,rfl,_⟩
  rfl
 ·obtain⟨p,sl,zs,n,S,rfl,hpen,hn,hsl,ok,k⟩:=h
  refine hZ ⟨_,((AG (Af (i:=3) E5.nd rfl (Or.inl rfl) (AR T.d8 (AN T) (hr.mono (by omega)) (AA (AK 0) (AB AD AC))))
   (AG (Ah (AX Aq (AK 3) AD (AS _)) (AH (AM (AL (AB AI (AQ (AV Ai (Ae (F7 (NO Jz AD) (AB AD (F7 (NO Jz AD) (AB AD AC))))) (AR T.d8 (AN T) (hr.mono (by omega)) (AA (AK 0) (AB AD AC))) (fun _ _=>rfl)) (AQ (AV Ai (Ae (AB AD (AB AD AC))) (AR T.d8 (AN T) (hr.mono (by omega)) (AA (AK 0) (AB AD AC))) (fun _ _=>rfl)) AC)))))) AT)
   (AG (Ah (AX Aq (AK 3) AD (AS _)) (AH (AM (AR T.fg (Fa T) (hr.mono (by omega)) (AA (AK 0) AC)))) AT)
   (AH (AM (AL (AB AI (BP (AR T.fm (Cs T 1) (hr.mono (by omega)) (AA (AK 0) (AA (AK 1) (AB BF (AB AD (AA (AK 2) AC)))))) AC))))))))),?_⟩
  try dsimp only[BB,Au]
  have nsl:=GI hpen hsl ok
  have u1:uB 1=48:=rfl
  have b1':sB 1=4:=rfl
  refine⟨_,rfl,p,_,_,_,rfl,(by show(0:Int)<_;decide),Ag (by decide) (by decide),hpen,(by omega),fun r1 H1 a1 b1 pen1 kp1=>?_⟩
  refine⟨_,rfl,rfl,_,rfl,Bn (fun _=>?_) (fun _=>?_)⟩
  ·refine⟨_,rfl,_,rfl,(by show 4≤sizeLine;decide),fun q2 h2=>⟨_,rfl,p,_,_,_,rfl,(by show(0:Int)<_;decide),Ag (by decide) (by decide),(pen1.same (AF.new h2)),(by omega),fun r2 H2 a2 b2 pen2 kp2=>?_⟩⟩
   obtain⟨i,mi,ei⟩:=OE (L:=[(-1:Int),3,-7,5]) a2 b2
   refine⟨q2,_,_,_,rfl,rfl,As.of (kp2 _ _ (pen1.ne h2) AE),ei,?_⟩
   refine⟨BH,fun q3 h3=>⟨_,rfl,p,_,_,_,rfl,(by show(0:Int)<_;decide),Ag (by decide) (by decide),(pen2.same (AF.new h3)),(by omega),fun r3 H3 a3 b3 pen3 kp3=>?_⟩⟩
   obtain⟨j,mj,ej⟩:=OE (L:=[(2:Int),4]) a3 b3
   obtain⟨o1,o2,o3,o4⟩:=Us i mi j mj
   refine⟨q3,_,_,_,rfl,rfl,As.of (kp3 _ _ (pen2.ne h3) AE),ej,BE,fun q hq=>?_⟩
   exact k (.ref q) (.val (.num i j)) _ ⟨q,rfl,AE⟩ ⟨⟨⟨o1,o2⟩,o3,o4⟩,trivial⟩ ((pen3.same (AF.new hq)).mono (by omega)) (kp1.trans ((AF.keep (AF.new h2)).trans (kp2.trans ((AF.keep (AF.new h3)).trans (kp3.trans (AF.keep (AF.new hq)))))))
  refine⟨_,rfl,rfl,_,rfl,Bn (fun _=>?_) (fun _=>?_)⟩
  ·exact⟨_,rfl,p,_,S,rfl,pen1,(by omega),fun q v H' hq vo vw pen2 kp2=>k (.ref q) (.val v) H' ⟨q,rfl,hq⟩ ⟨vo,vw.c⟩ (pen2.mono (by omega)) (kp1.trans kp2)⟩
  refine⟨_,rfl,_,rfl,_,rfl,p,sl,zs,_,S,false,0,rfl,(by decide),(by decide),pen1,(by omega),kp1 _ _ nsl hsl,ok,fun v f H2 hv fo sz pen2 kp2=>⟨BH,fun a ha=>?_⟩⟩
  exact k (.ref a) (.fm f) _ ⟨a,v,rfl,AE,hv.kp (Kp.new0 ha)⟩ ⟨fo.1.mono (by decide),by omega⟩ ((pen2.same (AF.new ha)).mono (by omega)) (kp1.trans (kp2.trans (AF.keep (AF.new ha))))
theorem Cb:AZ ["_law_pen_here","_law_sheets_here","_law_many_here","_law_deep","_law_found","_law_k","_law_row","_law_column"] ["_law_pen_here","_law_sheets_here","_law_many_here","_law_deep"] (AO ES):=BC
theorem JT (T:Txt w K mg t):A1 P w K mg base Bo 10 t.df t.dg ["_law_pen_here","_law_sheets_here","_law_many_here","_law_deep"] (Wf K):=by
 have D:=T.fr
 refine D.fn.okX Cb ?_ (fun cdv A outer s H vs Q E hr h Z hZ=>?_)
 ·rintro _ _ _ _ ⟨p,sl,zs,n,m,S,rfl,_⟩
  rfl
 ·obtain⟨p,sl,zs,n,m,S,rfl,h12,hpen,hn,hsl,ok,k⟩:=h
  have hu1:=So hr
  refine hZ ⟨_,((AG (Af (i:=4) Cb.nd rfl (Or.inl rfl) Pj)
   (AG (Jy PassesOwn.never rfl (Dm rfl T.f0 (AA (AK 2) AC)) (DR (i:=5) Cb.nd rfl (Or.inl rfl))
   (AG (Af (i:=6) Cb.nd rfl (Or.inl rfl) (AV Ai (Ae (AB AD (AB AD (AB AD (AB AD (AB AD (AB AD AC))))))) (AR T.d8 (AN T) (BO hr) (AA (AK 0) (AB AD AC))) (fun _ _=>rfl)))
   (AG (Af (i:=7) Cb.nd rfl (Or.inl rfl) (AV Ai (Ae (AB AD (AB AD (AB AD (AB AD (AB AD AC)))))) (AR T.d8 (AN T) (BO hr) (AA (AK 0) (AB AD AC))) (fun _ _=>rfl)))
   (AH (Rb hu1 (AK 4) (AL (AQ (AV Ai (AK 1) (AR T.d8 (AN T) (BO hr) (AA (AK 0) (BP (AW Aj (by rfl) T.fz PySem.boot_len (AA (AK 1) AC)) AC))) (fun _ _=>rfl)) (AA (AK 6) (AA (AK 7) AC)))) (AR T.fq (HX T) (BO hr) (AA (AK 0) (AA (AK 1) (AA (AK 3) AC)))) rfl)))))
   (AH (AM (AK 4)))))),?_⟩
  try dsimp only[BB,Au]
  have nsl:=GI hpen hsl ok
  obtain⟨l1,l4,_,nm⟩:=id ok
  have hl:(zs.map V.str).length=zs.length:=List.length_map ..
  intro d hd
  have nd:=hpen.ne hd
  refine⟨_,rfl,(m:Int),rfl,(by omega),(by omega),?_⟩
  refine JW (n:=m) (fun i σ H3=>∃(kvs:List (List BY×V)) (cs:List Pr) (x5 x6 x7:Option V),σ=[some (.ref p),some (.ref sl),some (.int (m:Int)),some (.int 1),some (.ref d),x5,x6,x7]∧H3 d=some (.dT kvs)∧Gj H3 kvs cs∧We zs cs∧cs.length≤i∧BD K S H3 p (n+80*i)∧KeepX p H H3) ⟨[],[],none,none,none,rfl,AE,.nil,⟨List.nodup_nil,fun _ h=>nomatch h⟩,Nat.le_refl _,(hpen.same (AF.new hd)).mono (by omega),AF.keep (AF.new hd)⟩ ?_ ?_
  ·rintro i σ H3 hi ⟨kvs,cs,x5,x6,x7,rfl,od,dc,dk,lc,pen0,kp0⟩
   refine⟨(by show 6≤sizeLine;decide),fun q1 h1=>⟨_,rfl,p,_,_,_,rfl,(by show(0:Int)<_;decide),Ag (by decide) (by decide),(pen0.same (AF.new h1)),(by omega),fun r1 H1 a1 b1 pen1 kp1=>?_⟩⟩
   obtain⟨r,er,ra,rb⟩:=GJ (L:=[.int 1,.int 2,.int 3,.int 4,.int 15,.int 16]) (lo:=1) (hi:=16) (by nofun) a1 b1
   refine⟨q1,_,_,_,rfl,rfl,As.of (kp1 _ _ (pen0.ne h1) AE),er,?_⟩
   refine⟨(by show 5≤sizeLine;decide),fun q2 h2=>⟨_,rfl,p,_,_,_,rfl,(by show(0:Int)<_;decide),Ag (by decide) (by decide),(pen1.same (AF.new h2)),(by omega),fun r2 H2 a2 b2 pen2 kp2=>?_⟩⟩
   obtain⟨c,ec,ca,cb⟩:=GJ (L:=[.int 1,.int 2,.int 3,.int 7,.int 8]) (lo:=1) (hi:=8) (by nofun) a2 b2
   refine⟨q2,_,_,_,rfl,rfl,As.of (kp2 _ _ (pen1.ne h2) AE),ec,?_⟩
   have k02:KeepX p H3 H2:=(AF.keep (AF.new h1)).trans (kp1.trans ((AF.keep (AF.new h2)).trans kp2))
   have hs2:=k02 _ _ nsl (kp0 _ _ nsl hsl)
   refine⟨_,rfl,_,rfl,_,rfl,p,sl,zs,_,S,rfl,pen2,(by omega),hs2,ok,fun u ct H4 hu4 ctk pen4 kp4=>?_⟩
   have hs4:=kp4 _ _ nsl hs2
   refine⟨_,rfl,_,rfl,_,rfl,_,rfl,sl,_,rfl,.inl (As.of hs4),p,_,_,_,rfl,(by rw[hl];omega),Ag (by omega) (by omega),pen4,(by omega),fun r5 H5 a5 b5 pen5 kp5=>?_⟩
   rw[hl]at b5
   obtain⟨z,mz,ez⟩:=Wg a5 b5
   refine⟨sl,_,_,_,rfl,rfl,As.of (kp5 _ _ nsl hs4),ez,_,rfl,_,rfl,BE,fun q hq=>?_⟩
   have k05:KeepX p H3 (upd H5 q (.tup [.str z,.int r,.int c])):=k02.trans (kp4.trans (kp5.trans (AF.keep (AF.new hq))))
   have q05:=pen0.kp k05
   have od5:=k05 _ _ nd od
   have q25:Kp H4 (upd H5 q (.tup [.str z,.int r,.int c])):=(pen4.kp kp5).trans (Kp.new0 hq)
   have ld:kvs.length=cs.length:=Paired.length dc
   obtain⟨cs',d1,d2,d3,d4⟩:=Ut (c:=(z,r,c)) (dc.kp q05) (hu4.kp q25) dk.nd
   refine⟨d,_,rfl,Pf.t (k:=GS.ckK (z,r,c)) od5 AE (DX (by omega)),?_⟩
   have q9:Kp _ (upd (upd H5 q (.tup [.str z,.int r,.int c])) d (.dT (F8 kvs (GS.ckK (z,r,c)) u))):=Kp.dT od5
   refine⟨_,cs',_,_,_,rfl,AE,d1.kp q9,⟨d3,fun p hp=>?_⟩,by omega,?_,fun b o hb e=>?_⟩
   ·rcases d2 p hp with hp | rfl
    ·exact dk.ok p hp
    ·exact⟨⟨mz,nm z mz,ra,rb,ca,cb⟩,ctk⟩
   ·exact BD.put hpen hd ((pen5.same (AF.new hq)).mono (by omega))
   ·rw[Ab (Am e hd)];exact k05 _ _ hb (kp0 _ _ hb e)
  ·rintro σ H3 ⟨kvs,cs,x5,x6,x7,rfl,od,dc,dk,lc,pen0,kp0⟩
   exact⟨_,rfl,k d kvs cs H3 hd od dc dk (by omega) (pen0.mono (by omega)) kp0⟩
theorem Cc:AZ ["_law_parts","_law_caught","error"] ["_law_parts"] (AO DL):=BC
theorem HY (T:Txt w K mg t):A1 P w K mg base Bo 42 t.dh t.di ["_law_parts"] Wm:=by
 have D:=T.fs
 refine D.fn.okX Cc ?_ (fun cdv A outer s H vs Q E hr h Z hZ=>?_)
 ·rintro _ _ _ _ ⟨l,rfl,_⟩
  rfl
 ·obtain⟨l,rfl,h,k⟩:=h
  refine hZ ⟨_,((AG (Af (i:=1) Cc.nd rfl (Or.inl rfl) CL)
   (AG (RX (i:=2) (MJ T) (BO hr) T.ff.gl T.ff.fn.kp T.ff.b (fun _=>(AQ (AV (Eo (K:=K) rfl) (AK 0) AD (fun _ _=>rfl)) (AQ (AV (Eo (K:=K) rfl) (AK 0) AD (fun _ _=>rfl)) (AQ (AV (Eo (K:=K) rfl) (AK 0) AD (fun _ _=>rfl)) (AQ (AV (Eo (K:=K) rfl) (AK 0) AD (fun _ _=>rfl)) (AQ (AV (Eo (K:=K) rfl) (AK 0) AD (fun _ _=>rfl)) AC)))))) T.gh rfl rfl Cc.nd rfl rfl (fun _=>(AH (Af (i:=1) Cc.nd rfl (Or.inl rfl) (AK 2)))))
   (AG (Ah (By (A5 (A4 (AW ED (by rfl) T.f1 Aa (AA (AK 1) (AA (EF T.gi) AC))))) (Bu (A5 (A4 (AW ED (by rfl) T.f1 Aa (AA (AK 1) (AA (Bg T.gg HK) AC))))))).pt (AH (AM BF)) AT)
   (AH (AM (PC (AW ED (by rfl) T.f1 Aa (AA (AK 1) (AJ (AL (AA (EF T.gj) (AA (EF T.gk) (AA (EF T.gl) (AA (EF T.gm) (AA (EF T.gn) (AA (EF T.go) (AA (EF T.gp) (AA (EF T.gq) AC))))))))) AC)))))))))),?_⟩
  try dsimp only[BB,Au]
  obtain⟨v0,v1,v2,v3,v4,r0,r1,r2,r3,t4,hl,h0,h1,h2,h3,h4,bad⟩:=h
  refine⟨_,rfl,l,_,_,_,rfl,rfl,As.of hl,rfl,_,rfl,l,_,_,_,rfl,rfl,As.of hl,rfl,_,rfl,l,_,_,_,rfl,rfl,As.of hl,rfl,_,rfl,l,_,_,_,rfl,rfl,As.of hl,rfl,_,rfl,l,_,_,_,rfl,rfl,As.of hl,rfl,v0,v1,v2,v3,v4,r0,r1,r2,r3,t4,rfl,h0,h1,h2,h3,h4,bad,fun H1 s1=>⟨T.h9,fun e he=>?_⟩⟩
  have s2:=AF.new (o:=J9 e (.ref t.dx)) he
  have oe:upd H1 e (J9 e (.ref t.dx)) e=some (J9 e (.ref t.dx)):=AE
  generalize upd H1 e (J9 e (.ref t.dx))=H2 at *
  refine⟨_,rfl,?_⟩
  dsimp only[List.set]
  refine⟨_,rfl,e,_,_,true,rfl,oe,T.ij,⟨true,rfl,AY ?_⟩,.inl ⟨_,rfl,(fun _ z=>nomatch z),(fun _ z=>nomatch z),(fun _ z=>nomatch z),(fun _ z=>nomatch z),UL _ _⟩⟩
  refine⟨_,rfl,e,_,_,true,rfl,oe,T.ij,⟨true,rfl,AY ?_⟩,.inl ⟨_,rfl,(fun _ z=>nomatch z),(fun _ z=>nomatch z),(fun _ z=>nomatch z),(fun _ z=>nomatch z),T.ib⟩⟩
  refine⟨_,rfl,(by show 8≤sizeLine;decide),fun p1 hp1=>⟨e,_,_,false,rfl,AF.new hp1 _ _ oe,T.ij,⟨false,rfl,k _ ((s1.trans s2).trans (AF.new hp1))⟩,.inr ⟨p1,_,_,rfl,AE,S0 [t.dy,t.dz,t.d0,t.d1,t.d2,t.d3,t.d4,t.d5],S1 [t.dy,t.dz,t.d0,t.d1,t.d2,t.d3,t.d4,t.d5],T.ia⟩⟩⟩
theorem Db:AZ ["_law_parts","_law_pen_here","_law_some"] ["_law_parts","_law_pen_here"] (AO CZ):=BC
theorem Fz (T:Txt w K mg t):A1 P w K mg base Bo 6 t.dj t.dk ["_law_parts","_law_pen_here"] (Ly K 3):=by
 have D:=T.ft
 refine D.fn.okX Db ?_ (fun cdv A outer s H vs Q E hr h Z hZ=>?_)
 ·rintro _ _ _ _ ⟨p,q,c,S,rfl,_⟩
  rfl
 ·obtain⟨p,q,c,S,rfl,hpen,hc,P,k⟩:=h
  have hu:=hr.units0
  refine hZ ⟨_,((AG (Af (i:=2) Db.nd rfl (Or.inl rfl) (Ae (Be (Ae AC) (Be (Ae (AB AI (AB AI (AB AI (AB AI (AB AI AC)))))) (BG (An A7 (AV Ai (AK 0) AD (fun _ _=>rfl)) (BA BX (AV Ai (AK 0) AD (fun _ _=>rfl)) BV (BW AD))) (Be (Ae (AB AI AC)) (Be (Ae (AB AI AC)) (Be (Ae (AB AI AC)) (Be (Ae (AB AD AC)) (AB CL (AB AI AC)))))))))))
   (AH (AM (An A7 (Ae (AQ (AV Ai (An A7 (AK 2) (Ae (K5 LH (Be (Ae (AB AI AC)) AC)))) (AR T.d8 (AN T) (BO hr) (AA (AK 1) (AB AD AC))) (fun _ _=>rfl)) AC)) (BA BX (AK 0) (BW AD) BV)))))),?_⟩
  try dsimp only[BB,Au]
  refine Eb ?_
  have pen0:=hpen
  have P0:=P
  refine⟨BJ (by simp),fun a1 h1=>?_⟩
  have s1:=AF.new (o:=.lst ([])) h1
  have d1:=Gy (us:=([])) (ts:=(Ij [])) (p:=p) h1 (pen0.ne h1) (fun _=>Ik (l:=[]) (by nofun)) (by nofun)
  have pen1:=pen0.same s1
  have P1:=P0.same s1
  generalize upd H a1 (.lst ([]))=G1 at *
  refine⟨BJ (by simp),fun a2 h2=>?_⟩
  have s2:=AF.new (o:=.lst ([V.str (Str.ofString "a"),V.str (Str.ofString "b"),V.str (Str.ofString "c"),V.str (Str.ofString "d"),V.str (Str.ofString "e")])) h2
  have d2:=Gy (us:=([V.str (Str.ofString "a"),V.str (Str.ofString "b"),V.str (Str.ofString "c"),V.str (Str.ofString "d"),V.str (Str.ofString "e")])) (ts:=(Ij ["a","b","c","d","e"])) (p:=p) h2 (pen1.ne h2) (fun _=>Ik (l:=["a","b","c","d","e"]) (by nofun)) (by nofun)
  have pen2:=pen1.same s2
  have P2:=P1.same s2
  have d1:=d1.same s2
  generalize upd G1 a2 (.lst ([V.str (Str.ofString "a"),V.str (Str.ofString "b"),V.str (Str.ofString "c"),V.str (Str.ofString "d"),V.str (Str.ofString "e")]))=G2 at *
  obtain⟨zr,ez⟩:=OG P
  obtain⟨z,eZ⟩:∃ z,z=q.zs.headD Str.empty:=⟨_,rfl⟩
  rw[← eZ]at ez
  have mz:z∈q.zs:=by rw[ez];simp
  have z4:=P.zok.2.1
  refine⟨_,rfl,q.l,_,_,_,rfl,rfl,As.of P2.hl,rfl,_,rfl,q.l,_,_,_,rfl,rfl,As.of P2.hl,rfl,_,rfl,q.sl,_,rfl,As.of P2.hsl,fun a3 h3=>?_⟩
  have ecut:Bi (q.zs.map V.str) none (some 1)=[V.str z]:=by rw[ez];simp[Bi,HT.MM]
  rw[ecut]
  have s3:=AF.new (o:=.lst [V.str z]) h3
  have pen3:=pen2.same s3
  have P3:=P2.same s3
  have d1:=d1.same s3
  have d2:=d2.same s3
  have o3:upd G2 a3 (.lst [V.str z]) a3=some (.lst [V.str z]):=AE
  generalize upd G2 a3 (.lst [V.str z])=G3 at *
  refine⟨q.sl,a3,_,_,rfl,rfl,P3.hsl,o3,BJ (by rw[List.length_map,List.length_singleton];omega),fun a4 h4=>?_⟩
  have em:q.zs.map V.str++[V.str z]=(q.zs++[z]).map V.str:=by rw[List.map_append];rfl
  rw[em]
  have s4:=AF.new (o:=.lst ((q.zs++[z]).map V.str)) h4
  have d4:=Gy (us:=(q.zs++[z]).map V.str) (ts:=(q.zs++[z]).map Th.str) (p:=p) h4 (pen3.ne h4) (fun _=>OB fun y hy=>P.zok.2.2.2 y (by rcases List.mem_append.mp hy with w | w;exact w;rw[List.mem_singleton.mp w];exact mz)) (Uy mz)
  have pen4:=pen3.same s4
  have P4:=P3.same s4
  have d1:=d1.same s4
  have d2:=d2.same s4
  generalize upd G3 a4 (.lst ((q.zs++[z]).map V.str))=G4 at *
  refine⟨BJ (by simp),fun a5 h5=>?_⟩
  have s5:=AF.new (o:=.lst ([V.str (Str.ofString "Main")])) h5
  have d5:=Gy (us:=([V.str (Str.ofString "Main")])) (ts:=(Ij ["Main"])) (p:=p) h5 (pen4.ne h5) (fun _=>Ik (l:=["Main"]) (by nofun)) (by nofun)
  have pen5:=pen4.same s5
  have P5:=P4.same s5
  have d1:=d1.same s5
  have d2:=d2.same s5
  have d4:=d4.same s5
  generalize upd G4 a5 (.lst ([V.str (Str.ofString "Main")]))=G5 at *
  refine⟨BJ (by simp),fun a6 h6=>?_⟩
  have s6:=AF.new (o:=.lst ([V.str (Str.ofString "sevenab")])) h6
  have d6:=Gy (us:=([V.str (Str.ofString "sevenab")])) (ts:=(Ij ["sevenab"])) (p:=p) h6 (pen5.ne h6) (fun _=>Ik (l:=["sevenab"]) (by nofun)) (by nofun)
  have pen6:=pen5.same s6
  have P6:=P5.same s6
  have d1:=d1.same s6
  have d2:=d2.same s6
  have d4:=d4.same s6
  have d5:=d5.same s6
  generalize upd G5 a6 (.lst ([V.str (Str.ofString "sevenab")]))=G6 at *
  refine⟨BJ (by simp),fun a7 h7=>?_⟩
  have s7:=AF.new (o:=.lst ([V.str (Str.ofString "")])) h7
  have d7:=Gy (us:=([V.str (Str.ofString "")])) (ts:=(Ij [""])) (p:=p) h7 (pen6.ne h7) (fun _=>Ik (l:=[""]) (by nofun)) (by nofun)
  have pen7:=pen6.same s7
  have P7:=P6.same s7
  have d1:=d1.same s7
  have d2:=d2.same s7
  have d4:=d4.same s7
  have d5:=d5.same s7
  have d6:=d6.same s7
  generalize upd G6 a7 (.lst ([V.str (Str.ofString "")]))=G7 at *
  refine⟨Fh,fun a8 h8=>?_⟩
  have s8:=AF.new (o:=.lst [V.int 7]) h8
  have d8:=Gy (us:=[V.int 7]) (ts:=[.int 7]) (p:=p) h8 (pen7.ne h8) (fun _=>.cons (.int 7) .nil) (by nofun)
  have pen8:=pen7.same s8
  have P8:=P7.same s8
  have d1:=d1.same s8
  have d2:=d2.same s8
  have d4:=d4.same s8
  have d5:=d5.same s8
  have d6:=d6.same s8
  have d7:=d7.same s8
  generalize upd G7 a8 (.lst [V.int 7])=G8 at *
  refine⟨(by show 9≤sizeLine;decide),fun l9 h9=>?_⟩
  have s9:=AF.new (o:=.lst [.ref a1,.ref a2,.ref a4,.ref a5,.ref a6,.ref a7,.ref a8,.non,vS "main"]) h9
  have o9:upd G8 l9 (.lst [.ref a1,.ref a2,.ref a4,.ref a5,.ref a6,.ref a7,.ref a8,.non,vS "main"]) l9=some (.lst [.ref a1,.ref a2,.ref a4,.ref a5,.ref a6,.ref a7,.ref a8,.non,vS "main"]):=AE
  have pen9:=pen8.same s9
  have P9:=P8.same s9
  have d1:=d1.same s9
  have d2:=d2.same s9
  have d4:=d4.same s9
  have d5:=d5.same s9
  have d6:=d6.same s9
  have d7:=d7.same s9
  have d8:=d8.same s9
  have n9:=pen8.ne h9
  have k9:KeepX p H (upd G8 l9 (.lst [.ref a1,.ref a2,.ref a4,.ref a5,.ref a6,.ref a7,.ref a8,.non,vS "main"])):=AF.keep ((((((((s1.trans s2).trans s3).trans s4).trans s5).trans s6).trans s7).trans s8).trans s9)
  generalize upd G8 l9 (.lst [.ref a1,.ref a2,.ref a4,.ref a5,.ref a6,.ref a7,.ref a8,.non,vS "main"])=G9 at *
  refine Gx rfl ?_
  refine HH (HM (HH (HH ⟨_,rfl,?_⟩)))
  intro da hda
  have s10:=AF.new (o:=.dK []) hda
  have d10:JM (upd G9 da (.dK [])) p (.ref da):=⟨none,⟨.dic,.dic AE,rfl⟩,rfl,fun z=>pen9.ne hda (by injection z)⟩
  have pen10:=pen9.same s10
  have P10:=P9.same s10
  have d1:=d1.same s10
  have d2:=d2.same s10
  have d4:=d4.same s10
  have d5:=d5.same s10
  have d6:=d6.same s10
  have d7:=d7.same s10
  have d8:=d8.same s10
  have o9:=s10 _ _ o9
  generalize upd G9 da (.dK [])=G10 at *
  refine⟨BJ (by simp),fun a11 h11=>?_⟩
  have s11:=AF.new (o:=.lst ([V.str (Str.ofString "m1")])) h11
  have d11:=Gy (us:=([V.str (Str.ofString "m1")])) (ts:=(Ij ["m1"])) (p:=p) h11 (pen10.ne h11) (fun _=>Ik (l:=["m1"]) (by nofun)) (by nofun)
  have pen11:=pen10.same s11
  have P11:=P10.same s11
  have d1:=d1.same s11
  have d2:=d2.same s11
  have d4:=d4.same s11
  have d5:=d5.same s11
  have d6:=d6.same s11
  have d7:=d7.same s11
  have d8:=d8.same s11
  have d10:=d10.same s11
  generalize upd G10 a11 (.lst ([V.str (Str.ofString "m1")]))=G11 at *
  have o9:=s11 _ _ o9
  refine⟨BH,fun l12 h12=>?_⟩
  have s12:=AF.new (o:=.lst [.ref da,.ref a11]) h12
  have pen12:=pen11.same s12
  have P12:=P11.same s12
  have d1:=d1.same s12
  have d2:=d2.same s12
  have d4:=d4.same s12
  have d5:=d5.same s12
  have d6:=d6.same s12
  have d7:=d7.same s12
  have d8:=d8.same s12
  have d10:=d10.same s12
  have d11:=d11.same s12
  have o12:upd G11 l12 (.lst [.ref da,.ref a11]) l12=some (.lst [.ref da,.ref a11]):=AE
  have o9:=s12 _ _ o9
  generalize upd G11 l12 (.lst [.ref da,.ref a11])=G12 at *
  obtain⟨us,eus⟩:∃ us:List V,us=[.ref a1,.ref a2,.ref a4,.ref a5,.ref a6,.ref a7,.ref a8,.non,vS "main"]++[.ref da,.ref a11]:=⟨_,rfl⟩
  have all:∀ u∈us,JM G12 p u:=by
   rw[eus]
   intro u hu
   simp only[List.cons_append,List.nil_append,List.mem_cons,List.not_mem_nil,or_false]at hu
   rcases hu with rfl | rfl | rfl | rfl | rfl | rfl | rfl | rfl | rfl | rfl | rfl
   ·exact d1
   ·exact d2
   ·exact d4
   ·exact d5
   ·exact d6
   ·exact d7
   ·exact d8
   ·exact⟨none,⟨.non,.non,rfl⟩,rfl,fun z=>nomatch z⟩
   ·exact⟨none,⟨.str _,sL "main",rfl⟩,rfl,fun z=>nomatch z⟩
   ·exact d10
   ·exact d11
  have lus:us.length=11:=by rw[eus];rfl
  refine⟨l9,l12,_,_,rfl,rfl,o9,o12,BJ (by simp),fun l13 h13=>?_⟩
  rw[← eus]
  have s13:=AF.new (o:=.lst us) h13
  have pen13:=pen12.same s13
  have o13:upd G12 l13 (.lst us) l13=some (.lst us):=AE
  have n13:=pen12.ne h13
  have k13:KeepX p H (upd G12 l13 (.lst us)):=k9.trans (AF.keep (((s10.trans s11).trans s12).trans s13))
  have all:∀ u∈us,JM (upd G12 l13 (.lst us)) p u:=fun u hu=>(all u hu).same s13
  generalize upd G12 l13 (.lst us)=G13 at *
  clear d1 d2 d4 d5 d6 d7 d8 d10 d11 eus
  refine⟨_,rfl,p,_,_,_,rfl,(by show(0:Int)<_;decide),Ag (by decide) (by decide),pen13,(by omega),fun r14 H14 a14 b14 pen14 kp14=>?_⟩
  obtain⟨j,rfl⟩:∃ j:Nat,r14=(j:Int):=⟨r14.toNat,by omega⟩
  have hj:j<us.length:=by omega
  refine⟨l13,us,_,us[j],rfl,rfl,As.of (kp14 _ _ n13 o13),BK (List.getElem?_eq_getElem hj),fun l15 h15=>?_⟩
  obtain⟨r,rv,rb,_⟩:=(all _ (List.getElem_mem hj)).kx pen13 pen14 kp14
  have s15:=AF.new (o:=.lst [us[j]]) h15
  have k15:KeepX p H _:=k13.trans (kp14.trans (AF.keep s15))
  have P15:=P.kx k15 (hpen.kp k15)
  refine⟨_,rfl,_,rfl,q.l,_,rfl,As.of P15.hl,fun l16 h16=>?_⟩
  have s16:=AF.new (o:=.lst (Bi (Fs.P5 q) (some 1) none)) h16
  refine⟨l15,l16,_,[.ref q.lc,.ref q.ln,.ref q.lo,.int q.r],rfl,rfl,s16 _ _ AE,AE,BJ (by simp),fun l17 h17=>?_⟩
  have sF:=s16.trans (AF.new (o:=.lst ([us[j]]++[.ref q.lc,.ref q.ln,.ref q.lo,.int q.r])) h17)
  exact k l17 _ (YA (P15.same sF) AE (rv.same (s15.trans sF)) rb) ((pen14.same (s15.trans sF)).mono (by omega)) (k15.trans (AF.keep sF))
theorem Ar:AZ ["_law_parts","_law_pen_here","_law_one","_law_sheet","_law_own","_law_deep","_law_some","_law_here","_law_odd_here","_law_way","_law_rows"] ["_law_parts","_law_pen_here"] (AO Ce):=BC
theorem GX (T:Txt w K mg t):A1 P w K mg base Bo 6 t.dl t.dm ["_law_parts","_law_pen_here"] (Ly K 3):=by
 have D:=T.fu
 refine D.fn.okX Ar ?_ (fun cdv A outer s H vs Q E hr h Z hZ=>?_)
 ·rintro _ _ _ _ ⟨p,q,c,S,rfl,_⟩
  rfl
 ·obtain⟨p,q,c,S,rfl,hpen,hc,P,k⟩:=h
  have hu:=hr.units0
  refine hZ ⟨_,((AG (Af (i:=2) Ar.nd rfl (Or.inr rfl) (AL (AB AI (AB AD (AB AD AC)))))
   (AG (Af (i:=3) Ar.nd rfl (Or.inr rfl) (AV Ai (AV Ai (AK 0) AD (fun _ _=>rfl)) AD (fun _ _=>rfl)))
   (AG (Af (i:=4) Ar.nd rfl (Or.inl rfl) (AL (AB AI (AJ (AL (AB AI (AB AD AC))) AC))))
   (AG (Af (i:=5) Ar.nd rfl (Or.inl rfl) (AL (AB AI (AJ (AL (AB AI (AJ (AL (AB AI (AJ (AL (AB AI (AJ (AL (AB AI (AJ (AL (AB AI (AJ (AL (AB AI (AJ (AL (AB AI (AJ (AL (AB AI (AJ (AL (AB AI AC)) AC))) AC))) AC))) AC))) AC))) AC))) AC))) AC))) AC))))
   (AG (Af (i:=6) Ar.nd rfl (Or.inl rfl) (Ae (AJ (AL (AJ (AL (AA (AK 3) (AB AD (AB AD AC)))) (AA (AK 2) AC))) (AJ (AL (AJ (AL (AA (AK 3) (AB AD (AB AD AC)))) (AA (AK 2) AC))) (AJ (AL (AJ (AL (AA (AK 3) (AB AD (AB AD AC)))) (AA (AK 2) AC))) (AJ (AL (AJ (AL (AB AI (AB AD (AB AD AC)))) (AA (AK 2) AC))) (AJ (AL (AA (AK 3) (AA (AK 2) AC))) AC)))))))
   (AG (Af (i:=6) Ar.nd rfl (Or.inl rfl) (An A7 (AK 6) (Ae (AJ (AL (AJ (AL (AA (AK 3) (AB BF (AB AD AC)))) (AA (AK 2) AC))) (AJ (AL (Be (Ae (AA (AK 3) (AB AD (AB AD AC)))) (AA (AK 2) AC))) (AJ (AL (AJ (AL (AA (AK 3) (AB AD (AB AD AC)))) (AB CL AC))) (AJ (AL (AJ (AL (AA (AK 3) (AB AD (AB AD AC)))) (AJ (AL (AB AI AC)) AC))) AC)))))))
   (AG (Af (i:=7) Ar.nd rfl (Or.inl rfl) (AL (AA (AK 3) (AB AD (AB AD AC)))))
   (AG (Af (i:=6) Ar.nd rfl (Or.inl rfl) (An A7 (AK 6) (Ae (AJ (AL (AA (AK 7) (AJ (AL (AB AI (AB AI (AJ (AL (AA (AK 3) (AB AD (AB AD AC)))) AC)))) AC))) (AJ (AL (AA (AK 7) (AJ (AL (AB AI (AB AD (AB AD AC)))) AC))) (Be (Ae (AA (AK 7) (AA (AK 2) AC))) AC))))))
   (AG (Af (i:=6) Ar.nd rfl (Or.inl rfl) (An A7 (AK 6) (Ae (AJ (AL (AA (AK 7) (AJ (AL (AB AI (AB AI AC))) AC))) (AJ (AL (AA (AK 7) (AA (AK 4) AC))) (AJ (AL (AA (AK 7) (AJ (AL (AB AI (AB CL AC))) AC))) (AB AD (AJ (AL (AA (AK 7) (AA (AK 5) AC))) (AJ (AL (AA (AK 7) AC)) AC)))))))))
   (AG (Af (i:=6) Ar.nd rfl (Or.inl rfl) (An A7 (AK 6) (Ae (AJ (AL (AA (AK 7) (AJ (AL (AB AI AC)) AC))) (AJ (AL (AA (AK 7) (AJ (AL (AB AI (AJ (AL (AB AI AC)) AC))) AC))) (AJ (AL (AA (AK 7) (AJ (AL (AB AI (AB AD (BG (An Tf AD AD) AC)))) AC))) AC))))))
   (AG (Af (i:=8) Ar.nd rfl (Or.inl rfl) (AV Ai (AK 6) (AR T.d8 (AN T) (BO hr) (AA (AK 1) (AB AD AC))) (fun _ _=>rfl)))
   (AG (Af (i:=9) Ar.nd rfl (Or.inl rfl) (AR T.d8 (AN T) (BO hr) (AA (AK 1) (AB AD AC))))
   (AG (Ah (MO (AX Aq (AK 9) AD (AS _)) (Jx (AX (T1 hu) (AV Ai (AK 0) AD (fun _ _=>rfl)) (Ae AC) (AS _)))).pt (AH (AM (An A7 (Ae (AQ (AV Ai (AK 0) AD (fun _ _=>rfl)) (BG (An A7 (AV Ai (AK 0) AD (fun _ _=>rfl)) (BA BX (AV Ai (AK 0) AD (fun _ _=>rfl)) BV (BW AD))) AC))) (BA BX (AK 0) (BW AD) BV)))) AT)
   (AG (Ah (AX Aq (AK 9) AD (AS _)) (AG (KA (i:=10) Ar.nd rfl rfl (fv:=["_law_one","_law_sheet"]) (js:=[2,3]) (cl:=[("_law_sheet",s.heap.objs.size+2),("_law_one",s.heap.objs.size+1)]) rfl (by with_unfolding_all rfl) ⟨rfl,by nofun,by nofun,rfl,by nofun,by nofun,(List.forall_mem_cons.mpr ⟨⟨rfl,rfl,rfl⟩,(List.forall_mem_cons.mpr ⟨⟨rfl,rfl,rfl⟩,(List.forall_mem_nil _)⟩)⟩),(List.forall_mem_cons.mpr ⟨rfl,(List.forall_mem_cons.mpr ⟨rfl,(List.forall_mem_nil _)⟩)⟩),(.cons rfl (.cons rfl .nil))⟩ (Dm rfl T.f0 (AB AD AC)) (fun _ _ _ _ _=>CO) (fun _ _ _ _ _=>(AL (AJ (AL (AA (AK 2) (BG (An Bv AD (An F1 (AK 0) AD)) (BG (An Bv AD (An Cl (AK 0) AD)) AC)))) (AA (AK 1) AC)))))
   (AH (AM (An A7 (Ae (AQ (AV Ai (AK 0) AD (fun _ _=>rfl)) (AA (AK 10) AC))) (BA BX (AK 0) (BW AD) BV))))) AT)
   (AH (AM (An A7 (Ae (AQ (AV Ai (AK 0) AD (fun _ _=>rfl)) (BG (An A7 (AV Ai (AK 0) AD (fun _ _=>rfl)) (Ae (AA (AK 8) AC))) AC))) (BA BX (AK 0) (BW AD) BV))))))))))))))))))),?_⟩
  try dsimp only[BB,Au]
  obtain⟨zr,ez⟩:=OG P
  obtain⟨z,eZ⟩:∃ z,z=q.zs.headD Str.empty:=⟨_,rfl⟩
  rw[← eZ]at ez
  have hz:z.length≤1000:=Nat.le_trans (P.zok.2.2.2 z (by rw[ez];simp)).hi (by decide)
  refine Eb (W6 (vs:=[]) (ρ:=Dv z) (ds:=[.s "number",.i 1,.i 1]) Si (by nofun) (by decide) fun v2 G2 r2 s2=>?_)
  refine Gx rfl ?_
  have P2:=P.same s2
  refine Eb (HH ⟨_,rfl,q.l,_,_,_,rfl,rfl,As.of P2.hl,rfl,q.sl,_,_,_,rfl,rfl,As.of P2.hsl,(by rw[ez];exact A2),?_⟩)
  refine Gx rfl ?_
  have r3:Al G2 (.str z) (Dv z 3):=.str z hz
  refine Eb (W6 (vs:=[]) (ρ:=Dv z) (ds:=[.s "formula",.t [.s "param",.i 0]]) Si (by nofun) (by decide) fun v4 G4 r4 s4=>?_)
  refine Gx rfl ?_
  refine Eb (W6 (vs:=[]) (ρ:=fun _=>.non) (ds:=[.s "formula",.t [.s "neg",.t [.s "neg",.t [.s "neg",.t [.s "neg",.t [.s "neg",.t [.s "neg",.t [.s "neg",.t [.s "neg",.t [.s "gone"]]]]]]]]]]) Si (by nofun) (by decide) fun v5 G5 r5 s5=>?_)
  refine Gx rfl ?_
  have r2:Al G5 v2 (Dv z 2):=(r2.same s4).same s5
  have r3:Al G5 (.str z) (Dv z 3):=.str z hz
  have r4:Al G5 v4 (Dv z 4):=r4.same s5
  have r5:Al G5 v5 (Dv z 5):=r5
  have s05:=(s2.trans s4).trans s5
  refine Eb (NC (vs:=[2,3,4,5]) (ρ:=Dv z) (ds:=[.t [.t [.v 3,.i 0,.i 1],.v 2],.t [.t [.v 3,.i 17,.i 1],.v 2],.t [.t [.v 3,.i 1,.i 9],.v 2],.t [.t [.s "lost",.i 1,.i 1],.v 2],.t [.v 3,.v 2]]) (Gm (k:=2) rfl r2 (Gm (k:=3) rfl r3 (Gm (k:=4) rfl r4 (Gm (k:=5) rfl r5 Si)))) (by nofun) (by decide) fun l6 G6 L6 h6 s6=>?_)
  refine Gx rfl ?_
  have s06:=s05.trans s6
  have r2:=r2.same s6
  have r3:=r3.same s6
  have r4:=r4.same s6
  have r5:=r5.same s6
  refine Eb (HH ⟨_,rfl,NC (vs:=[2,3,4,5]) (ρ:=Dv z) (ds:=[.t [.t [.v 3,.b true,.i 1],.v 2],.t [.l [.v 3,.i 9,.i 5],.v 2],.t [.t [.v 3,.i 9,.i 5],.n],.t [.t [.v 3,.i 9,.i 5],.t [.s "none"]]]) (Gm (k:=2) rfl r2 (Gm (k:=3) rfl r3 (Gm (k:=4) rfl r4 (Gm (k:=5) rfl r5 Si)))) (by nofun) (by decide) fun l7 G7 L7 h7 s7=>?_⟩)
  refine L9 (L6.same s7) L7 (by rw[Av,Av];decide) fun l8 G8 L8 s8 h8=>?_
  refine Gx rfl ?_
  have s78:=s7.trans s8
  have s08:=s06.trans s78
  have r2:=r2.same s78
  have r3:=r3.same s78
  have r4:=r4.same s78
  have r5:=r5.same s78
  refine Eb (W6 (vs:=[2,3,4,5]) (ρ:=Dv z) (ds:=[.v 3,.i 9,.i 5]) (Gm (k:=2) rfl r2 (Gm (k:=3) rfl r3 (Gm (k:=4) rfl r4 (Gm (k:=5) rfl r5 Si)))) (by nofun) (by decide) fun v7 G9 r7 s9=>?_)
  refine Gx rfl ?_
  have r7:Al G9 v7 (Dv z 7):=r7
  have s09:=s08.trans s9
  have r2:=r2.same s9
  have r3:=r3.same s9
  have r4:=r4.same s9
  have r5:=r5.same s9
  refine Eb (HH ⟨_,rfl,NC (vs:=[2,3,4,5,7]) (ρ:=Dv z) (ds:=[.t [.v 7,.t [.s "fault",.s "kind",.t [.v 3,.i 1,.i 1]]],.t [.v 7,.t [.s "number",.i 2,.i 4]],.l [.v 7,.v 2]]) (Gm (k:=2) rfl r2 (Gm (k:=3) rfl r3 (Gm (k:=4) rfl r4 (Gm (k:=5) rfl r5 (Gm (k:=7) rfl r7 Si))))) (by nofun) (by decide) fun lA GA LA hA sA=>?_⟩)
  refine L9 ((L8.same s9).same sA) LA (by rw[List.length_append,Av,Av,Av];decide) fun lB GB LB sB hB=>?_
  refine Gx rfl ?_
  have sAB:=sA.trans sB
  have s0B:=s09.trans sAB
  have r2:=r2.same sAB
  have r3:=r3.same sAB
  have r4:=r4.same sAB
  have r5:=r5.same sAB
  have r7:=r7.same sAB
  refine Eb (HH ⟨_,rfl,NC (vs:=[2,3,4,5,7]) (ρ:=Dv z) (ds:=[.t [.v 7,.t [.s "text",.s "Up"]],.t [.v 7,.v 4],.t [.v 7,.t [.s "formula",.n]],.i 7,.t [.v 7,.v 5],.t [.v 7]]) (Gm (k:=2) rfl r2 (Gm (k:=3) rfl r3 (Gm (k:=4) rfl r4 (Gm (k:=5) rfl r5 (Gm (k:=7) rfl r7 Si))))) (by nofun) (by decide) fun lC GC LC hC' sC=>?_⟩)
  refine L9 (LB.same sC) LC (by rw[List.length_append,List.length_append,Av,Av,Av,Av];decide) fun lD GD LD sD hD=>?_
  refine Gx rfl ?_
  have sCD:=sC.trans sD
  have s0D:=s0B.trans sCD
  have r2:=r2.same sCD
  have r3:=r3.same sCD
  have r4:=r4.same sCD
  have r5:=r5.same sCD
  have r7:=r7.same sCD
  refine Eb (HH ⟨_,rfl,NC (vs:=[2,3,4,5,7]) (ρ:=Dv z) (ds:=[.t [.v 7,.t [.s "formula"]],.t [.v 7,.t [.s "formula",.t [.s "sum"]]],.t [.v 7,.t [.s "number",.i 1,.w]]]) (Gm (k:=2) rfl r2 (Gm (k:=3) rfl r3 (Gm (k:=4) rfl r4 (Gm (k:=5) rfl r5 (Gm (k:=7) rfl r7 Si))))) (by nofun) (by decide) fun lE GE LE hE sE=>?_⟩)
  refine L9 (LD.same sE) LE (by rw[List.length_append,List.length_append,List.length_append,Av,Av,Av,Av,Av];decide) fun lF GF LF sF hF=>?_
  refine Gx rfl ?_
  have s0E:=s0D.trans sE
  have s0F:=s0E.trans sF
  have r2:=(r2.same sE).same sF
  have LF:OF GF lF (Wq z):=LF
  have bad:∀ t∈Wq z,Kl q.zs t=false:=fun t ht=>by
   have:=Sj q.zs P.zss
   rw[← eZ,List.all_eq_true]at this
   simpa using this t ht
  have penF:=hpen.same s0F
  have PF:=P.same s0F
  have nlF:lF≠p:=(hpen.same s0E).ne hF
  have kF:KeepX p H GF:=AF.keep s0F
  clear LA LB LC LD LE L6 L7 L8 s2 s4 s5 s05 s6 s06 s7 s8 s78 s08 s9 s09 sA sB sAB s0B sC sD sCD s0D sE sF s0E s0F r3 r4 r5 r7 h6 h7 h8 hA hB hC' hD hE hF P2
  refine Eb (HH ⟨_,rfl,_,rfl,p,_,_,_,rfl,(by show(0:Int)<_;decide),Ag (by decide) (by decide),penF,(by omega),fun r8 H8 a8 b8 pen8 kp8=>?_⟩)
  have L1:=LF.kx nlF penF pen8 kp8
  obtain⟨us,v8,t8,ol,ev,mt,hv⟩:=Lz L1 a8 (by rw[Sk];exact b8)
  refine⟨lF,_,_,_,rfl,rfl,As.of ol,ev,?_⟩
  refine Gx rfl ?_
  refine⟨_,rfl,p,_,_,_,rfl,(by show(0:Int)<_;decide),Ag (by decide) (by decide),pen8,(by omega),fun r9 H9 a9 b9 pen9 kp9=>Gx rfl ?_⟩
  have kp12:=kp8.trans kp9
  have k2:KeepX p H H9:=kF.trans kp12
  have P2:=P.kx k2 (hpen.kp k2)
  have hv:=hv.pn pen8 pen9 kp9
  have r2:=r2.pn penF pen9 kp12
  clear PF L1 LF penF pen8 kp8 kp9 kp12 kF ol ev
  dsimp only
  refine Hl (fun σ' H'=>σ'=[some (.ref q.l),some (.ref p),some v2,some (.str z),some v4,some v5,some (.ref lF),some v7,some v8,some (.int r9),none]∧Gk H' p q∧BD K S H' p (c+2)∧KeepX p H H'∧Al H' v8 t8∧Al H' v2 (Dv z 2)) (fun N hN=>?_) ?_
  ·refine⟨_,rfl,rfl,_,rfl,Bn (fun _=>?_) (fun _=>AY (hN _ _ ⟨rfl,P2,pen9.mono (by omega),k2,hv,r2⟩))⟩
   refine⟨_,rfl,q.l,_,_,_,rfl,rfl,As.of P2.hl,rfl,Nat.zero_le _,fun e he=>⟨q.lc,e,q.xs,rfl,rfl,As.of (AF.new he _ _ P2.hlc),As.of AE,_,rfl,?_⟩⟩
   have se:=AF.new (o:=.lst []) he
   have P3:=P2.same se
   have pen3:=pen9.same se
   have k3:KeepX p H _:=k2.trans (AF.keep se)
   have hv3:=hv.same se
   have r23:=r2.same se
   generalize upd H9 e (.lst [])=G at *
   cases hx:q.xs with
   | nil=>exact AY (hN _ _ ⟨rfl,P3,pen3.mono (by omega),k3,hv3,r23⟩)
   | cons x xr=>
   refine AU ?_
   obtain⟨p0,cr,ec⟩:∃ p0 cr,q.cs=p0::cr:=by
    have:=P3.pc
    rw[hx]at this
    cases h:q.cs with
    | nil=>rw[h]at this;cases this
    | cons a b=>exact⟨a,b,rfl⟩
   refine⟨_,rfl,q.l,_,_,_,rfl,rfl,As.of P3.hl,rfl,_,rfl,q.l,_,_,_,rfl,rfl,As.of P3.hl,rfl,_,rfl,q.l,_,_,_,rfl,rfl,As.of P3.hl,rfl,_,rfl,q.lc,_,rfl,As.of P3.hlc,fun l4 h4=>?_⟩
   have s4:=AF.new (o:=.lst (Bi q.xs none (some 1))) h4
   have e1:Bi q.xs none (some 1)=[x]:=by rw[hx];rfl
   have P4:=P3.same s4
   have lx:q.xs.length≤12:=by rw[Paired.length P4.pc];exact P4.c8
   rw[e1]at s4 P4 ⊢
   refine⟨q.lc,l4,_,_,rfl,rfl,P4.hlc,AE,BJ (by rw[List.length_singleton];omega),fun l5 h5=>⟨BH,fun l6 h6=>?_⟩⟩
   have s5:=AF.new (o:=.lst (q.xs++[x])) h5
   have s45:=s4.trans s5
   have P5':=P3.same s45
   have pen5:=pen3.same s45
   have k5:KeepX p H _:=k3.trans (AF.keep s45)
   have rw5:BU (upd (upd G l4 (.lst [x])) l5 (.lst (q.xs++[x]))) (.ref l5) (some (q.cs.map JL++[JL p0])):=by
    obtain⟨a',us',ea,eb,ec'⟩:=P5'.rw1
    cases ea
    rw[P5'.hlc]at eb
    cases eb
    obtain⟨t0,ht0,h0⟩:=BQ ec' (show q.xs[0]?=some x by rw[hx];rfl)
    rw[ec]at ht0
    cases ht0
    exact⟨l5,_,rfl,AE,FM ec' (.cons h0 .nil)⟩
   have badr:O8 q.zs (some (q.cs.map JL++[JL p0]))=false:=Ux (by rw[ec];simp)
   generalize upd (upd G l4 (.lst [x])) l5 (.lst (q.xs++[x]))=G5 at *
   have s6:=AF.new (o:=.lst [V.ref q.sl,.ref l5]) h6
   have P7:=P5'.same s6
   refine⟨_,rfl,_,rfl,q.l,_,rfl,As.of P7.hl,fun l9 h9=>?_⟩
   have s9:=AF.new (o:=.lst (Bi (P5 q) (some 2) none)) h9
   refine⟨l6,l9,_,[.ref q.ln,.ref q.lo,.int q.r],rfl,rfl,s9 _ _ AE,AE,BJ (by simp),fun l10 h10=>?_⟩
   have sF:=(s6.trans s9).trans (AF.new (o:=.lst ([V.ref q.sl,.ref l5]++[.ref q.ln,.ref q.lo,.int q.r])) h10)
   exact k l10 _ (Sf (P5'.same sF) AE (rw5.same sF) badr) ((pen5.same sF).mono (by omega)) (k5.trans (AF.keep sF))
  rintro σ H' ⟨rfl,P3,pen3,k3,hv,r2⟩
  refine⟨_,rfl,rfl,_,rfl,Bn (fun _=>?_) (fun _=>?_)⟩
  ·refine⟨61,rfl,(by decide),(by decide),fun D hD=>?_⟩
   refine⟨fun i m H4=>m=61-i∧i≤61∧∃ us ts,H4 D=some (.lst us)∧us.length=i∧Paired (Al H4) us ts∧AF H' H4,⟨61,rfl,Nat.zero_le _,[],[],AE,rfl,.nil,AF.new hD⟩,?_⟩
   rintro i m H4 ⟨rfl,hi,us1,ts1,oD,lu,pv,s4⟩
   by_cases hlt:i<61
   ·refine .inr ⟨hlt,fun x H'' y=>?_⟩
    obtain⟨e,ex⟩:=y
    subst e ex
    have gx:=r2.same s4
    refine⟨_,rfl,_,rfl,_,_,rfl,rfl,⟨by decide,by decide⟩,_,_,rfl,rfl,_,rfl,_,_,rfl,rfl,(by show(0:Int)<8;decide),_,_,rfl,rfl,BE,fun t1 h1=>⟨_,rfl,BH,fun t2 h2=>?_⟩⟩
    have w1:=AF.new (o:=.tup [.str z,.int (1+(0+(i:Int)) / 8),.int (1+(0+(i:Int))%8)]) h1
    have w2:=AF.new (o:=.tup [.ref t1,v2]) h2
    have ww:=w1.trans w2
    have o1:=w2 _ _ (AE (H:=H'') (a:=t1) (o:=.tup [.str z,.int (1+(0+(i:Int)) / 8),.int (1+(0+(i:Int))%8)]))
    have tt:=Al.ofP (AE (H:=upd H'' t1 (.tup [.str z,.int (1+(0+(i:Int)) / 8),.int (1+(0+(i:Int))%8)])) (a:=t2) (o:=.tup [.ref t1,v2])) (.cons (.ofP o1 (.cons (.str z hz) (.cons (.int _) (.cons (.int _) .nil)))) (.cons (gx.same ww) .nil))
    have oD3:=ww _ _ oD
    have pv3:=EI pv ww
    generalize upd (upd H'' t1 (.tup [.str z,.int (1+(0+(i:Int)) / 8),.int (1+(0+(i:Int))%8)])) t2 (.tup [.ref t1,v2])=H5 at *
    refine⟨us1,oD3,DX (by omega),61-(i+1),(by omega),rfl,hlt,us1++[.ref t2],ts1++[_],AE,by rw[List.length_append,lu];rfl,FM (JJ pv3 oD3) (.cons (tt.updL oD3) .nil),fun b o e=>?_⟩
    rw[Ab (Am e hD)];exact ww _ _ (s4 _ _ e)
   obtain rfl:i=61:=by omega
   refine .inl ⟨Nat.le_refl _,?_⟩
   refine Gx rfl ?_
   have lt9:ts1.length=61:=by rw[← lu];exact(Paired.length pv).symm
   have P4:=P3.same s4
   refine⟨_,rfl,q.l,_,_,_,rfl,rfl,As.of P4.hl,rfl,_,rfl,BH,fun l6 h6=>?_⟩
   have pen4:=pen3.same s4
   have k4:KeepX p H H4:=k3.trans (AF.keep s4)
   have rw5:BU H4 (.ref D) (some ts1):=⟨D,us1,rfl,oD,pv⟩
   have badr:O8 q.zs (some ts1)=false:=Uw (by rw[lt9];decide)
   have s6:=AF.new (o:=.lst [V.ref q.sl,.ref D]) h6
   have P7:=P4.same s6
   refine⟨_,rfl,_,rfl,q.l,_,rfl,As.of P7.hl,fun l9 h9=>?_⟩
   have s9:=AF.new (o:=.lst (Bi (P5 q) (some 2) none)) h9
   refine⟨l6,l9,_,[.ref q.ln,.ref q.lo,.int q.r],rfl,rfl,s9 _ _ AE,AE,BJ (by simp),fun l10 h10=>?_⟩
   have sF:=(s6.trans s9).trans (AF.new (o:=.lst ([V.ref q.sl,.ref D]++[.ref q.ln,.ref q.lo,.int q.r])) h10)
   exact k l10 _ (Sf (P4.same sF) AE (rw5.same sF) badr) ((pen4.same sF).mono (by omega)) (k4.trans (AF.keep sF))
  ·refine⟨_,rfl,q.l,_,_,_,rfl,rfl,As.of P3.hl,rfl,_,rfl,q.l,_,_,_,rfl,rfl,As.of P3.hl,rfl,?_⟩
   refine HM ⟨_,rfl,fun l4 h4=>?_⟩
   have s4:=AF.new (o:=.lst [v8]) h4
   have P4:=P3.same s4
   have lx:q.xs.length≤12:=by rw[Paired.length P4.pc];exact P4.c8
   refine⟨q.lc,l4,_,_,rfl,rfl,P4.hlc,AE,BJ (by rw[List.length_singleton];omega),fun l5 h5=>⟨BH,fun l6 h6=>?_⟩⟩
   have s5:=AF.new (o:=.lst (q.xs++[v8])) h5
   have s45:=s4.trans s5
   have P5':=P3.same s45
   have pen5:=pen3.same s45
   have k5:KeepX p H _:=k3.trans (AF.keep s45)
   have rw5:BU (upd (upd H' l4 (.lst [v8])) l5 (.lst (q.xs++[v8]))) (.ref l5) (some (q.cs.map JL++[t8])):=by
    obtain⟨a',us',ea,eb,ec⟩:=P5'.rw1
    cases ea
    rw[P5'.hlc]at eb
    cases eb
    exact⟨l5,_,rfl,AE,FM ec (.cons (hv.same s45) .nil)⟩
   have badr:O8 q.zs (some (q.cs.map JL++[t8]))=false:=Wo (bad t8 mt)
   generalize upd (upd H' l4 (.lst [v8])) l5 (.lst (q.xs++[v8]))=G5 at *
   have s6:=AF.new (o:=.lst [V.ref q.sl,.ref l5]) h6
   have P7:=P5'.same s6
   refine⟨_,rfl,_,rfl,q.l,_,rfl,As.of P7.hl,fun l9 h9=>?_⟩
   have s9:=AF.new (o:=.lst (Bi (P5 q) (some 2) none)) h9
   refine⟨l6,l9,_,[.ref q.ln,.ref q.lo,.int q.r],rfl,rfl,s9 _ _ AE,AE,BJ (by simp),fun l10 h10=>?_⟩
   have sF:=(s6.trans s9).trans (AF.new (o:=.lst ([V.ref q.sl,.ref l5]++[.ref q.ln,.ref q.lo,.int q.r])) h10)
   exact k l10 _ (Sf (P5'.same sF) AE (rw5.same sF) badr) ((pen5.same sF).mono (by omega)) (k5.trans (AF.keep sF))
theorem BS:AZ ["_law_parts","_law_pen_here","_law_gone","_law_untold","_law_some","_law_way"] ["_law_parts","_law_pen_here"] (AO Cf):=BC
theorem GY (T:Txt w K mg t):A1 P w K mg base Bo 6 t.dn t.dp ["_law_parts","_law_pen_here"] (Ly K 3):=by
 have D:=T.fv
 refine D.fn.okX BS ?_ (fun cdv A outer s H vs Q E hr h Z hZ=>?_)
 ·rintro _ _ _ _ ⟨p,q,c,S,rfl,_⟩
  rfl
 ·obtain⟨p,q,c,S,rfl,hpen,hc,P,k⟩:=h
  refine hZ ⟨_,((AG (Af (i:=2) BS.nd rfl (Or.inr rfl) (AL (AB AI AC)))
   (AG (Af (i:=3) BS.nd rfl (Or.inl rfl) (AL (AB AI (AB CL (AJ (AL (AB AD (AB AD (AB BF (AB BF AC))))) AC)))))
   (AG (Af (i:=4) BS.nd rfl (Or.inl rfl) (Ae (AJ (AL (AB AI (AA (AK 2) AC))) (AJ (AL (AB AI (AA (AK 2) AC))) (AJ (AL (AB AI (AA (AK 2) AC))) (AJ (AL (AB AI (AA (AK 2) AC))) (AJ (AL (AB AI (AA (AK 3) AC))) (AJ (AL (AB AI (AJ (AL (AB AI (AA (AK 3) AC))) AC))) AC))))))))
   (AG (Af (i:=4) BS.nd rfl (Or.inl rfl) (An A7 (AK 4) (Ae (AJ (AL (AB AI (AJ (AL (AB AI (AB CL (AJ (AL (AB AD (AB BF AC))) (AJ (AL (AB AD (AB BF AC))) AC))))) AC))) (AJ (AL (AB AI (AJ (AL (AB AI (AB AD AC))) AC))) (Be (Ae (AB AI (AA (AK 2) AC))) AC))))))
   (AG (Af (i:=4) BS.nd rfl (Or.inl rfl) (An A7 (AK 4) (Ae (AJ (AL (AB AI AC)) (AJ (AL (AB AD (AA (AK 2) AC))) (AJ (AL (AB AI (AB CL AC))) AC))))))
   (AG (Af (i:=5) BS.nd rfl (Or.inl rfl) (AR T.d8 (AN T) (BO hr) (AA (AK 1) (AB AD AC))))
   (AG (Ah (AX Aq (AK 5) AD (AS _)) (AH (AM (An A7 (An A7 (BA BX (AK 0) BV (BW AD)) (Ae (B6 (Br (fv:=["_law_gone"]) (js:=[2]) (cl:=[("_law_gone",s.heap.objs.size+1)]) rfl (by with_unfolding_all rfl) ⟨rfl,by nofun,by nofun,rfl,by nofun,by nofun,(List.forall_mem_cons.mpr ⟨⟨rfl,rfl,rfl⟩,(List.forall_mem_nil _)⟩),(List.forall_mem_cons.mpr ⟨rfl,(List.forall_mem_nil _)⟩),(.cons rfl .nil)⟩ (Dm rfl T.f0 (AB AD AC)) (fun _ _ _ _ _=>CO) (fun _ _ _ _ _=>(AL (BG (An Hx AI (AV J4 AI (AK 0) (fun _ _=>rfl))) (AA (AK 1) AC))))) AC))) (BA BX (AK 0) (BW AD) BV)))) AT)
   (AG (Ah (AX Aq (AK 5) AD (AS _)) (AH (AM (An A7 (An A7 (BA BX (AK 0) BV (BW AD)) (Ae (Be (Ae (AJ (AL (AB AI (AA (AK 2) AC))) (AJ (AL (AB AI (AA (AK 2) AC))) AC))) AC))) (BA BX (AK 0) (BW AD) BV)))) AT)
   (AH (AM (An A7 (An A7 (BA BX (AK 0) BV (BW AD)) (Ae (BG (An A7 (AV Ai (AK 0) AD (fun _ _=>rfl)) (Ae (AQ (AV Ai (AK 4) (AR T.d8 (AN T) (BO hr) (AA (AK 1) (AB AD AC))) (fun _ _=>rfl)) AC))) AC))) (BA BX (AK 0) (BW AD) BV))))))))))))),?_⟩
  try dsimp only[BB,Au]
  refine Sd (vs:=[]) (ρ:=fun _=>.non) (d:=.t [.s "gone"]) (fun _ h=>nomatch h) (by nofun) fun v2 G2 t2 s2=>Gx rfl ?_
  dsimp only
  refine Sd (vs:=[]) (ρ:=fun _=>.non) (d:=.t [.s "cell",.n,.t [.i 1,.i 1,.b false,.b false]]) (fun _ h=>nomatch h) (by nofun) fun v3 G3 t3 s3=>Gx rfl ?_
  dsimp only
  obtain⟨ρ,eρ⟩:∃ ρ:Nat→Th,ρ=fun k=>if k=2 then Km (fun _=>.non) (.t [.s "gone"])else Km (fun _=>.non) (.t [.s "cell",.n,.t [.i 1,.i 1,.b false,.b false]]):=⟨_,rfl⟩
  have r2:Al G3 v2 (ρ 2):=by rw[eρ];exact t2.same s3
  have r3:Al G3 v3 (ρ 3):=by rw[eρ];exact t3
  have s03:=s2.trans s3
  refine Eb (NC (vs:=[2,3]) (ρ:=ρ) (ds:=[.t [.s "sum",.v 2],.t [.s "sevenab",.v 2],.t [.s "",.v 2],.t [.s "A",.v 2],.t [.s "q",.v 3],.t [.s "q",.t [.s "sum",.v 3]]]) (fun k hk=>?_) (by nofun) (by decide) fun l4 G4 L4 h4 s4=>?_)
  ·rcases List.mem_cons.mp hk with rfl | hk
   ·exact⟨v2,rfl,r2⟩
   ·rw[List.mem_singleton.mp hk];exact⟨v3,rfl,r3⟩
  refine Gx rfl ?_
  have s04:=s03.trans s4
  refine Eb (HH ⟨_,rfl,NC (vs:=[2,3]) (ρ:=ρ) (ds:=[.t [.s "q",.t [.s "columns",.n,.t [.i 1,.b true],.t [.i 1,.b true]]],.t [.s "q",.t [.s "param",.i 0]],.l [.s "q",.v 2]]) (fun k hk=>?_) (by nofun) (by decide) fun l5 G5 L5 h5 s5=>?_⟩)
  ·rcases List.mem_cons.mp hk with rfl | hk
   ·exact⟨v2,rfl,r2.same s4⟩
   ·rw[List.mem_singleton.mp hk];exact⟨v3,rfl,r3.same s4⟩
  refine L9 (L4.same s5) L5 (by rw[Av,Av];decide) fun l6 G6 L6 s6 h6=>?_
  refine Gx rfl ?_
  have s06:=(s04.trans s5).trans s6
  refine Eb (HH ⟨_,rfl,NC (vs:=[2,3]) (ρ:=ρ) (ds:=[.t [.s "q"],.t [.i 7,.v 2],.t [.s "q",.n]]) (fun k hk=>?_) (by nofun) (by decide) fun l7 G7 L7 h7 s7=>?_⟩)
  ·have s46:=(s4.trans s5).trans s6
   rcases List.mem_cons.mp hk with rfl | hk
   ·exact⟨v2,rfl,r2.same s46⟩
   ·rw[List.mem_singleton.mp hk];exact⟨v3,rfl,r3.same s46⟩
  refine L9 (L6.same s7) L7 (by rw[List.length_append,Av,Av,Av];decide) fun l8 G8 L8 s8 h8=>?_
  refine Gx rfl ?_
  have s08:=(s06.trans s7).trans s8
  have g8:Al G8 v2 TQ:=t2.same (s3.trans ((s4.trans (s5.trans s6)).trans (s7.trans s8)))
  have bad:∀ t∈Ea ρ [.t [.s "sum",.v 2],.t [.s "sevenab",.v 2],.t [.s "",.v 2],.t [.s "A",.v 2],.t [.s "q",.v 3],.t [.s "q",.t [.s "sum",.v 3]]]++Ea ρ [.t [.s "q",.t [.s "columns",.n,.t [.i 1,.b true],.t [.i 1,.b true]]],.t [.s "q",.t [.s "param",.i 0]],.l [.s "q",.v 2]]++Ea ρ [.t [.s "q"],.t [.i 7,.v 2],.t [.s "q",.n]],JB t=false:=by rw[eρ];nofun
  have lt:(Ea ρ [.t [.s "sum",.v 2],.t [.s "sevenab",.v 2],.t [.s "",.v 2],.t [.s "A",.v 2],.t [.s "q",.v 3],.t [.s "q",.t [.s "sum",.v 3]]]++Ea ρ [.t [.s "q",.t [.s "columns",.n,.t [.i 1,.b true],.t [.i 1,.b true]]],.t [.s "q",.t [.s "param",.i 0]],.l [.s "q",.v 2]]++Ea ρ [.t [.s "q"],.t [.i 7,.v 2],.t [.s "q",.n]]).length=12:=by rw[List.length_append,List.length_append,Av,Av,Av];rfl
  generalize Ea ρ [.t [.s "sum",.v 2],.t [.s "sevenab",.v 2],.t [.s "",.v 2],.t [.s "A",.v 2],.t [.s "q",.v 3],.t [.s "q",.t [.s "sum",.v 3]]]++Ea ρ [.t [.s "q",.t [.s "columns",.n,.t [.i 1,.b true],.t [.i 1,.b true]]],.t [.s "q",.t [.s "param",.i 0]],.l [.s "q",.v 2]]++Ea ρ [.t [.s "q"],.t [.i 7,.v 2],.t [.s "q",.n]]=odd at *
  have pen8:=hpen.same s08
  have P8:=P.same s08
  have nl8:l8≠p:=by
   obtain⟨us,ol,_⟩:=L8
   exact(hpen.same (s06.trans s7)).ne h8
  have k08:KeepX p H G8:=AF.keep s08
  clear L4 L5 L6 L7 s2 s3 s03 s4 s04 s5 s6 s06 s7 s8 s08 r2 r3 t2 t3 eρ h4 h5 h6 h7 h8
  refine⟨_,rfl,p,_,_,_,rfl,(by show(0:Int)<_;decide),Ag (by decide) (by decide),pen8,(by omega),fun r1 H1 a1 b1 pen1 kp1=>Gx rfl ?_⟩
  dsimp only
  have P1:=P8.kx kp1 (pen8.kp kp1)
  have L1:=L8.kx nl8 pen8 pen1 kp1
  have g1:=g8.pn pen8 pen1 kp1
  have k1:=k08.trans kp1
  clear L8 P8 g8 pen8 k08
  have SL:=fun {G:Hp} (h:H1=G)=>h
  refine⟨_,rfl,rfl,_,rfl,Bn (fun _=>?_) (fun _=>?_)⟩
  ·refine⟨_,rfl,_,rfl,q.l,_,rfl,As.of P1.hl,fun la ha=>?_⟩
   have sa:=AF.new (o:=.lst (Bi (P5 q) none (some 2))) ha
   have oa:upd H1 la (.lst (Bi (P5 q) none (some 2))) la=some (.lst [.ref q.sl,.ref q.lc]):=AE
   have penG:=pen1.same sa
   have PG:=P1.same sa
   have gG:=g1.same sa
   have nla:=pen1.ne ha
   have kG:KeepX p H _:=k1.trans (AF.keep sa)
   show JE _ _ (upd H1 la (.lst (Bi (P5 q) none (some 2)))) _
   generalize upd H1 la (.lst (Bi (P5 q) none (some 2)))=G at *
   refine HM ⟨9,rfl,(by decide),(by decide),fun D hD=>?_⟩
   refine⟨fun i m H4=>m=9-i∧i≤9∧∃ us ts,H4 D=some (.lst us)∧us.length=i∧Paired (Al H4) us ts∧AF G H4,⟨9,rfl,Nat.zero_le _,[],[],AE,rfl,.nil,AF.new hD⟩,?_⟩
   rintro i m H9 ⟨rfl,hi,us1,ts1,oD,lu,pv,s4⟩
   by_cases hlt:i<9
   ·refine .inr ⟨hlt,fun x H' y=>?_⟩
    obtain⟨e,ex⟩:=y
    subst e ex
    have gx:=gG.same s4
    refine⟨_,rfl,_,_,_,rfl,rfl,(by nofun),Ys i hlt,_,_,rfl,rfl,(by show 2+1≤sizeLine;decide),_,rfl,BH,fun t2 h2=>?_⟩
    have w2:=AF.new (o:=.tup [.str (Str.ofString "ab"++⟨#[97+i]⟩),v2]) h2
    have tt:Al (upd H' t2 (.tup [.str (Str.ofString "ab"++⟨#[97+i]⟩),v2])) (.ref t2) (.tup [.str (Str.ofString "ab"++⟨#[97+i]⟩),TQ]):=.ofP AE (.cons (.str _ (Yu i hlt)) (.cons (gx.same w2) .nil))
    have oD3:=w2 _ _ oD
    generalize upd H' t2 (.tup [.str (Str.ofString "ab"++⟨#[97+i]⟩),v2])=H5 at *
    refine⟨us1,oD3,DX (by omega),9-(i+1),(by omega),rfl,hlt,us1++[.ref t2],ts1++[_],AE,by rw[List.length_append,lu];rfl,FM (JJ (EI pv w2) oD3) (.cons (tt.updL oD3) .nil),fun b o e=>?_⟩
    rw[Ab (Am e hD)];exact w2 _ _ (s4 _ _ e)
   obtain rfl:i=9:=by omega
   refine .inl ⟨Nat.le_refl _,fun l6 h6=>?_⟩
   have lt9:ts1.length=9:=by rw[← lu];exact(Paired.length pv).symm
   have k4:KeepX p H H9:=kG.trans (AF.keep s4)
   have pen4:=penG.same s4
   have rw5:BU H9 (.ref D) (some ts1):=⟨D,us1,rfl,oD,pv⟩
   have badr:Jr JB 8 (some ts1)=false:=RF (by rw[lt9];decide)
   have oa4:=s4 _ _ oa
   have P4:=PG.same s4
   have s6:=AF.new (o:=.lst [V.ref D]) h6
   refine⟨la,l6,_,_,rfl,rfl,s6 _ _ oa4,AE,BJ (by simp),fun l7 h7=>?_⟩
   have s7:=AF.new (o:=.lst ([.ref q.sl,.ref q.lc]++[V.ref D])) h7
   have P7:=(P4.same s6).same s7
   refine⟨_,rfl,_,rfl,q.l,_,rfl,As.of P7.hl,fun l9 h9=>?_⟩
   have s9:=AF.new (o:=.lst (Bi (P5 q) (some 3) none)) h9
   refine⟨l7,l9,_,[.ref q.lo,.int q.r],rfl,rfl,s9 _ _ AE,AE,BJ (by simp),fun l10 h10=>?_⟩
   have sF:=((s6.trans s7).trans s9).trans (AF.new (o:=.lst (([.ref q.sl,.ref q.lc]++[V.ref D])++[.ref q.lo,.int q.r])) h10)
   exact k l10 _ (Sg (P4.same sF) AE (rw5.same sF) badr) ((pen4.same sF).mono (by omega)) (k4.trans (AF.keep sF))
  refine⟨_,rfl,rfl,_,rfl,Bn (fun _=>?_) (fun _=>?_)⟩
  ·refine⟨_,rfl,_,rfl,q.l,_,rfl,As.of P1.hl,fun la ha=>?_⟩
   have sa:=AF.new (o:=.lst (Bi (P5 q) none (some 2))) ha
   have oa:upd H1 la (.lst (Bi (P5 q) none (some 2))) la=some (.lst [.ref q.sl,.ref q.lc]):=AE
   have penG:=pen1.same sa
   have PG:=P1.same sa
   have gG:=g1.same sa
   have nla:=pen1.ne ha
   have kG:KeepX p H _:=k1.trans (AF.keep sa)
   show JE _ _ (upd H1 la (.lst (Bi (P5 q) none (some 2)))) _
   generalize upd H1 la (.lst (Bi (P5 q) none (some 2)))=G at *
   refine HM (NC (vs:=[2]) (ρ:=fun _=>TQ) (ds:=[.t [.s "q",.v 2],.t [.s "q",.v 2]]) (fun k hk=>?_) (by nofun) (by decide) fun l5 G5 L5 h5 s5=>?_)
   ·rw[List.mem_singleton.mp hk];exact⟨v2,rfl,gG⟩
   intro l6 h6
   have k4:KeepX p H G5:=kG.trans (AF.keep s5)
   have pen4:=penG.same s5
   have rw5:=L5.row
   have badr:Jr JB 8 (some (Ea (fun _=>TQ) [.t [.s "q",.v 2],.t [.s "q",.v 2]]))=false:=by nofun
   have oa4:=s5 _ _ oa
   have P4:=PG.same s5
   have s6:=AF.new (o:=.lst [V.ref l5]) h6
   refine⟨la,l6,_,_,rfl,rfl,s6 _ _ oa4,AE,BJ (by simp),fun l7 h7=>?_⟩
   have s7:=AF.new (o:=.lst ([.ref q.sl,.ref q.lc]++[V.ref l5])) h7
   have P7:=(P4.same s6).same s7
   refine⟨_,rfl,_,rfl,q.l,_,rfl,As.of P7.hl,fun l9 h9=>?_⟩
   have s9:=AF.new (o:=.lst (Bi (P5 q) (some 3) none)) h9
   refine⟨l7,l9,_,[.ref q.lo,.int q.r],rfl,rfl,s9 _ _ AE,AE,BJ (by simp),fun l10 h10=>?_⟩
   have sF:=((s6.trans s7).trans s9).trans (AF.new (o:=.lst (([.ref q.sl,.ref q.lc]++[V.ref l5])++[.ref q.lo,.int q.r])) h10)
   exact k l10 _ (Sg (P4.same sF) AE (rw5.same sF) badr) ((pen4.same sF).mono (by omega)) (k4.trans (AF.keep sF))
  ·refine⟨_,rfl,_,rfl,q.l,_,rfl,As.of P1.hl,fun la ha=>?_⟩
   have sa:=AF.new (o:=.lst (Bi (P5 q) none (some 2))) ha
   have oa:upd H1 la (.lst (Bi (P5 q) none (some 2))) la=some (.lst [.ref q.sl,.ref q.lc]):=AE
   have penG:=pen1.same sa
   have PG:=P1.same sa
   have gG:=g1.same sa
   have nla:=pen1.ne ha
   have kG:KeepX p H _:=k1.trans (AF.keep sa)
   show JE _ _ (upd H1 la (.lst (Bi (P5 q) none (some 2)))) _
   generalize upd H1 la (.lst (Bi (P5 q) none (some 2)))=G at *
   refine HM (HH ⟨_,rfl,q.l,_,_,_,rfl,rfl,As.of PG.hl,rfl,?_⟩)
   refine HM (HH ⟨_,rfl,?_⟩)
   have L2:=L1.same sa
   refine⟨_,rfl,p,_,_,_,rfl,(by show(0:Int)<_;decide),Ag (by decide) (by decide),penG,(by omega),fun r3 H3 a3 b3 pen3 kp3=>?_⟩
   have L3:=L2.kx nl8 penG pen3 kp3
   obtain⟨us,v,t',ol,ev,mt,hv⟩:=Lz L3 a3 (by rw[lt];exact b3)
   refine⟨l8,_,_,_,rfl,rfl,As.of ol,ev,fun l4 h4=>?_⟩
   have s4:=AF.new (o:=.lst [v]) h4
   have k3:KeepX p H H3:=kG.trans kp3
   have P3:=(PG.kx kp3 (penG.kp kp3)).same s4
   have l60:q.us.length≤8:=by rw[Paired.length P3.pn];exact Nat.le_trans P3.nok.1 (by decide)
   refine⟨q.ln,l4,_,_,rfl,rfl,P3.hln,AE,BJ (by rw[List.length_singleton];omega),fun l5 h5=>?_⟩
   have s5:=AF.new (o:=.lst (q.us++[v])) h5
   have s45:=s4.trans s5
   have P4:=P3.same s5
   have pen4:=pen3.same s45
   have k4:KeepX p H _:=k3.trans (AF.keep s45)
   have oa4:=s45 _ _ (kp3 _ _ nla oa)
   have rw5:BU (upd (upd H3 l4 (.lst [v])) l5 (.lst (q.us++[v]))) (.ref l5) (some (q.ns.map (M4 false)++[t'])):=by
    obtain⟨a',us',ea,eb,ec⟩:=P4.rw2
    cases ea
    rw[P4.hln]at eb
    cases eb
    exact⟨l5,_,rfl,AE,FM ec (.cons (hv.same s45) .nil)⟩
   have badr:Jr JB 8 (some (q.ns.map (M4 false)++[t']))=false:=TN (bad t' mt)
   intro l6 h6
   generalize upd (upd H3 l4 (.lst [v])) l5 (.lst (q.us++[v]))=G5 at *
   have s6:=AF.new (o:=.lst [V.ref l5]) h6
   refine⟨la,l6,_,_,rfl,rfl,s6 _ _ oa4,AE,BJ (by simp),fun l7 h7=>?_⟩
   have s7:=AF.new (o:=.lst ([.ref q.sl,.ref q.lc]++[V.ref l5])) h7
   have P7:=(P4.same s6).same s7
   refine⟨_,rfl,_,rfl,q.l,_,rfl,As.of P7.hl,fun l9 h9=>?_⟩
   have s9:=AF.new (o:=.lst (Bi (P5 q) (some 3) none)) h9
   refine⟨l7,l9,_,[.ref q.lo,.int q.r],rfl,rfl,s9 _ _ AE,AE,BJ (by simp),fun l10 h10=>?_⟩
   have sF:=((s6.trans s7).trans s9).trans (AF.new (o:=.lst (([.ref q.sl,.ref q.lc]++[V.ref l5])++[.ref q.lo,.int q.r])) h10)
   exact k l10 _ (Sg (P4.same sF) AE (rw5.same sF) badr) ((pen4.same sF).mono (by omega)) (k4.trans (AF.keep sF))
theorem Bd:AZ ["_law_parts","_law_pen_here","_law_gone","_law_untold","_law_some","_law_way"] ["_law_parts","_law_pen_here"] (AO Cr):=BC
theorem Gs (T:Txt w K mg t):A1 P w K mg base Bo 6 t.dq t.dr ["_law_parts","_law_pen_here"] (Ly K 3):=by
 have D:=T.fw
 refine D.fn.okX Bd ?_ (fun cdv A outer s H vs Q E hr h Z hZ=>?_)
 ·rintro _ _ _ _ ⟨p,q,c,S,rfl,_⟩
  rfl
 ·obtain⟨p,q,c,S,rfl,hpen,hc,P,k⟩:=h
  refine hZ ⟨_,((AG (Af (i:=2) Bd.nd rfl (Or.inr rfl) (AL (AB AI AC)))
   (AG (Af (i:=3) Bd.nd rfl (Or.inl rfl) (AL (AB AI (AJ (AL (AB AI (AB CL (AJ (AL (AB AD (AB AD (AB BF (AB BF AC))))) (AJ (AL (AB AD (AB AD (AB BF (AB BF AC))))) AC))))) AC))))
   (AG (Af (i:=4) Bd.nd rfl (Or.inl rfl) (Ae (AJ (AL (AB AI (AB AD (AJ (AL (AB AI (AB AD AC))) AC)))) (AJ (AL (AB AI (AB AD (AJ (AL (AB AI (AB AD AC))) AC)))) (AJ (AL (AB AI (AB AD (AA (AK 2) AC)))) (AJ (AL (AB AI (F7 (NO Jz AD) (AA (AK 2) AC)))) (AJ (AL (AB AI (AB BF (AJ (AL (AB AI (AB AD AC))) AC)))) AC)))))))
   (AG (Af (i:=4) Bd.nd rfl (Or.inl rfl) (An A7 (AK 4) (Ae (AJ (AL (AB AI (AB AD (AA (AK 3) AC)))) (AJ (AL (AB AI (AB AD (AA (AK 2) AC)))) (AJ (AL (AB AI (AB AD (AJ (AL (AB AI (AB AD AC))) AC)))) (AJ (AL (AB AI (AA (AK 2) AC))) AC)))))))
   (AG (Af (i:=4) Bd.nd rfl (Or.inl rfl) (An A7 (AK 4) (Ae (Be (Ae (AB AI (AB AD (AA (AK 2) AC)))) (AJ (AL (AB AI (AB AD (AB CL AC)))) AC)))))
   (AG (Af (i:=5) Bd.nd rfl (Or.inl rfl) (AR T.d8 (AN T) (BO hr) (AA (AK 1) (AB AD AC))))
   (AG (Ah (AX Aq (AK 5) AD (AS _)) (AH (AM (An A7 (An A7 (BA BX (AK 0) BV (BW AD)) (Ae (B6 (Br (fv:=["_law_gone"]) (js:=[2]) (cl:=[("_law_gone",s.heap.objs.size+1)]) rfl (by with_unfolding_all rfl) ⟨rfl,by nofun,by nofun,rfl,by nofun,by nofun,(List.forall_mem_cons.mpr ⟨⟨rfl,rfl,rfl⟩,(List.forall_mem_nil _)⟩),(List.forall_mem_cons.mpr ⟨rfl,(List.forall_mem_nil _)⟩),(.cons rfl .nil)⟩ (Dm rfl T.f0 (AB AD AC)) (fun _ _ _ _ _=>CO) (fun _ _ _ _ _=>(AL (BG (An Hx AI (AV J4 AI (AK 0) (fun _ _=>rfl))) (AB AD (AA (AK 1) AC)))))) AC))) (BA BX (AK 0) (BW AD) BV)))) AT)
   (AG (Ah (AX Aq (AK 5) AD (AS _)) (AH (AM (An A7 (An A7 (BA BX (AK 0) BV (BW AD)) (Ae (Be (Ae (AJ (AL (AB AI (AB AD (AA (AK 2) AC)))) (AJ (AL (AB AI (AB AD (AA (AK 2) AC)))) AC))) AC))) (BA BX (AK 0) (BW AD) BV)))) AT)
   (AH (AM (An A7 (An A7 (BA BX (AK 0) BV (BW AD)) (Ae (BG (An A7 (AV Ai (AK 0) AD (fun _ _=>rfl)) (Ae (AQ (AV Ai (AK 4) (AR T.d8 (AN T) (BO hr) (AA (AK 1) (AB AD AC))) (fun _ _=>rfl)) AC))) AC))) (BA BX (AK 0) (BW AD) BV))))))))))))),?_⟩
  try dsimp only[BB,Au]
  refine Sd (vs:=[]) (ρ:=fun _=>.non) (d:=.t [.s "gone"]) (fun _ h=>nomatch h) (by nofun) fun v2 G2 t2 s2=>Gx rfl ?_
  dsimp only
  refine Sd (vs:=[]) (ρ:=fun _=>.non) (d:=.t [.s "neg",.t [.s "range",.n,.t [.i 1,.i 1,.b false,.b false],.t [.i 2,.i 2,.b false,.b false]]]) (fun _ h=>nomatch h) (by nofun) fun v3 G3 t3 s3=>Gx rfl ?_
  dsimp only
  obtain⟨ρ,eρ⟩:∃ ρ:Nat→Th,ρ=fun k=>if k=2 then Km (fun _=>.non) (.t [.s "gone"])else Km (fun _=>.non) (.t [.s "neg",.t [.s "range",.n,.t [.i 1,.i 1,.b false,.b false],.t [.i 2,.i 2,.b false,.b false]]]):=⟨_,rfl⟩
  have r2:Al G3 v2 (ρ 2):=by rw[eρ];exact t2.same s3
  have r3:Al G3 v3 (ρ 3):=by rw[eρ];exact t3
  have s03:=s2.trans s3
  refine Eb (NC (vs:=[2,3]) (ρ:=ρ) (ds:=[.t [.s "q",.i 1,.t [.s "param",.i 1]],.t [.s "q",.i 0,.t [.s "param",.i 0]],.t [.s "q",.i 4,.v 2],.t [.s "q",.m 1,.v 2],.t [.s "q",.b true,.t [.s "param",.i 0]]]) (fun k hk=>?_) (by nofun) (by decide) fun l4 G4 L4 h4 s4=>?_)
  ·rcases List.mem_cons.mp hk with rfl | hk
   ·exact⟨v2,rfl,r2⟩
   ·rw[List.mem_singleton.mp hk];exact⟨v3,rfl,r3⟩
  refine Gx rfl ?_
  have s04:=s03.trans s4
  refine Eb (HH ⟨_,rfl,NC (vs:=[2,3]) (ρ:=ρ) (ds:=[.t [.s "q",.i 1,.v 3],.t [.s "grid",.i 1,.v 2],.t [.s "q",.i 3,.t [.s "param",.i 3]],.t [.s "q",.v 2]]) (fun k hk=>?_) (by nofun) (by decide) fun l5 G5 L5 h5 s5=>?_⟩)
  ·rcases List.mem_cons.mp hk with rfl | hk
   ·exact⟨v2,rfl,r2.same s4⟩
   ·rw[List.mem_singleton.mp hk];exact⟨v3,rfl,r3.same s4⟩
  refine L9 (L4.same s5) L5 (by rw[Av,Av];decide) fun l6 G6 L6 s6 h6=>?_
  refine Gx rfl ?_
  have s06:=(s04.trans s5).trans s6
  refine Eb (HH ⟨_,rfl,NC (vs:=[2,3]) (ρ:=ρ) (ds:=[.l [.s "q",.i 1,.v 2],.t [.s "q",.i 1,.n]]) (fun k hk=>?_) (by nofun) (by decide) fun l7 G7 L7 h7 s7=>?_⟩)
  ·have s46:=(s4.trans s5).trans s6
   rcases List.mem_cons.mp hk with rfl | hk
   ·exact⟨v2,rfl,r2.same s46⟩
   ·rw[List.mem_singleton.mp hk];exact⟨v3,rfl,r3.same s46⟩
  refine L9 (L6.same s7) L7 (by rw[List.length_append,Av,Av,Av];decide) fun l8 G8 L8 s8 h8=>?_
  refine Gx rfl ?_
  have s08:=(s06.trans s7).trans s8
  have g8:Al G8 v2 TQ:=t2.same (s3.trans ((s4.trans (s5.trans s6)).trans (s7.trans s8)))
  have bad:∀ t∈Ea ρ [.t [.s "q",.i 1,.t [.s "param",.i 1]],.t [.s "q",.i 0,.t [.s "param",.i 0]],.t [.s "q",.i 4,.v 2],.t [.s "q",.m 1,.v 2],.t [.s "q",.b true,.t [.s "param",.i 0]]]++Ea ρ [.t [.s "q",.i 1,.v 3],.t [.s "grid",.i 1,.v 2],.t [.s "q",.i 3,.t [.s "param",.i 3]],.t [.s "q",.v 2]]++Ea ρ [.l [.s "q",.i 1,.v 2],.t [.s "q",.i 1,.n]],JC t=false:=by rw[eρ];nofun
  have lt:(Ea ρ [.t [.s "q",.i 1,.t [.s "param",.i 1]],.t [.s "q",.i 0,.t [.s "param",.i 0]],.t [.s "q",.i 4,.v 2],.t [.s "q",.m 1,.v 2],.t [.s "q",.b true,.t [.s "param",.i 0]]]++Ea ρ [.t [.s "q",.i 1,.v 3],.t [.s "grid",.i 1,.v 2],.t [.s "q",.i 3,.t [.s "param",.i 3]],.t [.s "q",.v 2]]++Ea ρ [.l [.s "q",.i 1,.v 2],.t [.s "q",.i 1,.n]]).length=11:=by rw[List.length_append,List.length_append,Av,Av,Av];rfl
  generalize Ea ρ [.t [.s "q",.i 1,.t [.s "param",.i 1]],.t [.s "q",.i 0,.t [.s "param",.i 0]],.t [.s "q",.i 4,.v 2],.t [.s "q",.m 1,.v 2],.t [.s "q",.b true,.t [.s "param",.i 0]]]++Ea ρ [.t [.s "q",.i 1,.v 3],.t [.s "grid",.i 1,.v 2],.t [.s "q",.i 3,.t [.s "param",.i 3]],.t [.s "q",.v 2]]++Ea ρ [.l [.s "q",.i 1,.v 2],.t [.s "q",.i 1,.n]]=odd at *
  have pen8:=hpen.same s08
  have P8:=P.same s08
  have nl8:l8≠p:=by
   obtain⟨us,ol,_⟩:=L8
   exact(hpen.same (s06.trans s7)).ne h8
  have k08:KeepX p H G8:=AF.keep s08
  clear L4 L5 L6 L7 s2 s3 s03 s4 s04 s5 s6 s06 s7 s8 s08 r2 r3 t2 t3 eρ h4 h5 h6 h7 h8
  refine⟨_,rfl,p,_,_,_,rfl,(by show(0:Int)<_;decide),Ag (by decide) (by decide),pen8,(by omega),fun r1 H1 a1 b1 pen1 kp1=>Gx rfl ?_⟩
  dsimp only
  have P1:=P8.kx kp1 (pen8.kp kp1)
  have L1:=L8.kx nl8 pen8 pen1 kp1
  have g1:=g8.pn pen8 pen1 kp1
  have k1:=k08.trans kp1
  clear L8 P8 g8 pen8 k08
  have SL:=fun {G:Hp} (h:H1=G)=>h
  refine⟨_,rfl,rfl,_,rfl,Bn (fun _=>?_) (fun _=>?_)⟩
  ·refine⟨_,rfl,_,rfl,q.l,_,rfl,As.of P1.hl,fun la ha=>?_⟩
   have sa:=AF.new (o:=.lst (Bi (P5 q) none (some 3))) ha
   have oa:upd H1 la (.lst (Bi (P5 q) none (some 3))) la=some (.lst [.ref q.sl,.ref q.lc,.ref q.ln]):=AE
   have penG:=pen1.same sa
   have PG:=P1.same sa
   have gG:=g1.same sa
   have nla:=pen1.ne ha
   have kG:KeepX p H _:=k1.trans (AF.keep sa)
   show JE _ _ (upd H1 la (.lst (Bi (P5 q) none (some 3)))) _
   generalize upd H1 la (.lst (Bi (P5 q) none (some 3)))=G at *
   refine HM ⟨7,rfl,(by decide),(by decide),fun D hD=>?_⟩
   refine⟨fun i m H4=>m=7-i∧i≤7∧∃ us ts,H4 D=some (.lst us)∧us.length=i∧Paired (Al H4) us ts∧AF G H4,⟨7,rfl,Nat.zero_le _,[],[],AE,rfl,.nil,AF.new hD⟩,?_⟩
   rintro i m H9 ⟨rfl,hi,us1,ts1,oD,lu,pv,s4⟩
   by_cases hlt:i<7
   ·refine .inr ⟨hlt,fun x H' y=>?_⟩
    obtain⟨e,ex⟩:=y
    subst e ex
    have gx:=gG.same s4
    refine⟨_,rfl,_,_,_,rfl,rfl,(by nofun),Yt i hlt,_,_,rfl,rfl,(by show 2+1≤sizeLine;decide),_,rfl,BE,fun t2 h2=>?_⟩
    have w2:=AF.new (o:=.tup [.str (Str.ofString "ab"++⟨#[97+i]⟩),.int 1,v2]) h2
    have tt:Al (upd H' t2 (.tup [.str (Str.ofString "ab"++⟨#[97+i]⟩),.int 1,v2])) (.ref t2) (.tup [.str (Str.ofString "ab"++⟨#[97+i]⟩),.int 1,TQ]):=.ofP AE (.cons (.str _ (Yv i hlt)) (.cons (.int 1) (.cons (gx.same w2) .nil)))
    have oD3:=w2 _ _ oD
    generalize upd H' t2 (.tup [.str (Str.ofString "ab"++⟨#[97+i]⟩),.int 1,v2])=H5 at *
    refine⟨us1,oD3,DX (by omega),7-(i+1),(by omega),rfl,hlt,us1++[.ref t2],ts1++[_],AE,by rw[List.length_append,lu];rfl,FM (JJ (EI pv w2) oD3) (.cons (tt.updL oD3) .nil),fun b o e=>?_⟩
    rw[Ab (Am e hD)];exact w2 _ _ (s4 _ _ e)
   obtain rfl:i=7:=by omega
   refine .inl ⟨Nat.le_refl _,fun l6 h6=>?_⟩
   have lt9:ts1.length=7:=by rw[← lu];exact(Paired.length pv).symm
   have k4:KeepX p H H9:=kG.trans (AF.keep s4)
   have pen4:=penG.same s4
   have rw5:BU H9 (.ref D) (some ts1):=⟨D,us1,rfl,oD,pv⟩
   have badr:Jr JC 6 (some ts1)=false:=RF (by rw[lt9];decide)
   have oa4:=s4 _ _ oa
   have P4:=PG.same s4
   have s6:=AF.new (o:=.lst [V.ref D]) h6
   refine⟨la,l6,_,_,rfl,rfl,s6 _ _ oa4,AE,BJ (by simp),fun l7 h7=>?_⟩
   have s7:=AF.new (o:=.lst ([.ref q.sl,.ref q.lc,.ref q.ln]++[V.ref D])) h7
   have P7:=(P4.same s6).same s7
   refine⟨_,rfl,_,rfl,q.l,_,rfl,As.of P7.hl,fun l9 h9=>?_⟩
   have s9:=AF.new (o:=.lst (Bi (P5 q) (some 4) none)) h9
   refine⟨l7,l9,_,[.int q.r],rfl,rfl,s9 _ _ AE,AE,BJ (by simp),fun l10 h10=>?_⟩
   have sF:=((s6.trans s7).trans s9).trans (AF.new (o:=.lst (([.ref q.sl,.ref q.lc,.ref q.ln]++[V.ref D])++[.int q.r])) h10)
   exact k l10 _ (Sh (P4.same sF) AE (rw5.same sF) badr) ((pen4.same sF).mono (by omega)) (k4.trans (AF.keep sF))
  refine⟨_,rfl,rfl,_,rfl,Bn (fun _=>?_) (fun _=>?_)⟩
  ·refine⟨_,rfl,_,rfl,q.l,_,rfl,As.of P1.hl,fun la ha=>?_⟩
   have sa:=AF.new (o:=.lst (Bi (P5 q) none (some 3))) ha
   have oa:upd H1 la (.lst (Bi (P5 q) none (some 3))) la=some (.lst [.ref q.sl,.ref q.lc,.ref q.ln]):=AE
   have penG:=pen1.same sa
   have PG:=P1.same sa
   have gG:=g1.same sa
   have nla:=pen1.ne ha
   have kG:KeepX p H _:=k1.trans (AF.keep sa)
   show JE _ _ (upd H1 la (.lst (Bi (P5 q) none (some 3)))) _
   generalize upd H1 la (.lst (Bi (P5 q) none (some 3)))=G at *
   refine HM (NC (vs:=[2]) (ρ:=fun _=>TQ) (ds:=[.t [.s "q",.i 1,.v 2],.t [.s "q",.i 2,.v 2]]) (fun k hk=>?_) (by nofun) (by decide) fun l5 G5 L5 h5 s5=>?_)
   ·rw[List.mem_singleton.mp hk];exact⟨v2,rfl,gG⟩
   intro l6 h6
   have k4:KeepX p H G5:=kG.trans (AF.keep s5)
   have pen4:=penG.same s5
   have rw5:=L5.row
   have badr:Jr JC 6 (some (Ea (fun _=>TQ) [.t [.s "q",.i 1,.v 2],.t [.s "q",.i 2,.v 2]]))=false:=by nofun
   have oa4:=s5 _ _ oa
   have P4:=PG.same s5
   have s6:=AF.new (o:=.lst [V.ref l5]) h6
   refine⟨la,l6,_,_,rfl,rfl,s6 _ _ oa4,AE,BJ (by simp),fun l7 h7=>?_⟩
   have s7:=AF.new (o:=.lst ([.ref q.sl,.ref q.lc,.ref q.ln]++[V.ref l5])) h7
   have P7:=(P4.same s6).same s7
   refine⟨_,rfl,_,rfl,q.l,_,rfl,As.of P7.hl,fun l9 h9=>?_⟩
   have s9:=AF.new (o:=.lst (Bi (P5 q) (some 4) none)) h9
   refine⟨l7,l9,_,[.int q.r],rfl,rfl,s9 _ _ AE,AE,BJ (by simp),fun l10 h10=>?_⟩
   have sF:=((s6.trans s7).trans s9).trans (AF.new (o:=.lst (([.ref q.sl,.ref q.lc,.ref q.ln]++[V.ref l5])++[.int q.r])) h10)
   exact k l10 _ (Sh (P4.same sF) AE (rw5.same sF) badr) ((pen4.same sF).mono (by omega)) (k4.trans (AF.keep sF))
  ·refine⟨_,rfl,_,rfl,q.l,_,rfl,As.of P1.hl,fun la ha=>?_⟩
   have sa:=AF.new (o:=.lst (Bi (P5 q) none (some 3))) ha
   have oa:upd H1 la (.lst (Bi (P5 q) none (some 3))) la=some (.lst [.ref q.sl,.ref q.lc,.ref q.ln]):=AE
   have penG:=pen1.same sa
   have PG:=P1.same sa
   have gG:=g1.same sa
   have nla:=pen1.ne ha
   have kG:KeepX p H _:=k1.trans (AF.keep sa)
   show JE _ _ (upd H1 la (.lst (Bi (P5 q) none (some 3)))) _
   generalize upd H1 la (.lst (Bi (P5 q) none (some 3)))=G at *
   refine HM (HH ⟨_,rfl,q.l,_,_,_,rfl,rfl,As.of PG.hl,rfl,?_⟩)
   refine HM (HH ⟨_,rfl,?_⟩)
   have L2:=L1.same sa
   refine⟨_,rfl,p,_,_,_,rfl,(by show(0:Int)<_;decide),Ag (by decide) (by decide),penG,(by omega),fun r3 H3 a3 b3 pen3 kp3=>?_⟩
   have L3:=L2.kx nl8 penG pen3 kp3
   obtain⟨us,v,t',ol,ev,mt,hv⟩:=Lz L3 a3 (by rw[lt];exact b3)
   refine⟨l8,_,_,_,rfl,rfl,As.of ol,ev,fun l4 h4=>?_⟩
   have s4:=AF.new (o:=.lst [v]) h4
   have k3:KeepX p H H3:=kG.trans kp3
   have P3:=(PG.kx kp3 (penG.kp kp3)).same s4
   have l60:q.ws.length≤8:=by rw[Paired.length P3.po];exact Nat.le_trans P3.ook.1 (by decide)
   refine⟨q.lo,l4,_,_,rfl,rfl,P3.hlo,AE,BJ (by rw[List.length_singleton];omega),fun l5 h5=>?_⟩
   have s5:=AF.new (o:=.lst (q.ws++[v])) h5
   have s45:=s4.trans s5
   have P4:=P3.same s5
   have pen4:=pen3.same s45
   have k4:KeepX p H _:=k3.trans (AF.keep s45)
   have oa4:=s45 _ _ (kp3 _ _ nla oa)
   have rw5:BU (upd (upd H3 l4 (.lst [v])) l5 (.lst (q.ws++[v]))) (.ref l5) (some (q.os.map (M4 true)++[t'])):=by
    obtain⟨a',us',ea,eb,ec⟩:=P4.rw3
    cases ea
    rw[P4.hlo]at eb
    cases eb
    exact⟨l5,_,rfl,AE,FM ec (.cons (hv.same s45) .nil)⟩
   have badr:Jr JC 6 (some (q.os.map (M4 true)++[t']))=false:=TN (bad t' mt)
   intro l6 h6
   generalize upd (upd H3 l4 (.lst [v])) l5 (.lst (q.ws++[v]))=G5 at *
   have s6:=AF.new (o:=.lst [V.ref l5]) h6
   refine⟨la,l6,_,_,rfl,rfl,s6 _ _ oa4,AE,BJ (by simp),fun l7 h7=>?_⟩
   have s7:=AF.new (o:=.lst ([.ref q.sl,.ref q.lc,.ref q.ln]++[V.ref l5])) h7
   have P7:=(P4.same s6).same s7
   refine⟨_,rfl,_,rfl,q.l,_,rfl,As.of P7.hl,fun l9 h9=>?_⟩
   have s9:=AF.new (o:=.lst (Bi (P5 q) (some 4) none)) h9
   refine⟨l7,l9,_,[.int q.r],rfl,rfl,s9 _ _ AE,AE,BJ (by simp),fun l10 h10=>?_⟩
   have sF:=((s6.trans s7).trans s9).trans (AF.new (o:=.lst (([.ref q.sl,.ref q.lc,.ref q.ln]++[V.ref l5])++[.int q.r])) h10)
   exact k l10 _ (Sh (P4.same sF) AE (rw5.same sF) badr) ((pen4.same sF).mono (by omega)) (k4.trans (AF.keep sF))
theorem F0:AZ ["_law_parts","_law_pen_here","_law_way","_law_at"] ["_law_parts","_law_pen_here"] (AO Fu):=BC
theorem ML (T:Txt w K mg t):A1 P w K mg base Bo 7 t.ds t.dt ["_law_parts","_law_pen_here"] (Ly K 5):=by
 have D:=T.fx
 refine D.fn.okX F0 ?_ (fun cdv A outer s H vs Q E hr h Z hZ=>?_)
 ·rintro _ _ _ _ ⟨p,q,c,S,rfl,_⟩
  rfl
 ·obtain⟨p,q,c,S,rfl,hpen,hc,P,k⟩:=h
  refine hZ ⟨_,((AG (Af (i:=2) F0.nd rfl (Or.inl rfl) (AR T.d8 (AN T) (BO hr) (AA (AK 1) (AB AD AC))))
   (AG (Ah (AX Aq (AK 2) AD (AS _)) (AH (AM (AR T.ft (Fz T) (BO hr) (AA (AK 0) (AA (AK 1) AC))))) AT)
   (AG (Ah (AX Aq (AK 2) AD (AS _)) (AH (AM (AR T.fu (GX T) (BO hr) (AA (AK 0) (AA (AK 1) AC))))) AT)
   (AG (Ah (AX Aq (AK 2) AD (AS _)) (AH (AM (AR T.fv (GY T) (BO hr) (AA (AK 0) (AA (AK 1) AC))))) AT)
   (AG (Ah (AX Aq (AK 2) AD (AS _)) (AH (AM (AR T.fw (Gs T) (BO hr) (AA (AK 0) (AA (AK 1) AC))))) AT)
   (AG (Ah (AX Aq (AK 2) AD (AS _)) (AH (AM (An A7 (BA BX (AK 0) BV (BW AD)) (Ae (AQ (AV Ai (Ae (AB AD (F7 (NO Jz AD) (AB BF (AB AI (AB CL (AJ (AL (AB AD AC)) AC))))))) (AR T.d8 (AN T) (BO hr) (AA (AK 1) (AB AD AC))) (fun _ _=>rfl)) AC))))) AT)
   (AG (Af (i:=3) F0.nd rfl (Or.inl rfl) (An Bv AD (AR T.d8 (AN T) (BO hr) (AA (AK 1) (AB AD AC)))))
   (AH (AM (An A7 (An A7 (BA BX (AK 0) BV (BW (AK 3))) (Ae (AQ (AV Ai (Ae (AB CL (AB AD (AB AI (K5 LH AC))))) (AR T.d8 (AN T) (BO hr) (AA (AK 1) (AB AD AC))) (fun _ _=>rfl)) AC))) (BA BX (AK 0) (BW (An Bv (AK 3) AD)) BV)))))))))))),?_⟩
  try dsimp only[BB,Au]
  refine⟨_,rfl,p,_,_,_,rfl,(by show(0:Int)<_;decide),Ag (by decide) (by decide),hpen,(by omega),fun r1 H1 a1 b1 pen1 kp1=>?_⟩
  refine⟨_,rfl,rfl,_,rfl,Bn (fun _=>?_) (fun _=>?_)⟩
  ·exact⟨_,rfl,_,rfl,p,q,_,S,rfl,pen1,(by omega),P.kx kp1 (hpen.kp kp1),fun l H2 bad pen2 kp2=>k l H2 bad (pen2.mono (by omega)) (kp1.trans kp2)⟩
  refine⟨_,rfl,rfl,_,rfl,Bn (fun _=>?_) (fun _=>?_)⟩
  ·exact⟨_,rfl,_,rfl,p,q,_,S,rfl,pen1,(by omega),P.kx kp1 (hpen.kp kp1),fun l H2 bad pen2 kp2=>k l H2 bad (pen2.mono (by omega)) (kp1.trans kp2)⟩
  refine⟨_,rfl,rfl,_,rfl,Bn (fun _=>?_) (fun _=>?_)⟩
  ·exact⟨_,rfl,_,rfl,p,q,_,S,rfl,pen1,(by omega),P.kx kp1 (hpen.kp kp1),fun l H2 bad pen2 kp2=>k l H2 bad (pen2.mono (by omega)) (kp1.trans kp2)⟩
  refine⟨_,rfl,rfl,_,rfl,Bn (fun _=>?_) (fun _=>?_)⟩
  ·exact⟨_,rfl,_,rfl,p,q,_,S,rfl,pen1,(by omega),P.kx kp1 (hpen.kp kp1),fun l H2 bad pen2 kp2=>k l H2 bad (pen2.mono (by omega)) (kp1.trans kp2)⟩
  have P1:=P.kx kp1 (hpen.kp kp1)
  refine⟨_,rfl,rfl,_,rfl,Bn (fun _=>?_) (fun _=>?_)⟩
  ·refine⟨_,rfl,_,rfl,q.l,_,rfl,As.of P1.hl,fun l1 h1=>?_⟩
   have s1:=AF.new (o:=.lst (Bi [.ref q.sl,.ref q.lc,.ref q.ln,.ref q.lo,.int q.r] none (some 4))) h1
   have o1:upd H1 l1 (.lst (Bi [.ref q.sl,.ref q.lc,.ref q.ln,.ref q.lo,.int q.r] none (some 4))) l1=some (.lst [.ref q.sl,.ref q.lc,.ref q.ln,.ref q.lo]):=AE
   have P2:=P1.same s1
   have pen1':=pen1.same s1
   have nl1:=pen1.ne h1
   have f1:=O2 kp1 nl1 h1
   have kp1':=kp1.trans (AF.keep s1 (p:=p))
   generalize upd H1 l1 _=G at *
   refine HM (HH (NC (vs:=[]) (ρ:=fun _=>.non) (ds:=[.i 5,.m 1,.b true,.s "2",.n,.t [.i 1]]) (fun _ h=>nomatch h) (by nofun) (by decide) fun l2 G2 L2 h2 s2=>?_))
   have nl2:=pen1'.ne h2
   have penG:=pen1'.same s2
   refine⟨_,rfl,p,_,_,_,rfl,(by show(0:Int)<_;decide),Ag (by decide) (by decide),penG,(by omega),fun r3 H3 a3 b3 pen3 kp3=>?_⟩
   have L3:=L2.kx nl2 penG pen3 kp3
   obtain⟨us,v,t,ol,ev,mt,hv⟩:=Lz L3 a3 (by rw[Av];exact b3)
   refine⟨l2,_,_,_,rfl,rfl,As.of ol,ev,fun l4 h4=>?_⟩
   have s4:=AF.new (o:=.lst [v]) h4
   have o1:=s4 _ _ (kp3 _ _ nl1 (s2 _ _ o1))
   refine⟨l1,l4,_,_,rfl,rfl,o1,AE,(by show 5≤sizeLine;decide),fun l5 h5=>?_⟩
   have s5:=s4.trans (AF.new (o:=.lst ([V.ref q.sl,.ref q.lc,.ref q.ln,.ref q.lo]++[v])) h5)
   have kk:KeepX p H _:=kp1'.trans ((AF.keep s2).trans (kp3.trans (AF.keep s5)))
   have pen5:=pen3.same s5
   refine k l5 _ (YB (P.kx kk (hpen.kp kk)) AE (hv.same s5) ?_) (pen5.mono (by omega)) kk
   ·have all:∀ t∈Ea (fun _=>.non) [.i 5,.m 1,.b true,.s "2",.n,.t [.i 1]],SK 4 t=false:=by nofun
    exact all t mt
  ·refine⟨_,rfl,p,_,_,_,rfl,(by show(0:Int)<_;decide),Ag (by decide) (by decide),pen1,(by omega),fun r2 H2 a2 b2 pen2 kp2=>⟨_,_,rfl,rfl,?_⟩⟩
   have kp02:=kp1.trans kp2
   have P2:=P1.kx kp2 (pen1.kp kp2)
   have cut:∀ r:Int,0≤r→r<3→∃ lo hi:List V,Bi [.ref q.sl,.ref q.lc,.ref q.ln,.ref q.lo,.int q.r] none (some (1+r))=lo∧Bi [.ref q.sl,.ref q.lc,.ref q.ln,.ref q.lo,.int q.r] (some (1+r+1)) none=hi∧((lo=[.ref q.sl]∧hi=[.ref q.ln,.ref q.lo,.int q.r])∨(lo=[.ref q.sl,.ref q.lc]∧hi=[.ref q.lo,.int q.r])∨lo=[.ref q.sl,.ref q.lc,.ref q.ln]∧hi=[.int q.r]):=fun r h0 h1=>by
    have:r=0∨r=1∨r=2:=by omega
    rcases this with rfl | rfl | rfl
    ·exact⟨_,_,rfl,rfl,.inl ⟨rfl,rfl⟩⟩
    ·exact⟨_,_,rfl,rfl,.inr (.inl ⟨rfl,rfl⟩)⟩
    ·exact⟨_,_,rfl,rfl,.inr (.inr ⟨rfl,rfl⟩)⟩
   obtain⟨lo,hi,elo,ehi,alt⟩:=cut r2 a2 b2
   have llo:lo.length≤3∧hi.length≤3:=by rcases alt with⟨rfl,rfl⟩ | ⟨rfl,rfl⟩ | ⟨rfl,rfl⟩ <;> exact⟨by simp,by simp⟩
   refine⟨_,rfl,_,rfl,_,rfl,q.l,_,rfl,As.of P2.hl,fun l1 h1=>?_⟩
   rw[elo]
   have s1:=AF.new (o:=.lst lo) h1
   have o1:upd H2 l1 (.lst lo) l1=some (.lst lo):=AE
   have pen2':=pen2.same s1
   have nl1:=pen2.ne h1
   have kp2':=kp02.trans (AF.keep s1 (p:=p))
   generalize upd H2 l1 (.lst lo)=G at *
   refine HM (HH (NC (vs:=[]) (ρ:=fun _=>.non) (ds:=[.n,.i 7,.s "main",.d]) (fun _ h=>nomatch h) (by nofun) (by decide) fun l2 G2 L2 h2 s2=>?_))
   have nl2:=pen2'.ne h2
   have penG:=pen2'.same s2
   refine⟨_,rfl,p,_,_,_,rfl,(by show(0:Int)<_;decide),Ag (by decide) (by decide),penG,(by omega),fun r3 H3 a3 b3 pen3 kp3=>?_⟩
   have L3:=L2.kx nl2 penG pen3 kp3
   obtain⟨us,v,t,ol,ev,mt,hv⟩:=Lz L3 a3 (by rw[Av];exact b3)
   refine⟨l2,_,_,_,rfl,rfl,As.of ol,ev,fun l4 h4=>?_⟩
   have s4:=AF.new (o:=.lst [v]) h4
   have o1:=s4 _ _ (kp3 _ _ nl1 (s2 _ _ o1))
   have kp3':KeepX p H _:=kp2'.trans ((AF.keep s2).trans (kp3.trans (AF.keep s4)))
   have P4:=P.kx kp3' (hpen.kp kp3')
   refine⟨l1,l4,_,_,rfl,rfl,o1,AE,BJ (by rw[List.length_singleton];omega),fun l5 h5=>?_⟩
   have s5:=AF.new (o:=.lst (lo++[v])) h5
   refine⟨_,rfl,_,rfl,_,_,rfl,rfl,_,rfl,q.l,_,rfl,As.of (s5 _ _ P4.hl),fun l6 h6=>?_⟩
   rw[ehi]
   have s6:=AF.new (o:=.lst hi) h6
   refine⟨l5,l6,_,_,rfl,rfl,s6 _ _ AE,AE,BJ (by rw[List.length_append,List.length_singleton];omega),fun l7 h7=>?_⟩
   have s7:=AF.new (o:=.lst (lo++[v]++hi)) h7
   have s47:=(s5.trans s6).trans s7
   have kk:KeepX p H _:=kp3'.trans (AF.keep s47)
   have hv7:=(hv.same s4).same s47
   have PF:=P.kx kk (hpen.kp kk)
   have nr:W0 t=true:=by
    have all:∀ t∈Ea (fun _=>.non) [.n,.i 7,.s "main",.d],W0 t=true:=by nofun
    exact all t mt
   have rv:BU _ v none:=⟨t,hv7,nr⟩
   refine k l7 _ ?_ ((pen3.same (s4.trans s47)).mono (by omega)) kk
   rcases alt with⟨rfl,rfl⟩ | ⟨rfl,rfl⟩ | ⟨rfl,rfl⟩
   ·exact Sf PF AE rv rfl
   ·exact Sg PF AE rv rfl
   ·exact Sh PF AE rv rfl
theorem HF:AZ ["_law_script","_law_pen_here","_law_sheets_here","_law_cells_here","_law_pairs","_law_parts","_law_book","_law_k"] ["_law_script"] (AO RH):=BC
theorem U2 (T:Txt w K mg t)(hC:∀ q∈[(t.fe,t.d7)],PySem.W.CodeHd base q.1 q.2)(hB:BM mg base):A1 P w K mg base Bo 60 t.du t.dv ["_law_script"] (Qy K t.d7):=by
 have D:=T.fy
 refine D.fn.okX HF ?_ (fun cdv A outer s H vs Q E hr h Z hZ=>?_)
 ·rintro _ _ _ _ ⟨a,ns,rfl,_⟩
  rfl
 ·obtain⟨a,ns,rfl,hS,hlen,hP,k⟩:=h
  have hC1:PySem.W.CodeHd base t.fe t.d7:=hC (t.fe,t.d7) (by simp)
  have hu1:=So hr
  have hun:=UQ hr
  refine hZ ⟨_,((AG (Af (i:=1) HF.nd rfl (Or.inl rfl) (AR T.d9 (MB T) (hr.mono (by omega)) (AA (AK 0) AC)))
   (AG (Af (i:=2) HF.nd rfl (Or.inl rfl) (AR T.fn (Iz T) (hr.mono (by omega)) (AA (AK 1) AC)))
   (AG (Af (i:=3) HF.nd rfl (Or.inr rfl) (AR T.fr (JT T) (hr.mono (by omega)) (AA (AK 1) (AA (AK 2) (BP (AR T.d8 (AN T) (hr.mono (by omega)) (AA (AK 1) (AB AD AC))) (AB AD AC))))))
   (AG (KA (i:=4) HF.nd rfl rfl (fv:=["_law_cells_here"]) (js:=[3]) (cl:=[("_law_cells_here",s.heap.objs.size+1)]) rfl (by with_unfolding_all rfl) ⟨rfl,by nofun,by nofun,rfl,by nofun,by nofun,(List.forall_mem_cons.mpr ⟨⟨rfl,rfl,rfl⟩,(List.forall_mem_nil _)⟩),(List.forall_mem_cons.mpr ⟨rfl,(List.forall_mem_nil _)⟩),(.cons rfl .nil)⟩ (CM (AW (GS.call_sortD rfl) (by rfl) T.ga Jg (AA (AK 3) AC))) (fun _ _ _ _ _=>CO) (fun _ _ _ _ _=>(AL (AA (AK 0) (AQ (Ra hu1 (AK 1) (AK 0) (fun _ _=>rfl)) AC)))))
   (AG (Af (i:=5) HF.nd rfl (Or.inl rfl) (Ae (AA (AK 2) (AA (AK 4) (BP (AR T.fo (JS T) (hr.mono (by omega)) (AA (AK 1) (AA (AK 2) AC))) (BP (AR T.fp (Ki T) (hr.mono (by omega)) (AA (AK 1) (AA (AK 2) AC))) (BP (AR T.d8 (AN T) (hr.mono (by omega)) (AA (AK 1) (AB AD AC))) AC)))))))
   (AG (Af (i:=6) HF.nd rfl (Or.inl rfl) (AR T.ff (Ix T hC1 hB) (hr.mono (by omega)) (AQ (AV Ai (AK 5) AD (fun _ _=>rfl)) (AQ (AV Ai (AK 5) AD (fun _ _=>rfl)) (AQ (AV Ai (AK 5) AD (fun _ _=>rfl)) (AQ (AV Ai (AK 5) AD (fun _ _=>rfl)) (AQ (AV Ai (AK 5) AD (fun _ _=>rfl)) AC)))))))
   (AG (Jy PassesOwn.never rfl (Dm rfl T.f0 (BG (An Bv AD (AR T.d8 (AN T) (hr.mono (by omega)) (AA (AK 1) (AB AD AC)))) AC)) (DR (i:=7) HF.nd rfl (Or.inl rfl))
   (AH (Ah (A5 (A4 (AR T.fs (HY T) (hr.mono (by omega)) (BP (AR T.fx (ML T) (hr.mono (by omega)) (AA (AK 5) (AA (AK 1) AC))) AC)))) (AH (AM BF)) AT)))
   (AH (AM (Ao (R0 (k:=30) hun) (AR T.ff (Ix T hC1 hB) (hr.mono (by omega)) (AQ (AV Ai (AK 5) AD (fun _ _=>rfl)) (AQ (AV Ai (AK 5) AD (fun _ _=>rfl)) (AQ (AV Ai (AK 5) AD (fun _ _=>rfl)) (AQ (AV Ai (AK 5) AD (fun _ _=>rfl)) (AQ (AV Ai (AK 5) AD (fun _ _=>rfl)) AC)))))) (AK 6) (AS _)))))))))))),?_⟩
  try dsimp only[BB,Au]
  refine⟨_,rfl,a,ns,rfl,hS,hlen,fun p H0 hp pen0 s0=>?_⟩
  have nP:t.d7≠p:=Am hP hp
  refine⟨_,rfl,p,_,_,rfl,pen0,(by omega),fun sl zs H1 hsl ok zss pen1 kp1=>?_⟩
  have hP1:=kp1 _ _ nP (s0 _ _ hP)
  have nsp:=GI pen1 hsl ok
  refine⟨_,rfl,_,rfl,_,rfl,p,_,_,_,rfl,(by show(0:Int)<_;decide),Ag (by decide) (by decide),pen1,(by omega),fun r2 H2 a2 b2 pen2 kp2=>?_⟩
  obtain⟨m,rfl⟩:∃ m:Nat,r2=(m:Int):=⟨r2.toNat,by omega⟩
  refine⟨p,sl,zs,_,m,_,rfl,(by omega),pen2,(by omega),kp2 _ _ nsp hsl,ok,fun d kvs cs H3 hd0 od dc dk l12 pen3 kp3=>?_⟩
  have hsl3:=kp3 _ _ nsp (kp2 _ _ nsp hsl)
  have hP3:=kp3 _ _ nP (kp2 _ _ nP hP1)
  have ldc:kvs.length=cs.length:=Paired.length dc
  refine⟨_,rfl,d,kvs,cs.map (·.1),rfl,.inl od,dc.keys,(by omega),fun l1 xs1 ks hl1 pk rk pce=>⟨l1,rfl,⟨_,As.of AE⟩,fun D hD=>?_⟩⟩
  have s1:=AF.new (o:=.lst xs1) hl1
  have ol1:upd H3 l1 (.lst xs1) l1=some (.lst xs1):=AE
  have dc8:=dc.kp (Kp.same s1)
  have od8:=s1 _ _ od
  have pen8:=pen3.same s1
  have pce8:Paired (GS.CeV (upd H3 l1 (.lst xs1))) xs1 ks:=Paired.imp' (fun _ _ ⟨b,x,y⟩=>⟨b,x,s1 _ _ y⟩) pce
  generalize upd H3 l1 (.lst xs1)=H8 at *
  have lx:xs1.length=ks.length:=Paired.length pce8
  have lk:=pk.length_eq
  rw[List.length_map]at lk
  have kmem:∀{c},c∈ks→c∈cs.map (·.1):=fun h=>pk.subset h
  refine⟨fun i m H4=>m=xs1.length-i∧i≤xs1.length∧∃(ui:List V) (ci:List Pr),H4 D=some (.lst ui)∧ui.length=i∧Paired (EK H4) ui ci∧ci.map (·.1)=ks.take i∧(∀ p∈ci,p∈cs)∧AF H8 H4,⟨_,rfl,Nat.zero_le _,[],[],AE,rfl,.nil,rfl,(fun _ h=>nomatch h),AF.new hD⟩,?_⟩
  rintro i m H4 ⟨rfl,hi,ui,csd,oD,lu,pp,km,sub,s4⟩
  by_cases hlt:i<xs1.length
  ·refine .inr ⟨⟨_,_,As.of (s4 _ _ ol1),List.getElem?_eq_getElem hlt⟩,fun x H' y=>?_⟩
   obtain⟨e,y⟩:=y
   subst e
   have hx:=y _ (As.of (s4 _ _ ol1))
   obtain⟨c,hc,b,rfl,hb⟩:=BQ pce8 hx
   obtain⟨v,ct,ev,mc,hv⟩:=RG dc8 (kmem (List.mem_of_getElem? hc))
   refine⟨_,rfl,_,rfl,_,rfl,d,v,rfl,.inr ⟨kvs,GS.ckK c,b,.inl (s4 _ _ od8),rfl,s4 _ _ hb,ev.symm⟩,BH,fun q hq=>?_⟩
   have w:=AF.new (o:=.tup [.ref b,v]) hq
   have oq:upd H' q (.tup [.ref b,v]) q=some (.tup [.ref b,v]):=AE
   have oD3:=w _ _ oD
   have ob3:=w _ _ (s4 _ _ hb)
   have hv3:=(hv.kp (Kp.same s4)).kp (Kp.same w)
   have pp3:=Paired.imp' (fun _ _ (x:EK H' _ _)=>x.kp (Kp.same w)) pp
   have s43:=s4.trans w
   generalize upd H' q (.tup [.ref b,v])=H5 at *
   have q6:Kp H5 (upd H5 D (.lst (ui++[.ref q]))):=Kp.lst oD3 KeepX.upd
   refine⟨ui,oD3,DX (by omega),xs1.length-(i+1),(by omega),rfl,hlt,ui++[.ref q],csd++[(c,ct)],AE,by rw[List.length_append,lu];rfl,FM (Paired.imp' (fun _ _ x=>x.kp q6) pp3) (.cons ⟨q,b,v,rfl,q6 _ _ oq,q6 _ _ ob3,hv3.kp q6⟩ .nil),?_,fun p hp=>?_,fun b o e=>?_⟩
   ·rw[List.map_append,km,List.take_add_one,hc];rfl
   ·rcases List.mem_append.mp hp with z | z
    ·exact sub p z
    ·rw[List.mem_singleton.mp z];exact mc
   ·rw[Ab (Am e hD)];exact s43 _ _ e
  obtain rfl:i=xs1.length:=by omega
  rw[lx,List.take_length]at km
  refine .inl ⟨⟨_,As.of (s4 _ _ ol1),Nat.le_refl _⟩,?_⟩
  have nDp:D≠p:=pen8.ne hD
  have lcs:csd.length=ks.length:=by rw[← km,List.length_map]
  have ndd:(csd.map (·.1)).Nodup:=by rw[km];exact pk.symm.nodup dk.nd
  have cok:Fj zs csd:=⟨by omega,ndd,fun p hp=>dk.ok p (sub p hp)⟩
  have srd:WN csd csd:=⟨fun _ h=>h,List.Perm.refl _,by rw[km];exact rk⟩
  have s34:=s1.trans s4
  have hsl4:=s34 _ _ hsl3
  have hP4:=s34 _ _ hP3
  have pen4:=pen3.same s34
  clear dc dc8 od od8 s4 s1 pen8 pce8 pce hl1 ol1 hsl3 hP3
  refine⟨_,rfl,_,rfl,?_⟩
  refine⟨_,rfl,_,rfl,p,sl,zs,_,_,rfl,pen4,(by omega),hsl4,ok,fun ln us nes H5 hln0 oln en okn sbn pen5 kp5=>?_⟩
  have nln:=pen4.ne hln0
  have hsl5:=kp5 _ _ nsp hsl4
  refine⟨_,rfl,_,rfl,p,sl,zs,_,_,rfl,pen5,(by omega),hsl5,ok,fun lo ws oes H6 hlo0 olo eo oko sbo pen6 kp6=>?_⟩
  have nlo:=pen5.ne hlo0
  refine⟨_,rfl,p,_,_,_,rfl,(by show(0:Int)<_;decide),Ag (by decide) (by decide),pen6,(by omega),fun r7 H7 a7 b7 pen7 kp7=>⟨(by show 5≤sizeLine;decide),fun l hl=>?_⟩⟩
  obtain⟨q,eq⟩:∃ q:Pq,q=⟨l,sl,D,ln,lo,ui,us,ws,zs,csd,nes,oes,r7⟩:=⟨_,rfl⟩
  have sl':=AF.new (o:=.lst [.ref sl,.ref D,.ref ln,.ref lo,.int r7]) hl
  have k47:KeepX p H4 H7:=kp5.trans (kp6.trans kp7)
  have k48:KeepX p H4 (upd H7 l (.lst [.ref sl,.ref D,.ref ln,.ref lo,.int r7])):=k47.trans (AF.keep sl')
  have k58:KeepX p H5 (upd H7 l (.lst [.ref sl,.ref D,.ref ln,.ref lo,.int r7])):=kp6.trans (kp7.trans (AF.keep sl'))
  have k68:KeepX p H6 (upd H7 l (.lst [.ref sl,.ref D,.ref ln,.ref lo,.int r7])):=kp7.trans (AF.keep sl')
  have P8:Gk (upd H7 l (.lst [.ref sl,.ref D,.ref ln,.ref lo,.int r7])) p q:=by
   rw[eq]
   exact⟨AE,k48 _ _ nsp hsl4,k48 _ _ nDp oD,k58 _ _ nln oln,k68 _ _ nlo olo,Paired.imp' (fun _ _ x=>x.kp (pen4.kp k48)) pp,Paired.imp' (fun _ _ x=>x.kp (pen5.kp k58)) en,Paired.imp' (fun _ _ x=>x.kp (pen6.kp k68)) eo,ok,zss,cok,MA okn sbn,MA oko sbo,by omega,a7,by omega,pen7.ne hl,nsp,nDp,nln,nlo⟩
  have pen8:=pen7.same sl'
  have hP8:=k48 _ _ nP hP4
  have eqs:q.l=l∧q.sl=sl∧q.lc=D∧q.ln=ln∧q.lo=lo∧q.r=r7:=by rw[eq];exact⟨rfl,rfl,rfl,rfl,rfl,rfl⟩
  obtain⟨e1,e2,e3,e4,e5,e6⟩:=eqs
  generalize upd H7 l (.lst [.ref sl,.ref D,.ref ln,.ref lo,.int r7])=H8 at *
  clear k47 k48 k58 k68 sl' eq en eo pp oD oln olo hsl4 hsl5 hP4 kp5 kp6 kp7 pen4 pen5 pen6 pen7 okn oko sbn sbo hlo0 hln0 hl
  subst e1 e2 e3 e4 e5 e6
  refine⟨_,rfl,q.l,_,_,_,rfl,rfl,As.of P8.hl,rfl,_,rfl,q.l,_,_,_,rfl,rfl,As.of P8.hl,rfl,_,rfl,q.l,_,_,_,rfl,rfl,As.of P8.hl,rfl,_,rfl,q.l,_,_,_,rfl,rfl,As.of P8.hl,rfl,_,rfl,q.l,_,_,_,rfl,rfl,As.of P8.hl,rfl,q.sl,q.lc,q.ln,q.lo,q.xs,q.us,q.ws,q.zs,q.cs,q.ns,q.os,q.r,rfl,P8.hsl,P8.hlc,P8.hln,P8.hlo,P8.pc,P8.pn,P8.po,P8.zok,P8.cok,P8.nok,P8.ook,P8.r0,P8.r4,Bw.nil hP8,fun bk cs1 ns1 os1 H9 bk9 sc1 sn1 so1 kx9 tb9=>?_⟩
  have P9:=P8.tb hP8 kx9
  have pen9:=pen8.tb hP8 kx9
  refine⟨_,rfl,p,_,_,_,rfl,(by show(0:Int)<_;decide),Ag (by decide) (by decide),pen9,(by omega),fun r10 H10 a10 b10 pen10 kp10=>⟨_,_,rfl,rfl,(1+r10),rfl,(by omega),(by omega),?_⟩⟩
  have tb10:=Fs.Bw.kl tb9 pen9.ob.choose_spec kp10
  have P10:=P9.kx kp10 (pen9.kp kp10)
  have bk10:=bk9.kp (pen9.kp kp10)
  clear P8 P9 pen8 pen9 hP8 kx9 tb9 bk9 kp10
  refine JW (n:=(1+r10).toNat) (fun i σ H3=>∃ x7:Option V,σ=[some (.ref a),some (.ref p),some (.ref q.sl),some (.ref d),some (.ref q.lc),some (.ref q.l),some (.ref bk),x7]∧Gk H3 p q∧BD K (a,ns) H3 p (10000+5*i)∧Bw H3 t.d7 qS∧Ig H3 bk q.zs cs1 ns1 os1 q.r) ⟨none,rfl,P10,pen10.mono (by omega),tb10,bk10⟩ ?_ ?_
  ·rintro i σ H3 hi ⟨x7,rfl,P3,pen3,tb3,bk3⟩
   refine⟨_,rfl,_,rfl,p,q,_,_,rfl,pen3,(by omega),P3,fun l' H4 bad pen4 kp4=>⟨l',rfl,bad,fun H5 s5=>⟨true,rfl,AY ?_⟩⟩⟩
   exact⟨_,rfl,(P3.kx kp4 (pen3.kp kp4)).same s5,(pen4.same s5).mono (by omega),(Fs.Bw.kl tb3 pen3.ob.choose_spec kp4).sm s5,(bk3.kp (pen3.kp kp4)).kp (Kp.same s5)⟩
  ·rintro σ H3 ⟨x7,rfl,P3,pen3,tb3,bk3⟩
   refine⟨_,rfl,q.l,_,_,_,rfl,rfl,As.of P3.hl,rfl,_,rfl,q.l,_,_,_,rfl,rfl,As.of P3.hl,rfl,_,rfl,q.l,_,_,_,rfl,rfl,As.of P3.hl,rfl,_,rfl,q.l,_,_,_,rfl,rfl,As.of P3.hl,rfl,_,rfl,q.l,_,_,_,rfl,rfl,As.of P3.hl,rfl,q.sl,q.lc,q.ln,q.lo,q.xs,q.us,q.ws,q.zs,q.cs,q.ns,q.os,q.r,rfl,P3.hsl,P3.hlc,P3.hln,P3.hlo,P3.pc,P3.pn,P3.po,P3.zok,P3.cok,P3.nok,P3.ook,P3.r0,P3.r4,tb3,fun b2 cs2 ns2 os2 H4 bk4 sc2 sn2 so2 kx4 _=>?_⟩
   obtain⟨u,hu'⟩:=Fs.Bw.tbl tb3
   have bk5:=bk3.kp (fun b xs e=>kx4 _ _ (CJ e hu' (by intro z;cases z)) e)
   obtain rfl:cs2=cs1:=sc2.uniq (fun a b=>GS.clt_eq) P3.cok.2.1 (fun e he=>he) (List.Perm.refl _) sc1
   obtain rfl:ns2=ns1:=sn2.uniq (fun a b=>GS.slt_eq) P3.nok.2.1 (fun e he=>he) (List.Perm.refl _) sn1
   obtain rfl:os2=os1:=so2.uniq (fun a b=>GS.slt_eq) P3.ook.2.1 (fun e he=>he) (List.Perm.refl _) so1
   have cok2:Fj q.zs cs2:=⟨by have:=sc2.perm.length_eq;rw[List.length_map,List.length_map]at this;rw[this];exact P3.cok.1,sc2.perm.symm.nodup P3.cok.2.1,fun e he=>P3.cok.2.2 e (sc2.sub e he)⟩
   obtain⟨xs,ys,y1,y2,y3,y4⟩:=U0 (Uz bk4 bk5 P3.zok.2.1 cok2 (P3.nok.srt sn2) (P3.ook.srt so2))
   exact⟨_,rfl,b2,bk,xs,ys,19,rfl,rfl,y1,y2,y3,(by decide),y4,k _⟩
end
def NL:Nat→(List Value→Prop)→Prop
 | 0,p=>p []
 | n+1,p=>∀ a,NL n fun us=>p (a::us)
theorem NL.of:∀(n:Nat) {p:List Value→Prop},NL n p→∀ us,us.length=n→p us
 | 0,_,h,us,e=>by
  obtain rfl:=List.length_eq_zero_iff.mp e
  exact h
 | n+1,_,h,us,e=>by
  cases us with
  | nil=>cases e
  | cons a r=>exact NL.of n (h a) r (Nat.succ.inj e)
def Ck (K:PySem.W.Frag)(n:Str)(s:Stmt):Prop:=∃(f:Addr) (od an:Option Addr) (sl:Array (Option Value)) (oc kV dc pm cd ct:Value),PySem.W.nsIn K mainGlobals n=some (some (.ref f))∧K.lookup f=some ⟨oc,od,.func (PySem.W.fnOf n n (EC s) (B8 s) (AO s) .none kV dc pm an cd ct),sl⟩∧PySem.W.codeIn K cd n=true∧PySem.W.keepIn K (.ref f)=true
theorem Wu {K:PySem.W.Frag}{n:Str}{s:Stmt}{f:Addr}{od an:Option Addr}{sl:Array (Option Value)}{oc kV dc pm cd ct:Value}(a:PySem.W.nsIn K mainGlobals n=some (some (.ref f)))(l:K.lookup f=some ⟨oc,od,.func (PySem.W.fnOf n n (EC s) (B8 s) (AO s) .none kV dc pm an cd ct),sl⟩)(c:PySem.W.codeIn K cd n=true)(k:PySem.W.keepIn K (.ref f)=true):Ck K n s:=⟨_,_,_,_,_,_,_,_,_,_,a,l,c,k⟩
theorem Ay {K:PySem.W.Frag}{h:Heap}{mg:Str→Option Value}{n:Str}{s:Stmt}(X:K.In h)(G:h.Ns mainGlobals mg)(C:Ck K n s)(ps:List Str)
 (b:∀(kV doc pm:Value) (an:Option Addr) (cdv ct:Value),NL ps.length fun us=>bindArgs (PySem.W.fnOf n n (EC s) (B8 s) (AO s) .none kV doc pm an cdv ct) ⟨us,[]⟩=pure (ps.zip us)):
 ∃ f fd,Df K mg n s ps f fd∧(∀ us,us.length=ps.length→bindArgs fd ⟨us,[]⟩=pure (ps.zip us))∧∀ c T,PySem.W.tabIn K n=some (c,T)→fd.code=.ref c:=by
 obtain⟨f,od,an,sl,oc,kV,dc,pm,cd,ct,ha,hl,hc,hk⟩:=C
 have F:=Tq (st:=s) hl hc hk
 exact⟨f,_,⟨F,PySem.W.mg_of X G ha,F.binds fun _ _ _ _ _ _ us hl=>NL.of _ (b _ _ _ _ _ _) us hl⟩,NL.of _ (b _ _ _ _ _ _),fun c T ht=>Rj F ha ht⟩
theorem U3 {l:PySem.W.OpenLaw}{w:World}{K:PySem.W.Frag}{h:Heap}{q:Program}{loose:List Str}{mean:ExcName→Option Value}{mg mb:Str→Option Value}{fa:Addr}(X:K.In h)(T0:PyProof.Rows.Top q loose mean mg mb h)(hfa:mg "law"=some (.ref fa))
 {u_LETTERS:Value} {u_LONGEST_NAME:Value} {u_LAST_ROW:Value} {u_LAST_COLUMN:Value} {u_SIGNS:Value} {w_FAULTS:Addr} {o_FAULTS:Obj} {u_MOST_SIGNS:Value} {u_GREATEST_WHOLE:Value} {u_MOST_PARTS:Value} {u_MOST_DEEP:Value} {u_MOST_OWN_PARTS:Value} {u_MOST_PARAMS:Value} {u_GREATEST_WRITTEN:Value} {w_WORDS:Addr} {o_WORDS:Obj} {w_OP_SIGNS:Addr} {o_OP_SIGNS:Obj} {w_SUMIF_SIGNS:Addr} {o_SUMIF_SIGNS:Obj} {w_LENGTHS:Addr} {o_LENGTHS:Obj} {w_PART_PLACES:Addr} {o_PART_PLACES:Obj} {u_MOST_SHEETS:Value} {u_MOST_CELLS:Value} {u_MOST_NAMES:Value} {u_MOST_OWNS:Value} {u_MOST_ROUNDS:Value} {e_SheetError e_NoBook e_NoName e_NoNumber e_NoPlace e_NoRedo e_NoRow e_NoText e_NoUndo e_TooGreat:Addr} {cd_NoBook:ClassData}  {cc_sorted_by_first pp_sorted_by_first:Addr}
 (C0:Ck K "_law_next" Ep)
 (C1:Ck K "_law_pen" Fk)
 (C2:Ck K "is_whole" Fl)
 (C3:Ck K "greatest_divisor" CB)
 (C4:Ck K "is_number" Er)
 (C5:Ck K "is_sheet_name" Cn)
 (C6:Ck K "is_within" Es)
 (C7:Ck K "is_cell" Gn)
 (C8:Ck K "has_few_figures" CS)
 (C9:Ck K "is_short_number" CT)
 (C10:Ck K "is_text" Go)
 (C11:Ck K "is_fault_word" Co)
 (C12:Ck K "is_value" Fn)
 (C13:Ck K "parts_of" Fo)
 (C14:Ck K "all_parts" Et)
 (C15:Ck K "count_parts" Dg)
 (C16:Ck K "is_formula_name" CU)
 (C17:Ck K "is_one_of" Eu)
 (C18:Ck K "is_written_value" CC)
 (C19:Ck K "is_sheet_or_none" CD)
 (C20:Ck K "is_corner" Ev)
 (C21:Ck K "is_column_end" Cp)
 (C22:Ck K "is_reference" DF)
 (C23:Ck K "is_called" Ew)
 (C24:Ck K "is_param" Fp)
 (C25:Ck K "has_form" Fq)
 (C26:Ck K "is_tree" Gp)
 (C27:Ck K "is_formula" EL)
 (C28:Ck K "is_tuple_of" Dh)
 (C29:Ck K "is_up_to" Fr)
 (C30:Ck K "is_row" Il)
 (C31:Ck K "tells_sheets" DG)
 (C32:Ck K "is_book_formula" CV)
 (C33:Ck K "is_name_pair" DH)
 (C34:Ck K "is_own" Im)
 (C35:Ck K "is_content" EM)
 (C36:Ck K "is_cell_pair" DI)
 (C37:Ck K "has_each_once" Cq)
 (C38:Ck K "are_sheets" EN)
 (C39:Ck K "are_cells" Ex)
 (C40:Ck K "are_names" Ey)
 (C41:Ck K "are_owns" Ft)
 (C42:Ck K "sorted_by_first" CW)
 (C43:Ck K "book_of" Gq)
 (C44:Ck K "_law_plain" EO)
 (C45:Ck K "_law_corner" Di)
 (C46:Ck K "_law_sheet_told" CY)
 (C47:Ck K "_law_place" EQ)
 (C48:Ck K "_law_leaf" Ez)
 (C49:Ck K "_law_many" E1)
 (C50:Ck K "_law_formula" DJ)
 (C51:Ck K "_law_sheets" Dj)
 (C52:Ck K "_law_names" ER)
 (C53:Ck K "_law_owns" E2)
 (C54:Ck K "_law_content" DK)
 (C55:Ck K "_law_cells" ES)
 (C56:Ck K "_law_refused" DL)
 (C57:Ck K "_law_odd_sheets" CZ)
 (C58:Ck K "_law_odd_cells" Ce)
 (C59:Ck K "_law_odd_names" Cf)
 (C60:Ck K "_law_odd_owns" Cr)
 (C61:Ck K "_law_odd" Fu)
 (C62:Ck K "law" RH)
 (z_len:PySem.W.nsIn K mainGlobals "len"=some none)
 (z_range:PySem.W.nsIn K mainGlobals "range"=some none)
 (z_isinstance:PySem.W.nsIn K mainGlobals "isinstance"=some none)
 (z_int:PySem.W.nsIn K mainGlobals "int"=some none)
 (z_bool:PySem.W.nsIn K mainGlobals "bool"=some none)
 (z_str:PySem.W.nsIn K mainGlobals "str"=some none)
 (z_tuple:PySem.W.nsIn K mainGlobals "tuple"=some none)
 (z_list:PySem.W.nsIn K mainGlobals "list"=some none)
 (z_all:PySem.W.nsIn K mainGlobals "all"=some none)
 (z_zip:PySem.W.nsIn K mainGlobals "zip"=some none)
 (z_min:PySem.W.nsIn K mainGlobals "min"=some none)
 (z_sorted:PySem.W.nsIn K mainGlobals "sorted"=some none)
 (z_set:PySem.W.nsIn K mainGlobals "set"=some none)
 (z_abs:PySem.W.nsIn K mainGlobals "abs"=some none)
 (z_reversed:PySem.W.nsIn K mainGlobals "reversed"=some none)
 (z_sum:PySem.W.nsIn K mainGlobals "sum"=some none)
 (z_dict:PySem.W.nsIn K mainGlobals "dict"=some none)
 (z_ValueError:PySem.W.nsIn K mainGlobals "ValueError"=some none)
 (q_SheetError:PySem.W.nsIn K mainGlobals "SheetError"=some (some (.ref e_SheetError)))
 (q_NoBook:PySem.W.nsIn K mainGlobals "NoBook"=some (some (.ref e_NoBook)))
 (q_NoName:PySem.W.nsIn K mainGlobals "NoName"=some (some (.ref e_NoName)))
 (q_NoNumber:PySem.W.nsIn K mainGlobals "NoNumber"=some (some (.ref e_NoNumber)))
 (q_NoPlace:PySem.W.nsIn K mainGlobals "NoPlace"=some (some (.ref e_NoPlace)))
 (q_NoRedo:PySem.W.nsIn K mainGlobals "NoRedo"=some (some (.ref e_NoRedo)))
 (q_NoRow:PySem.W.nsIn K mainGlobals "NoRow"=some (some (.ref e_NoRow)))
 (q_NoText:PySem.W.nsIn K mainGlobals "NoText"=some (some (.ref e_NoText)))
 (q_NoUndo:PySem.W.nsIn K mainGlobals "NoUndo"=some (some (.ref e_NoUndo)))
 (q_TooGreat:PySem.W.nsIn K mainGlobals "TooGreat"=some (some (.ref e_TooGreat)))
 (g_LETTERS:PySem.W.nsIn K mainGlobals "LETTERS"=some (some u_LETTERS))
 (r_LETTERS:Aw (.str (Str.ofString "abcdefghijklmnopqrstuvwxyz")) u_LETTERS)
 (g_LONGEST_NAME:PySem.W.nsIn K mainGlobals "LONGEST_NAME"=some (some u_LONGEST_NAME))
 (r_LONGEST_NAME:Aw (.int 6) u_LONGEST_NAME)
 (g_LAST_ROW:PySem.W.nsIn K mainGlobals "LAST_ROW"=some (some u_LAST_ROW))
 (r_LAST_ROW:Aw (.int 16) u_LAST_ROW)
 (g_LAST_COLUMN:PySem.W.nsIn K mainGlobals "LAST_COLUMN"=some (some u_LAST_COLUMN))
 (r_LAST_COLUMN:Aw (.int 8) u_LAST_COLUMN)
 (g_SIGNS:PySem.W.nsIn K mainGlobals "SIGNS"=some (some u_SIGNS))
 (r_SIGNS:Aw (.str (Str.ofString "abcdefghijklmnopqrstuvwxyz0123456789 ")) u_SIGNS)
 (g_FAULTS:PySem.W.nsIn K mainGlobals "FAULTS"=some (some (.ref w_FAULTS)))
 (h_FAULTS:K.lookup w_FAULTS=some o_FAULTS)
 (r_FAULTS:o_FAULTS.cls=.type "tuple"∧∃ its n,o_FAULTS.data=.seq its n∧its.size≤sizeLine∧A3 (EG.map V.str) its.toList)
 (g_MOST_SIGNS:PySem.W.nsIn K mainGlobals "MOST_SIGNS"=some (some u_MOST_SIGNS))
 (r_MOST_SIGNS:Aw (.int 20) u_MOST_SIGNS)
 (g_GREATEST_WHOLE:PySem.W.nsIn K mainGlobals "GREATEST_WHOLE"=some (some u_GREATEST_WHOLE))
 (r_GREATEST_WHOLE:Aw (.int 999999999999999999999999999999) u_GREATEST_WHOLE)
 (g_MOST_PARTS:PySem.W.nsIn K mainGlobals "MOST_PARTS"=some (some u_MOST_PARTS))
 (r_MOST_PARTS:Aw (.int 24) u_MOST_PARTS)
 (g_MOST_DEEP:PySem.W.nsIn K mainGlobals "MOST_DEEP"=some (some u_MOST_DEEP))
 (r_MOST_DEEP:Aw (.int 8) u_MOST_DEEP)
 (g_MOST_OWN_PARTS:PySem.W.nsIn K mainGlobals "MOST_OWN_PARTS"=some (some u_MOST_OWN_PARTS))
 (r_MOST_OWN_PARTS:Aw (.int 3) u_MOST_OWN_PARTS)
 (g_MOST_PARAMS:PySem.W.nsIn K mainGlobals "MOST_PARAMS"=some (some u_MOST_PARAMS))
 (r_MOST_PARAMS:Aw (.int 3) u_MOST_PARAMS)
 (g_GREATEST_WRITTEN:PySem.W.nsIn K mainGlobals "GREATEST_WRITTEN"=some (some u_GREATEST_WRITTEN))
 (r_GREATEST_WRITTEN:Aw (.int 999999999) u_GREATEST_WRITTEN)
 (g_WORDS:PySem.W.nsIn K mainGlobals "WORDS"=some (some (.ref w_WORDS)))
 (h_WORDS:K.lookup w_WORDS=some o_WORDS)
 (r_WORDS:o_WORDS.cls=.type "tuple"∧∃ its n,o_WORDS.data=.seq its n∧its.size≤sizeLine∧A3 S7 its.toList)
 (g_OP_SIGNS:PySem.W.nsIn K mainGlobals "OP_SIGNS"=some (some (.ref w_OP_SIGNS)))
 (h_OP_SIGNS:K.lookup w_OP_SIGNS=some o_OP_SIGNS)
 (r_OP_SIGNS:o_OP_SIGNS.cls=.type "tuple"∧∃ its n,o_OP_SIGNS.data=.seq its n∧its.size≤sizeLine∧A3 UV its.toList)
 (g_SUMIF_SIGNS:PySem.W.nsIn K mainGlobals "SUMIF_SIGNS"=some (some (.ref w_SUMIF_SIGNS)))
 (h_SUMIF_SIGNS:K.lookup w_SUMIF_SIGNS=some o_SUMIF_SIGNS)
 (r_SUMIF_SIGNS:o_SUMIF_SIGNS.cls=.type "tuple"∧∃ its n,o_SUMIF_SIGNS.data=.seq its n∧its.size≤sizeLine∧A3 U6 its.toList)
 (g_LENGTHS:PySem.W.nsIn K mainGlobals "LENGTHS"=some (some (.ref w_LENGTHS)))
 (h_LENGTHS:K.lookup w_LENGTHS=some o_LENGTHS)
 (r_LENGTHS:T4 w o_LENGTHS Op)
 (n_LENGTHS:(w_LENGTHS==sysModules)=false)
 (g_PART_PLACES:PySem.W.nsIn K mainGlobals "PART_PLACES"=some (some (.ref w_PART_PLACES)))
 (h_PART_PLACES:K.lookup w_PART_PLACES=some o_PART_PLACES)
 (r_PART_PLACES:∃ kvs,T4 w o_PART_PLACES kvs∧Paired (fun(kv:BY×V) (kt:BY×List V)=>kv.1=kt.1∧∃ a,kv.2=.ref a∧∀ H,A0 K H a kt.2) kvs Wy)
 (n_PART_PLACES:(w_PART_PLACES==sysModules)=false)
 (g_MOST_SHEETS:PySem.W.nsIn K mainGlobals "MOST_SHEETS"=some (some u_MOST_SHEETS))
 (r_MOST_SHEETS:Aw (.int 4) u_MOST_SHEETS)
 (g_MOST_CELLS:PySem.W.nsIn K mainGlobals "MOST_CELLS"=some (some u_MOST_CELLS))
 (r_MOST_CELLS:Aw (.int 60) u_MOST_CELLS)
 (g_MOST_NAMES:PySem.W.nsIn K mainGlobals "MOST_NAMES"=some (some u_MOST_NAMES))
 (r_MOST_NAMES:Aw (.int 8) u_MOST_NAMES)
 (g_MOST_OWNS:PySem.W.nsIn K mainGlobals "MOST_OWNS"=some (some u_MOST_OWNS))
 (r_MOST_OWNS:Aw (.int 6) u_MOST_OWNS)
 (g_MOST_ROUNDS:PySem.W.nsIn K mainGlobals "MOST_ROUNDS"=some (some u_MOST_ROUNDS))
 (r_MOST_ROUNDS:Aw (.int 4) u_MOST_ROUNDS)
 (ki_NoneType_int:PySem.W.kitOne K (.type "NoneType") (.type "int")=some false)
 (ki_NoneType_bool:PySem.W.kitOne K (.type "NoneType") (.type "bool")=some false)
 (ki_NoneType_str:PySem.W.kitOne K (.type "NoneType") (.type "str")=some false)
 (ki_NoneType_tuple:PySem.W.kitOne K (.type "NoneType") (.type "tuple")=some false)
 (ki_bool_int:PySem.W.kitOne K (.type "bool") (.type "int")=some true)
 (ki_bool_bool:PySem.W.kitOne K (.type "bool") (.type "bool")=some true)
 (ki_bool_str:PySem.W.kitOne K (.type "bool") (.type "str")=some false)
 (ki_bool_tuple:PySem.W.kitOne K (.type "bool") (.type "tuple")=some false)
 (ki_int_int:PySem.W.kitOne K (.type "int") (.type "int")=some true)
 (ki_int_bool:PySem.W.kitOne K (.type "int") (.type "bool")=some false)
 (ki_int_str:PySem.W.kitOne K (.type "int") (.type "str")=some false)
 (ki_int_tuple:PySem.W.kitOne K (.type "int") (.type "tuple")=some false)
 (ki_str_int:PySem.W.kitOne K (.type "str") (.type "int")=some false)
 (ki_str_bool:PySem.W.kitOne K (.type "str") (.type "bool")=some false)
 (ki_str_str:PySem.W.kitOne K (.type "str") (.type "str")=some true)
 (ki_str_tuple:PySem.W.kitOne K (.type "str") (.type "tuple")=some false)
 (ki_list_int:PySem.W.kitOne K (.type "list") (.type "int")=some false)
 (ki_list_bool:PySem.W.kitOne K (.type "list") (.type "bool")=some false)
 (ki_list_str:PySem.W.kitOne K (.type "list") (.type "str")=some false)
 (ki_list_tuple:PySem.W.kitOne K (.type "list") (.type "tuple")=some false)
 (ki_dict_int:PySem.W.kitOne K (.type "dict") (.type "int")=some false)
 (ki_dict_bool:PySem.W.kitOne K (.type "dict") (.type "bool")=some false)
 (ki_dict_str:PySem.W.kitOne K (.type "dict") (.type "str")=some false)
 (ki_dict_tuple:PySem.W.kitOne K (.type "dict") (.type "tuple")=some false)
 (ki_tuple_int:PySem.W.kitOne K (.type "tuple") (.type "int")=some false)
 (ki_tuple_bool:PySem.W.kitOne K (.type "tuple") (.type "bool")=some false)
 (ki_tuple_str:PySem.W.kitOne K (.type "tuple") (.type "str")=some false)
 (ki_tuple_tuple:PySem.W.kitOne K (.type "tuple") (.type "tuple")=some true)
 (kist:PySem.W.kitOne K (.type "str") (.type "tuple")=some false)
 (kiit:PySem.W.kitOne K (.type "int") (.type "tuple")=some false)
 (kib:PySem.W.kitOne K (.type "int") (.type "bool")=some false)
 (exm:PySem.W.exmOne K (.ref e_NoBook) (.ref e_SheetError)=some true)
 (kit1:PySem.W.kitAny K (.ref e_NoBook) [.ref e_NoName,.ref e_NoNumber,.ref e_NoPlace,.ref e_NoRedo,.ref e_NoRow,.ref e_NoText,.ref e_NoUndo,.ref e_TooGreat]=some false)
 (kit3:PySem.W.kitOne K (.ref e_NoBook) (.type "ValueError")=some true)
 (ki_NoneType_list:PySem.W.kitOne K (.type "NoneType") (.type "list")=some false)
 (ki_bool_list:PySem.W.kitOne K (.type "bool") (.type "list")=some false)
 (ki_int_list:PySem.W.kitOne K (.type "int") (.type "list")=some false)
 (ki_str_list:PySem.W.kitOne K (.type "str") (.type "list")=some false)
 (ki_dict_list:PySem.W.kitOne K (.type "dict") (.type "list")=some false)
 (x1_NoBook:PySem.W.excIn K e_NoBook [.type "ValueError",.type "Exception",.type "BaseException",.type "object"] "ValueError.__new__"=true)
 (y1_NoBook:PySem.W.clsIn K e_NoBook=some cd_NoBook)
 (y2_NoBook:PySem.W.findIn K (.ref e_NoBook) "__getattribute__"=some (some (.builtin "BaseException.__getattribute__")))
 (y3_NoBook:PySem.W.findIn K (.ref e_NoBook) "__getattr__"=some none)
 (y4_NoBook:PySem.W.findIn K (.ref e_NoBook) "__class__"=some (some (.builtin "object.__class__")))
 (y5_NoBook:PySem.W.mroIn K e_NoBook (.type "object")=some true)
 (y6_NoBook:PySem.W.mroIn K e_NoBook (.type "BaseException")=some true)
 (t_sorted_by_first:PySem.W.tabIn K "sorted_by_first"=some (cc_sorted_by_first,pp_sorted_by_first)) (rr_sorted_by_first:(PyProof.Rows.recsOf q).any (fun e=>e.name == "sorted_by_first")=true):
 ∃(fd:FuncData) (tabs:List (Addr×Addr)) (sp:Sp),(∀(s:Shared) (v:Value),BindsTo s fd ⟨[v],[]⟩ [("_law_script",v)])∧PySem.W.TabsAt tabs h∧(∀(H:Hp) (a:Addr) (ns:List Int),ns.length≤63→(∀ q∈tabs,H q.2=some (.tbl #[]))→As K H a (ns.map V.int)→sp [.ref a] H (fun v _=>v=.bl true) E0)∧∀ base:Heap,K.In base→base.Ns mainGlobals mg→(∀ q∈tabs,PySem.W.CodeHd base q.1 q.2)→BM mg base→A1 l.prog w K mg base Bo 60 fa fd ["_law_script"] sp:=by
 have G:=T0.g
 refine Vt fun X_ hX_=>?_
 obtain⟨f0,d0,D0,_⟩:=Ay X G C0 ["_law_pen_here","_law_many_here"] fun _ _ _ _ _ _ _ _=>rfl
 obtain⟨f1,d1,D1,_⟩:=Ay X G C1 ["_law_script"] fun _ _ _ _ _ _ _=>rfl
 obtain⟨f2,d2,D2,_⟩:=Ay X G C2 ["thing"] fun _ _ _ _ _ _ _=>rfl
 obtain⟨f3,d3,D3,_⟩:=Ay X G C3 ["one","other"] fun _ _ _ _ _ _ _ _=>rfl
 obtain⟨f4,d4,D4,_⟩:=Ay X G C4 ["top","bottom"] fun _ _ _ _ _ _ _ _=>rfl
 obtain⟨f5,d5,D5,_⟩:=Ay X G C5 ["thing"] fun _ _ _ _ _ _ _=>rfl
 obtain⟨f6,d6,D6,_⟩:=Ay X G C6 ["thing","last"] fun _ _ _ _ _ _ _ _=>rfl
 obtain⟨f7,d7,D7,_⟩:=Ay X G C7 ["thing"] fun _ _ _ _ _ _ _=>rfl
 obtain⟨f8,d8,D8,_⟩:=Ay X G C8 ["thing"] fun _ _ _ _ _ _ _=>rfl
 obtain⟨f9,d9,D9,_⟩:=Ay X G C9 ["top","bottom"] fun _ _ _ _ _ _ _ _=>rfl
 obtain⟨f10,d10,D10,_⟩:=Ay X G C10 ["thing"] fun _ _ _ _ _ _ _=>rfl
 obtain⟨f11,d11,D11,_⟩:=Ay X G C11 ["thing"] fun _ _ _ _ _ _ _=>rfl
 obtain⟨f12,d12,D12,_⟩:=Ay X G C12 ["thing"] fun _ _ _ _ _ _ _=>rfl
 obtain⟨f13,d13,D13,_⟩:=Ay X G C13 ["formula"] fun _ _ _ _ _ _ _=>rfl
 obtain⟨f14,d14,D14,_⟩:=Ay X G C14 ["formula"] fun _ _ _ _ _ _ _=>rfl
 obtain⟨f15,d15,D15,_⟩:=Ay X G C15 ["formula"] fun _ _ _ _ _ _ _=>rfl
 obtain⟨f16,d16,D16,_⟩:=Ay X G C16 ["thing"] fun _ _ _ _ _ _ _=>rfl
 obtain⟨f17,d17,D17,_⟩:=Ay X G C17 ["thing","texts"] fun _ _ _ _ _ _ _ _=>rfl
 obtain⟨f18,d18,D18,_⟩:=Ay X G C18 ["thing"] fun _ _ _ _ _ _ _=>rfl
 obtain⟨f19,d19,D19,_⟩:=Ay X G C19 ["thing"] fun _ _ _ _ _ _ _=>rfl
 obtain⟨f20,d20,D20,_⟩:=Ay X G C20 ["thing"] fun _ _ _ _ _ _ _=>rfl
 obtain⟨f21,d21,D21,_⟩:=Ay X G C21 ["thing"] fun _ _ _ _ _ _ _=>rfl
 obtain⟨f22,d22,D22,_⟩:=Ay X G C22 ["thing"] fun _ _ _ _ _ _ _=>rfl
 obtain⟨f23,d23,D23,_⟩:=Ay X G C23 ["thing"] fun _ _ _ _ _ _ _=>rfl
 obtain⟨f24,d24,D24,_⟩:=Ay X G C24 ["thing","params"] fun _ _ _ _ _ _ _ _=>rfl
 obtain⟨f25,d25,D25,_⟩:=Ay X G C25 ["thing","params"] fun _ _ _ _ _ _ _ _=>rfl
 obtain⟨f26,d26,D26,_⟩:=Ay X G C26 ["thing","params","deep"] fun _ _ _ _ _ _ _ _ _=>rfl
 obtain⟨f27,d27,D27,_⟩:=Ay X G C27 ["thing","params"] fun _ _ _ _ _ _ _ _=>rfl
 obtain⟨f28,d28,D28,_⟩:=Ay X G C28 ["thing","many"] fun _ _ _ _ _ _ _ _=>rfl
 obtain⟨f29,d29,D29,_⟩:=Ay X G C29 ["thing","most"] fun _ _ _ _ _ _ _ _=>rfl
 obtain⟨f30,d30,D30,_⟩:=Ay X G C30 ["thing","most"] fun _ _ _ _ _ _ _ _=>rfl
 obtain⟨f31,d31,D31,_⟩:=Ay X G C31 ["formula"] fun _ _ _ _ _ _ _=>rfl
 obtain⟨f32,d32,D32,_⟩:=Ay X G C32 ["thing","params"] fun _ _ _ _ _ _ _ _=>rfl
 obtain⟨f33,d33,D33,_⟩:=Ay X G C33 ["thing"] fun _ _ _ _ _ _ _=>rfl
 obtain⟨f34,d34,D34,_⟩:=Ay X G C34 ["thing"] fun _ _ _ _ _ _ _=>rfl
 obtain⟨f35,d35,D35,_⟩:=Ay X G C35 ["thing"] fun _ _ _ _ _ _ _=>rfl
 obtain⟨f36,d36,D36,_⟩:=Ay X G C36 ["thing","sheets"] fun _ _ _ _ _ _ _ _=>rfl
 obtain⟨f37,d37,D37,_⟩:=Ay X G C37 ["pairs"] fun _ _ _ _ _ _ _=>rfl
 obtain⟨f38,d38,D38,_⟩:=Ay X G C38 ["thing"] fun _ _ _ _ _ _ _=>rfl
 obtain⟨f39,d39,D39,_⟩:=Ay X G C39 ["thing","sheets"] fun _ _ _ _ _ _ _ _=>rfl
 obtain⟨f40,d40,D40,_⟩:=Ay X G C40 ["thing"] fun _ _ _ _ _ _ _=>rfl
 obtain⟨f41,d41,D41,_⟩:=Ay X G C41 ["thing"] fun _ _ _ _ _ _ _=>rfl
 obtain⟨f42,d42,D42,_,E42⟩:=Ay X G C42 ["pairs"] fun _ _ _ _ _ _ _=>rfl
 obtain⟨f43,d43,D43,_⟩:=Ay X G C43 ["sheets","cells","names","owns","rounds"] fun _ _ _ _ _ _ _ _ _ _ _=>rfl
 obtain⟨f44,d44,D44,_⟩:=Ay X G C44 ["_law_pen_here"] fun _ _ _ _ _ _ _=>rfl
 obtain⟨f45,d45,D45,_⟩:=Ay X G C45 ["_law_pen_here"] fun _ _ _ _ _ _ _=>rfl
 obtain⟨f46,d46,D46,_⟩:=Ay X G C46 ["_law_pen_here","_law_sheets_here","_law_told_on"] fun _ _ _ _ _ _ _ _ _=>rfl
 obtain⟨f47,d47,D47,_⟩:=Ay X G C47 ["_law_pen_here","_law_sheets_here","_law_told_on"] fun _ _ _ _ _ _ _ _ _=>rfl
 obtain⟨f48,d48,D48,_⟩:=Ay X G C48 ["_law_pen_here","_law_sheets_here","_law_told_on","_law_params"] fun _ _ _ _ _ _ _ _ _ _=>rfl
 obtain⟨f49,d49,D49,_⟩:=Ay X G C49 ["_law_pen_here","_law_sheets_here","_law_told_on","_law_params","_law_deep"] fun _ _ _ _ _ _ _ _ _ _ _=>rfl
 obtain⟨f50,d50,D50,_⟩:=Ay X G C50 ["_law_pen_here","_law_sheets_here","_law_told_on","_law_params","_law_deep"] fun _ _ _ _ _ _ _ _ _ _ _=>rfl
 obtain⟨f51,d51,D51,_⟩:=Ay X G C51 ["_law_pen_here"] fun _ _ _ _ _ _ _=>rfl
 obtain⟨f52,d52,D52,_⟩:=Ay X G C52 ["_law_pen_here","_law_sheets_here"] fun _ _ _ _ _ _ _ _=>rfl
 obtain⟨f53,d53,D53,_⟩:=Ay X G C53 ["_law_pen_here","_law_sheets_here"] fun _ _ _ _ _ _ _ _=>rfl
 obtain⟨f54,d54,D54,_⟩:=Ay X G C54 ["_law_pen_here","_law_sheets_here","_law_deep"] fun _ _ _ _ _ _ _ _ _=>rfl
 obtain⟨f55,d55,D55,_⟩:=Ay X G C55 ["_law_pen_here","_law_sheets_here","_law_many_here","_law_deep"] fun _ _ _ _ _ _ _ _ _ _=>rfl
 obtain⟨f56,d56,D56,_⟩:=Ay X G C56 ["_law_parts"] fun _ _ _ _ _ _ _=>rfl
 obtain⟨f57,d57,D57,_⟩:=Ay X G C57 ["_law_parts","_law_pen_here"] fun _ _ _ _ _ _ _ _=>rfl
 obtain⟨f58,d58,D58,_⟩:=Ay X G C58 ["_law_parts","_law_pen_here"] fun _ _ _ _ _ _ _ _=>rfl
 obtain⟨f59,d59,D59,_⟩:=Ay X G C59 ["_law_parts","_law_pen_here"] fun _ _ _ _ _ _ _ _=>rfl
 obtain⟨f60,d60,D60,_⟩:=Ay X G C60 ["_law_parts","_law_pen_here"] fun _ _ _ _ _ _ _ _=>rfl
 obtain⟨f61,d61,D61,_⟩:=Ay X G C61 ["_law_parts","_law_pen_here"] fun _ _ _ _ _ _ _ _=>rfl
 obtain⟨f62,d62,D62,BL,E62⟩:=Ay X G C62 ["_law_script"] fun _ _ _ _ _ _ _=>rfl
 have e:=hfa.symm.trans D62.gl
 cases e
 have T:Txt w K mg ⟨f0,d0,f1,d1,f2,d2,f3,d3,f4,d4,f5,d5,f6,d6,f7,d7,f8,d8,f9,d9,f10,d10,f11,d11,f12,d12,f13,d13,f14,d14,f15,d15,f16,d16,f17,d17,f18,d18,f19,d19,f20,d20,f21,d21,f22,d22,f23,d23,f24,d24,f25,d25,f26,d26,f27,d27,f28,d28,f29,d29,f30,d30,f31,d31,f32,d32,f33,d33,f34,d34,f35,d35,f36,d36,f37,d37,f38,d38,f39,d39,f40,d40,f41,d41,f42,d42,f43,d43,f44,d44,f45,d45,f46,d46,f47,d47,f48,d48,f49,d49,f50,d50,f51,d51,f52,d52,f53,d53,f54,d54,f55,d55,f56,d56,f57,d57,f58,d58,f59,d59,f60,d60,f61,d61,_,_,e_SheetError,e_NoBook,e_NoName,e_NoNumber,e_NoPlace,e_NoRedo,e_NoRow,e_NoText,e_NoUndo,e_TooGreat,cc_sorted_by_first,pp_sorted_by_first⟩:=⟨D0,D1,D2,D3,D4,D5,D6,D7,D8,D9,D10,D11,D12,D13,D14,D15,D16,D17,D18,D19,D20,D21,D22,D23,D24,D25,D26,D27,D28,D29,D30,D31,D32,D33,D34,D35,D36,D37,D38,D39,D40,D41,D42,D43,D44,D45,D46,D47,D48,D49,D50,D51,D52,D53,D54,D55,D56,D57,D58,D59,D60,D61,D62,PySem.W.mg_none_of X G z_len,PySem.W.mg_none_of X G z_range,PySem.W.mg_none_of X G z_isinstance,PySem.W.mg_none_of X G z_int,PySem.W.mg_none_of X G z_bool,PySem.W.mg_none_of X G z_str,PySem.W.mg_none_of X G z_tuple,PySem.W.mg_none_of X G z_list,PySem.W.mg_none_of X G z_all,PySem.W.mg_none_of X G z_zip,PySem.W.mg_none_of X G z_min,PySem.W.mg_none_of X G z_sorted,PySem.W.mg_none_of X G z_set,PySem.W.mg_none_of X G z_abs,PySem.W.mg_none_of X G z_reversed,PySem.W.mg_none_of X G z_sum,PySem.W.mg_none_of X G z_dict,PySem.W.mg_none_of X G z_ValueError,PySem.W.mg_of X G q_SheetError,PySem.W.mg_of X G q_NoBook,PySem.W.mg_of X G q_NoName,PySem.W.mg_of X G q_NoNumber,PySem.W.mg_of X G q_NoPlace,PySem.W.mg_of X G q_NoRedo,PySem.W.mg_of X G q_NoRow,PySem.W.mg_of X G q_NoText,PySem.W.mg_of X G q_NoUndo,PySem.W.mg_of X G q_TooGreat,⟨_,PySem.W.mg_of X G g_LETTERS,r_LETTERS⟩,⟨_,PySem.W.mg_of X G g_LONGEST_NAME,r_LONGEST_NAME⟩,⟨_,PySem.W.mg_of X G g_LAST_ROW,r_LAST_ROW⟩,⟨_,PySem.W.mg_of X G g_LAST_COLUMN,r_LAST_COLUMN⟩,⟨_,PySem.W.mg_of X G g_SIGNS,r_SIGNS⟩,⟨_,_,PySem.W.mg_of X G g_FAULTS,h_FAULTS,r_FAULTS⟩,⟨_,PySem.W.mg_of X G g_MOST_SIGNS,r_MOST_SIGNS⟩,⟨_,PySem.W.mg_of X G g_GREATEST_WHOLE,r_GREATEST_WHOLE⟩,⟨_,PySem.W.mg_of X G g_MOST_PARTS,r_MOST_PARTS⟩,⟨_,PySem.W.mg_of X G g_MOST_DEEP,r_MOST_DEEP⟩,⟨_,PySem.W.mg_of X G g_MOST_OWN_PARTS,r_MOST_OWN_PARTS⟩,⟨_,PySem.W.mg_of X G g_MOST_PARAMS,r_MOST_PARAMS⟩,⟨_,PySem.W.mg_of X G g_GREATEST_WRITTEN,r_GREATEST_WRITTEN⟩,⟨_,_,PySem.W.mg_of X G g_WORDS,h_WORDS,r_WORDS⟩,⟨_,_,PySem.W.mg_of X G g_OP_SIGNS,h_OP_SIGNS,r_OP_SIGNS⟩,⟨_,_,PySem.W.mg_of X G g_SUMIF_SIGNS,h_SUMIF_SIGNS,r_SUMIF_SIGNS⟩,⟨_,PySem.W.mg_of X G g_LENGTHS,_,h_LENGTHS,r_LENGTHS,n_LENGTHS⟩,(let ⟨k,d,p⟩:=r_PART_PLACES;⟨k,⟨_,PySem.W.mg_of X G g_PART_PLACES,_,h_PART_PLACES,d,n_PART_PLACES⟩,p⟩),⟨_,PySem.W.mg_of X G g_MOST_SHEETS,r_MOST_SHEETS⟩,⟨_,PySem.W.mg_of X G g_MOST_CELLS,r_MOST_CELLS⟩,⟨_,PySem.W.mg_of X G g_MOST_NAMES,r_MOST_NAMES⟩,⟨_,PySem.W.mg_of X G g_MOST_OWNS,r_MOST_OWNS⟩,⟨_,PySem.W.mg_of X G g_MOST_ROUNDS,r_MOST_ROUNDS⟩,ki_NoneType_int,ki_NoneType_bool,ki_NoneType_str,ki_NoneType_tuple,ki_bool_int,ki_bool_bool,ki_bool_str,ki_bool_tuple,ki_int_int,ki_int_bool,ki_int_str,ki_int_tuple,ki_str_int,ki_str_bool,ki_str_str,ki_str_tuple,ki_list_int,ki_list_bool,ki_list_str,ki_list_tuple,ki_dict_int,ki_dict_bool,ki_dict_str,ki_dict_tuple,ki_tuple_int,ki_tuple_bool,ki_tuple_str,ki_tuple_tuple,kist,kiit,kib,exm,kit1,kit3,ki_NoneType_list,ki_bool_list,ki_int_list,ki_str_list,ki_dict_list,⟨q_NoBook,x1_NoBook⟩,⟨by rw[y1_NoBook];rfl,y2_NoBook,y3_NoBook,y4_NoBook,y5_NoBook,y6_NoBook⟩,E42 _ _ t_sorted_by_first⟩
 refine hX_ ?_
 have x_sorted_by_first:PySem.W.CodeHd h cc_sorted_by_first pp_sorted_by_first∧h.get? pp_sorted_by_first=some (PySem.W.tabObj #[]):=by
  obtain⟨d,hd⟩:=UA rr_sorted_by_first
  exact PySem.W.tab_of T0 X hd t_sorted_by_first
 refine⟨_,[(cc_sorted_by_first,pp_sorted_by_first)],Qy K pp_sorted_by_first,fun s v=>.of_eq (BL [v] rfl),(List.forall_mem_cons.mpr ⟨x_sorted_by_first,List.forall_mem_nil _⟩),fun H a ns hl hT hS=>⟨a,ns,rfl,hS,hl,hT (cc_sorted_by_first,pp_sorted_by_first) (by simp),fun _=>rfl⟩,fun base _ _ hC hB=>U2 T hC hB⟩
theorem YC {l:PySem.W.OpenLaw}{q:Program}{loose:List Str}{XP:(Str→Option Value)→Heap→Prop}{YP:World→Heap→Prop}{d:DefRec}{K:Params→PySem.W.Frag}(hn:l.most=some 63)(hdf:d.params.defaults=[])
 (hY:∀(w:World) (h:Heap),YP w h→(K w.params).In h) (hKT:∀ w:World,PySem.W.noTabs (K w.params)=true)
 (F:∀(w:World) (mean:ExcName→Option Value) (mg mb:Str→Option Value) (fa:Addr) (h:Heap),(K w.params).In h→PyProof.Rows.Top q (PySem.W.looseW q loose) mean mg mb h→mg d.name=some (.ref fa)→
  ∃(fd:FuncData) (tabs:List (Addr×Addr)) (sp:Sp),(∀(s:Shared) (v:Value),BindsTo s fd ⟨[v],[]⟩ [("_law_script",v)])∧PySem.W.TabsAt tabs h∧(∀(H:Hp) (a:Addr) (ns:List Int),ns.length≤63→(∀ q∈tabs,H q.2=some (.tbl #[]))→As (K w.params) H a (ns.map V.int)→sp [.ref a] H (fun v _=>v=.bl true) E0)∧∀ base:Heap,(K w.params).In base→base.Ns mainGlobals mg→(∀ q∈tabs,PySem.W.CodeHd base q.1 q.2)→BM mg base→A1 l.prog w (K w.params) mg base Bo 60 fa fd ["_law_script"] sp):
 PySem.W.WalkO q loose XP YP l.row.toRowW d [] (fun f vs=>PySem.call f vs):=
 L2.QC (n:=63) (k:=60) (x:="_law_script") hn (by decide) hdf ⟨rfl,by decide,by decide⟩ hY hKT F
end Fs
open PySem PySem.W PyProof.Rows
set_option maxRecDepth 100000 in
set_option maxHeartbeats 0 in
theorem PySem.Challenge.cw_freshsheet_k26_no_books_holds : PySem.Challenge.rw_freshsheet_k26_no_books.Holds := by
 w_on;o_law
 refine holds_open (r:=OpenLaw.row PySem.Challenge.rw_freshsheet_k26_no_books) (q:=Hw.qv) (loose:=Hw.lo) (Xt:=Hw.Xv) (XP:=XL Hw.qv []) (Yf:=Hook.obs (kHook Hw.pack.heap_1 Hw.hAs Hw.hAs_eq)) (Ya:=Hook.val (kHook Hw.pack.heap_1 Hw.hAs Hw.hAs_eq)) (YP:=Hook.says (kHook Hw.pack.heap_1 Hw.hAs Hw.hAs_eq)) (N:=Hw.N0) Hw.left (Hook.of (kHook Hw.pack.heap_1 Hw.hAs Hw.hAs_eq)) (Hook.keeps (kHook Hw.pack.heap_1 Hw.hAs Hw.hAs_eq)) (fun s e=>xl_of s (Bool.and_eq_true_iff.mp e).1) XL.keeps (by rfl) (by rfl) (by rfl) (fun s e=>recFacts_of (Bool.and_eq_true_iff.mp e).2) (by rfl) (by first | assumption | decide +kernel) (by decide +kernel) ⟨rfl,rfl,rfl,rfl,rfl,by decide +kernel⟩ ?hw ?hc
 case hw=>w_witness2
 k_fill
 refine Fs.YC (l:=PySem.Challenge.rw_freshsheet_k26_no_books) rfl rfl (fun w h Y=>PySem.W.kIn_of Y) (fun w=>by kernel_rfl) ?F
 case F=>
  intro w mean mg mb fa h KX T0 hmg
  apply Fs.U3 KX T0 hmg
  iterate 63 (apply Fs.Wu;k_is;k_is;k_is;k_is)
  (case z_len=>k_is)
  (case z_range=>k_is)
  (case z_isinstance=>k_is)
  (case z_int=>k_is)
  (case z_bool=>k_is)
  (case z_str=>k_is)
  (case z_tuple=>k_is)
  (case z_list=>k_is)
  (case z_all=>k_is)
  (case z_zip=>k_is)
  (case z_min=>k_is)
  (case z_sorted=>k_is)
  (case z_set=>k_is)
  (case z_abs=>k_is)
  (case z_reversed=>k_is)
  (case z_sum=>k_is)
  (case z_dict=>k_is)
  (case z_ValueError=>k_is)
  (case q_SheetError=>k_is)
  (case q_NoBook=>k_is)
  (case q_NoName=>k_is)
  (case q_NoNumber=>k_is)
  (case q_NoPlace=>k_is)
  (case q_NoRedo=>k_is)
  (case q_NoRow=>k_is)
  (case q_NoText=>k_is)
  (case q_NoUndo=>k_is)
  (case q_TooGreat=>k_is)
  (case g_LETTERS=>k_is)
  (case r_LETTERS=>first | exact⟨_,rfl⟩ | exact⟨_,by decide +kernel⟩)
  (case g_LONGEST_NAME=>k_is)
  (case r_LONGEST_NAME=>first | exact⟨_,rfl⟩ | exact⟨_,by decide +kernel⟩)
  (case g_LAST_ROW=>k_is)
  (case r_LAST_ROW=>first | exact⟨_,rfl⟩ | exact⟨_,by decide +kernel⟩)
  (case g_LAST_COLUMN=>k_is)
  (case r_LAST_COLUMN=>first | exact⟨_,rfl⟩ | exact⟨_,by decide +kernel⟩)
  (case g_SIGNS=>k_is)
  (case r_SIGNS=>first | exact⟨_,rfl⟩ | exact⟨_,by decide +kernel⟩)
  (case g_FAULTS=>k_is)
  (case h_FAULTS=>k_is)
  (case r_FAULTS=>exact⟨rfl,_,_,rfl,by decide,.cons ⟨_,rfl⟩ (.cons ⟨_,rfl⟩ (.cons ⟨_,rfl⟩ (.cons ⟨_,rfl⟩ (.cons ⟨_,rfl⟩ (.cons ⟨_,rfl⟩ (.cons ⟨_,rfl⟩ (.cons ⟨_,rfl⟩ (.cons ⟨_,rfl⟩ (.nil)))))))))⟩)
  (case g_MOST_SIGNS=>k_is)
  (case r_MOST_SIGNS=>first | exact⟨_,rfl⟩ | exact⟨_,by decide +kernel⟩)
  (case g_GREATEST_WHOLE=>k_is)
  (case r_GREATEST_WHOLE=>first | exact⟨_,rfl⟩ | exact⟨_,by decide +kernel⟩)
  (case g_MOST_PARTS=>k_is)
  (case r_MOST_PARTS=>first | exact⟨_,rfl⟩ | exact⟨_,by decide +kernel⟩)
  (case g_MOST_DEEP=>k_is)
  (case r_MOST_DEEP=>first | exact⟨_,rfl⟩ | exact⟨_,by decide +kernel⟩)
  (case g_MOST_OWN_PARTS=>k_is)
  (case r_MOST_OWN_PARTS=>first | exact⟨_,rfl⟩ | exact⟨_,by decide +kernel⟩)
  (case g_MOST_PARAMS=>k_is)
  (case r_MOST_PARAMS=>first | exact⟨_,rfl⟩ | exact⟨_,by decide +kernel⟩)
  (case g_GREATEST_WRITTEN=>k_is)
  (case r_GREATEST_WRITTEN=>first | exact⟨_,rfl⟩ | exact⟨_,by decide +kernel⟩)
  (case g_WORDS=>k_is)
  (case h_WORDS=>k_is)
  (case r_WORDS=>exact⟨rfl,_,_,rfl,by decide,.cons ⟨_,rfl⟩ (.cons ⟨_,rfl⟩ (.cons ⟨_,rfl⟩ (.cons ⟨_,rfl⟩ (.cons ⟨_,rfl⟩ (.cons ⟨_,rfl⟩ (.cons ⟨_,rfl⟩ (.cons ⟨_,rfl⟩ (.cons ⟨_,rfl⟩ (.cons ⟨_,rfl⟩ (.cons ⟨_,rfl⟩ (.cons ⟨_,rfl⟩ (.cons ⟨_,rfl⟩ (.nil)))))))))))))⟩)
  (case g_OP_SIGNS=>k_is)
  (case h_OP_SIGNS=>k_is)
  (case r_OP_SIGNS=>exact⟨rfl,_,_,rfl,by decide,.cons ⟨_,rfl⟩ (.cons ⟨_,rfl⟩ (.cons ⟨_,rfl⟩ (.cons ⟨_,rfl⟩ (.cons ⟨_,rfl⟩ (.cons ⟨_,rfl⟩ (.cons ⟨_,rfl⟩ (.nil)))))))⟩)
  (case g_SUMIF_SIGNS=>k_is)
  (case h_SUMIF_SIGNS=>k_is)
  (case r_SUMIF_SIGNS=>exact⟨rfl,_,_,rfl,by decide,.cons ⟨_,rfl⟩ (.cons ⟨_,rfl⟩ (.nil))⟩)
  (case g_LENGTHS=>k_is)
  (case h_LENGTHS=>k_is)
  (case r_LENGTHS=>exact⟨⟨rfl,rfl,rfl⟩,_,_,rfl,.cons ⟨rfl,rfl,⟨_,rfl⟩⟩ (.cons ⟨rfl,rfl,⟨_,rfl⟩⟩ (.cons ⟨rfl,rfl,⟨_,rfl⟩⟩ (.cons ⟨rfl,rfl,⟨_,rfl⟩⟩ (.cons ⟨rfl,rfl,⟨_,rfl⟩⟩ (.cons ⟨rfl,rfl,⟨_,rfl⟩⟩ (.cons ⟨rfl,rfl,⟨_,rfl⟩⟩ (.cons ⟨rfl,rfl,⟨_,rfl⟩⟩ (.cons ⟨rfl,rfl,⟨_,rfl⟩⟩ (.cons ⟨rfl,rfl,⟨_,rfl⟩⟩ (.cons ⟨rfl,rfl,⟨_,rfl⟩⟩ (.cons ⟨rfl,rfl,⟨_,rfl⟩⟩ (.cons ⟨rfl,rfl,⟨_,rfl⟩⟩ (.cons ⟨rfl,rfl,⟨_,rfl⟩⟩ (.cons ⟨rfl,rfl,⟨_,rfl⟩⟩ (.cons ⟨rfl,rfl,⟨_,rfl⟩⟩ (.cons ⟨rfl,rfl,⟨_,rfl⟩⟩ (.cons ⟨rfl,rfl,⟨_,rfl⟩⟩ (.cons ⟨rfl,rfl,⟨_,rfl⟩⟩ (.cons ⟨rfl,rfl,⟨_,rfl⟩⟩ (.cons ⟨rfl,rfl,⟨_,rfl⟩⟩ (.nil))))))))))))))))))))),by decide⟩)
  (case n_LENGTHS=>decide)
  (case g_PART_PLACES=>k_is)
  (case h_PART_PLACES=>k_is)
  (case r_PART_PLACES=>exact⟨[(Sum.inr (Str.ofString "op"),L2.V.ref _),(Sum.inr (Str.ofString "neg"),L2.V.ref _),(Sum.inr (Str.ofString "if"),L2.V.ref _),(Sum.inr (Str.ofString "sum"),L2.V.ref _),(Sum.inr (Str.ofString "count"),L2.V.ref _),(Sum.inr (Str.ofString "least"),L2.V.ref _),(Sum.inr (Str.ofString "most"),L2.V.ref _),(Sum.inr (Str.ofString "sumif"),L2.V.ref _),(Sum.inr (Str.ofString "find"),L2.V.ref _),(Sum.inr (Str.ofString "turn"),L2.V.ref _),(Sum.inr (Str.ofString "stack"),L2.V.ref _),(Sum.inr (Str.ofString "grid"),L2.V.ref _),(Sum.inr (Str.ofString "outer"),L2.V.ref _)],⟨⟨rfl,rfl,rfl⟩,_,_,rfl,.cons ⟨rfl,rfl,rfl⟩ (.cons ⟨rfl,rfl,rfl⟩ (.cons ⟨rfl,rfl,rfl⟩ (.cons ⟨rfl,rfl,rfl⟩ (.cons ⟨rfl,rfl,rfl⟩ (.cons ⟨rfl,rfl,rfl⟩ (.cons ⟨rfl,rfl,rfl⟩ (.cons ⟨rfl,rfl,rfl⟩ (.cons ⟨rfl,rfl,rfl⟩ (.cons ⟨rfl,rfl,rfl⟩ (.cons ⟨rfl,rfl,rfl⟩ (.cons ⟨rfl,rfl,rfl⟩ (.cons ⟨rfl,rfl,rfl⟩ (.nil))))))))))))),by decide⟩,.cons ⟨rfl,_,rfl,fun _=>.inr ⟨_,_,_,(by k_is),rfl,rfl,by decide,.cons ⟨_,rfl⟩ (.cons ⟨_,rfl⟩ (.nil))⟩⟩ (.cons ⟨rfl,_,rfl,fun _=>.inr ⟨_,_,_,(by k_is),rfl,rfl,by decide,.cons ⟨_,rfl⟩ (.nil)⟩⟩ (.cons ⟨rfl,_,rfl,fun _=>.inr ⟨_,_,_,(by k_is),rfl,rfl,by decide,.cons ⟨_,rfl⟩ (.cons ⟨_,rfl⟩ (.cons ⟨_,rfl⟩ (.nil)))⟩⟩ (.cons ⟨rfl,_,rfl,fun _=>.inr ⟨_,_,_,(by k_is),rfl,rfl,by decide,.cons ⟨_,rfl⟩ (.nil)⟩⟩ (.cons ⟨rfl,_,rfl,fun _=>.inr ⟨_,_,_,(by k_is),rfl,rfl,by decide,.cons ⟨_,rfl⟩ (.nil)⟩⟩ (.cons ⟨rfl,_,rfl,fun _=>.inr ⟨_,_,_,(by k_is),rfl,rfl,by decide,.cons ⟨_,rfl⟩ (.nil)⟩⟩ (.cons ⟨rfl,_,rfl,fun _=>.inr ⟨_,_,_,(by k_is),rfl,rfl,by decide,.cons ⟨_,rfl⟩ (.nil)⟩⟩ (.cons ⟨rfl,_,rfl,fun _=>.inr ⟨_,_,_,(by k_is),rfl,rfl,by decide,.cons ⟨_,rfl⟩ (.cons ⟨_,rfl⟩ (.cons ⟨_,rfl⟩ (.nil)))⟩⟩ (.cons ⟨rfl,_,rfl,fun _=>.inr ⟨_,_,_,(by k_is),rfl,rfl,by decide,.cons ⟨_,rfl⟩ (.cons ⟨_,rfl⟩ (.cons ⟨_,rfl⟩ (.nil)))⟩⟩ (.cons ⟨rfl,_,rfl,fun _=>.inr ⟨_,_,_,(by k_is),rfl,rfl,by decide,.cons ⟨_,rfl⟩ (.nil)⟩⟩ (.cons ⟨rfl,_,rfl,fun _=>.inr ⟨_,_,_,(by k_is),rfl,rfl,by decide,.cons ⟨_,rfl⟩ (.cons ⟨_,rfl⟩ (.nil))⟩⟩ (.cons ⟨rfl,_,rfl,fun _=>.inr ⟨_,_,_,(by k_is),rfl,rfl,by decide,.cons ⟨_,rfl⟩ (.cons ⟨_,rfl⟩ (.nil))⟩⟩ (.cons ⟨rfl,_,rfl,fun _=>.inr ⟨_,_,_,(by k_is),rfl,rfl,by decide,.cons ⟨_,rfl⟩ (.nil)⟩⟩ (.nil)))))))))))))⟩)
  (case n_PART_PLACES=>decide)
  (case g_MOST_SHEETS=>k_is)
  (case r_MOST_SHEETS=>first | exact⟨_,rfl⟩ | exact⟨_,by decide +kernel⟩)
  (case g_MOST_CELLS=>k_is)
  (case r_MOST_CELLS=>first | exact⟨_,rfl⟩ | exact⟨_,by decide +kernel⟩)
  (case g_MOST_NAMES=>k_is)
  (case r_MOST_NAMES=>first | exact⟨_,rfl⟩ | exact⟨_,by decide +kernel⟩)
  (case g_MOST_OWNS=>k_is)
  (case r_MOST_OWNS=>first | exact⟨_,rfl⟩ | exact⟨_,by decide +kernel⟩)
  (case g_MOST_ROUNDS=>k_is)
  (case r_MOST_ROUNDS=>first | exact⟨_,rfl⟩ | exact⟨_,by decide +kernel⟩)
  (case ki_NoneType_int=>kit_is)
  (case ki_NoneType_bool=>kit_is)
  (case ki_NoneType_str=>kit_is)
  (case ki_NoneType_tuple=>kit_is)
  (case ki_bool_int=>kit_is)
  (case ki_bool_bool=>kit_is)
  (case ki_bool_str=>kit_is)
  (case ki_bool_tuple=>kit_is)
  (case ki_int_int=>kit_is)
  (case ki_int_bool=>kit_is)
  (case ki_int_str=>kit_is)
  (case ki_int_tuple=>kit_is)
  (case ki_str_int=>kit_is)
  (case ki_str_bool=>kit_is)
  (case ki_str_str=>kit_is)
  (case ki_str_tuple=>kit_is)
  (case ki_list_int=>kit_is)
  (case ki_list_bool=>kit_is)
  (case ki_list_str=>kit_is)
  (case ki_list_tuple=>kit_is)
  (case ki_dict_int=>kit_is)
  (case ki_dict_bool=>kit_is)
  (case ki_dict_str=>kit_is)
  (case ki_dict_tuple=>kit_is)
  (case ki_tuple_int=>kit_is)
  (case ki_tuple_bool=>kit_is)
  (case ki_tuple_str=>kit_is)
  (case ki_tuple_tuple=>kit_is)
  (case kist=>kit_is)
  (case kiit=>kit_is)
  (case kib=>kit_is)
  (case exm=>kts_exm)
  (case kit1=>kit_is)
  (case kit3=>kit_is)
  (case ki_NoneType_list=>kit_is)
  (case ki_bool_list=>kit_is)
  (case ki_int_list=>kit_is)
  (case ki_str_list=>kit_is)
  (case ki_dict_list=>kit_is)
  (case x1_NoBook=>k_exc)
  (case y1_NoBook=>k_is)
  (case y2_NoBook=>k_is)
  (case y3_NoBook=>k_is)
  (case y4_NoBook=>k_is)
  (case y5_NoBook=>k_is)
  (case y6_NoBook=>k_is)
  (case t_sorted_by_first=>exact(show PySem.W.tabIn _ _=some (428,424)by kernel_rfl))
  (case rr_sorted_by_first=>decide +kernel)
