import PyProof.Rows.All
import Wide.All
import OpenK.AllK
import Wide.FinOn
import PySem.Challenge.RW_haulbell_k60_items_are_no_rows
import Lean
import PyProof.EqAt
import PyProof.EqKinds
import PyProof.TupleCall
import PyProof.EnumStmt
import PyProof.NeKinds
import PyProof.ExcAttrAll.ValueError
import PyProof.ExcInit
import PyProof.StationsW
import PyProof.NsDelKeeps
import PyProof.InstStoreFacts
import PyProof.ZipIter
import PyProof.IsiBase
import PyProof.AttrMiss
import KE.KDictOf
import KE.KDictList
import PyProof.InstEq
import PyProof.Rows.Range3
import PyProof.EnumMake
import PyProof.StrWalks
import PyProof.DictWalks
import PyProof.Rows.StrWeight2
import PyProof.StrCalls2
import PyProof.Rows.StrFacts2
import PyProof.StrOps2
import KE.LcSums
open PySem.W renaming behindTheImports→ac
open PySem renaming wpAny_bind→ad,wpAny_pure→am,wpAny_field→ap,wpAny_holding→bd,wpAny_truthy_bool→bi,starEach→bm,sizeLine→bn,wpAny_Call_Name_kw→bv
open List renaming length_map→ce,length_append→ci,mem_of_getElem?→cr,length_take→db,mem_cons_of_mem→dl,map_append→dL,length_singleton→f8,size_toArray→ge,mem_append_right→gt,getElem?_map→ii,length_drop→io,append_assoc→jp,getElem?_eq_getElem→le,mem_cons_self→lf,mem_cons→li
open Bool renaming and_eq_true→lv
open Option renaming map_eq_some_iff→lw
open Nat renaming lt_of_lt_of_le→mo,le_of_ble_eq_true→nl,ne_of_lt→nw,le_refl→pc
open Int renaming toNat_natCast→pi
open List renaming replicate→re,getElem?_eq_some_iff→s0
open PySem.Heap renaming get?_push_of_some→sn,lt_size→ss,get?_push_size→sw
set_option linter.all false
set_option maxRecDepth 100000
set_option Elab.async false
set_option compiler.extract_closed false
theorem My.kleA {a b k:Nat}(h:a<=k)(e:Nat.ble (b+1) a=true):b<=k-1:=Nat.le_sub_one_of_lt (mo (nl e) h)
theorem My.kleB {a b k:Nat}(h:a<=k)(e:Nat.ble b a=true):b<=k:=Nat.le_trans (nl e) h
set_option hygiene false
local macro_rules| `(tactic|sleep $n:num)=>`(tactic|((conv at h=>lhs;whnf);iterate $n (split at h;rotate_left;cases h)))
set_option hygiene true
local macro_rules|`(command|abbrev $i:declId $s:optDeclSig $v:declVal)=>`(command|noncomputable def $i:declId $s:optDeclSig $v:declVal)
local macro_rules|`(command|def $i:declId $b:bracketedBinder* :$t $v:declVal)=>`(command|theorem $i:declId $b:bracketedBinder* :$t $v:declVal)
local macro_rules|`(nofun)=>`(by first|exact My.kleA (by assumption) (by rfl)|exact My.kleB (by assumption) (by rfl)|lia|omega)
local macro_rules|`(tactic|omega)=>`(tactic|lia)
noncomputable abbrev My.pr:PySem.Program:=PySem.Challenge.rw_haulbell_k60_items_are_no_rows.row.prog
open PySem PySem.W in
set_option maxHeartbeats 0 in
def My.AO:PySem.Challenge.rw_haulbell_k60_items_are_no_rows.wellSaid=true:=by
  rewrite [Fast.te9446332074065402090]
  kernel_rfl
namespace L2
open PySem PySem.Spec
abbrev inClass (s:Stmt)(j:Nat):Stmt:=match s with
  | .ClassDef _ _ _ body _ _ _ _ _ _ _=>body.getD j (.Pass ⟨0,0,0,0⟩)
  |_=>.Pass ⟨0,0,0,0⟩
abbrev nR (s:Stmt):Arguments:=match s with
  | .FunctionDef _ a _ _ _ _ _ _ _ _=>a
  |_=>{ posonlyargs:=[],args:=[],vararg:=none,kwonlyargs:=[],kw_defaults:=[],kwarg:=none,defaults:=[] }
abbrev oj (s:Stmt):List Stmt:=match s with
  | .FunctionDef _ _ b _ _ _ _ _ _ _=>b
  |_=>[]
abbrev kW (s:Stmt):Scope:=match s with
  | .FunctionDef _ _ _ _ _ _ sc _ _ _=>sc
  |_=>{ kind:=.function,names:=[],isGenerator:=false,isCoroutine:=false }
end L2
namespace My
open PySem L2 PySem.W
abbrev top (i:Nat):Stmt:=PySem.Challenge.pw_haulbell_k60_items_are_no_rows.main.body.getD i (.Pass ⟨0,0,0,0⟩)
abbrev tq (i j:Nat):Stmt:=inClass (top i) j
/-- the top's run on a tree -/
abbrev ij (tb:String->Option Builtin)(p:Program)(w:World)(m:Nat)(ann:Option Value):Nat->SharedT->Thread->Option SharedT
  |0,_,_=>none
  |n+1,s,t=>match through t with
    |true=>some s
    |false=>match stepOk m ann t with
      |false=>none
      |true=>match stepT (denote tb) p w s t with
        |some r=>ij tb p w m ann n r.1 r.2
        |none=>none
def n9 {tb:String->Option Builtin}{p:Program}{w:World}{m:Nat}{ann:Option Value}:∀ {n:Nat}{s s':SharedT}{t:Thread},ij tb p w m ann n s t=some s'->topRun tb p w m ann n s.abs t=some s'.abs
  |0,_,_,_,h=>by cases h
  |n+1,s,s',t,h=>by
    unfold ij at h;unfold topRun;cases a:through t
    · rw[a]at h;dsimp only at h⊢
      cases b:stepOk m ann t
      · rw[b]at h;cases h
      · rw[b]at h;dsimp only at h⊢
        cases c:stepT (denote tb) p w s t with
        |none=>rw[c]at h;cases h
        |some r=>rw[c]at h;rw[stepT_spec c];exact n9 h
    · rw[a]at h;cases h;rfl
abbrev Ck:Nat->BT->List Obj->BT
  |_,t,[]=>t
  |n,t,o::os=>Ck (n+1) (t.ins n o) os
abbrev ua (P:Params):BT:=Ck 0 .nil (boot_heap P).objs.toList
abbrev Ct (P:Params)(os:OsState):SharedT:=⟨ua P,11,(boot_heap P).life,Array.mk [],boot_drawn,boot_toks,os⟩
def qa {p q:Program}{loose:List Str}{Xt:Shared->Bool}{α:Type}{Yf:Shared->α}{Ya:World->α}{N:Nat}(e:opening p=plainProg p.main.scope.names)(hN:Nat.ble 600 N=true)(f:∀ s,fenceModules? p s=some s)
    (h0:∀ P,absHeap (ua P) 11 (boot_heap P).life=boot_heap P) (h1:∀ P,((boot_heap P).isNs mainGlobals,(boot_heap P).objs.size,(boot_heap P).nsMap mainGlobals "__annotations__")=(true,11,some (.ref 6)))
    (run:∀ (w:World) (os:OsState),(ij treeTable p w 11 (some (.ref 6)) N (Ct w.params os) (topStub p)).map (λs=>(staticsOk (importedModules p.main.body) (boot_heap w.params) s.abs.heap&&namesBound p s.abs.heap&&gensDone s.abs&&laidKept (boot_heap w.params) s.abs.heap,
      openSeen q loose (importedModules p.main.body) Xt true s.abs,Yf s.abs))=some (true,openGood q loose,Ya w)):LeftO p q loose Xt Yf Ya N:=λw=>by
  obtain⟨⟨hp,gs,d,k,os⟩,e1,e2⟩:=lw.mp (boot_open e hN f w);obtain⟨rfl,rfl,rfl,rfl⟩:hp=boot_heap w.params/\gs=Array.mk []/\d=boot_drawn/\k=boot_toks:=by simpa using e2
  obtain⟨z1,z2,z3⟩:_/\_/\_:=by simpa only [Prod.mk.injEq] using h1 w.params
  obtain⟨s,r,l⟩:=lw.mp (run w os);obtain⟨l1,l2,l3⟩:_/\_/\_:=by simpa only [Prod.mk.injEq] using l
  have r1:=n9 r;have a0:(Ct w.params os).abs=⟨boot_heap w.params,Array.mk [],boot_drawn,boot_toks,os⟩:=by
    show(⟨absHeap (ua w.params) 11 (boot_heap w.params).life,Array.mk [],boot_drawn,boot_toks,os⟩:Shared)=_;rw[h0]
  rw[a0]at r1;unfold openEnds;rw[e1];have t:topFrom treeTable p w N ⟨boot_heap w.params,Array.mk [],boot_drawn,boot_toks,os⟩=some s.abs:=by
    unfold topFrom;dsimp only;rw[z1,z2,z3,r1];show(match staticsOk (importedModules p.main.body) (boot_heap w.params) s.abs.heap&&namesBound p s.abs.heap&&gensDone s.abs&&laidKept (boot_heap w.params) s.abs.heap with|true=>some s.abs|false=>none)=some s.abs;rw[l1]
  show(topFrom treeTable p w N _).map _=_;rw[t];exact congrArg some (Prod.ext l2 l3)
abbrev CF:List Addr:=2::3::30::31::47::48::50::51::66::67::69::70::85::86::88::89::104::105::107::108::123::124::126::127::142::143::145::146::161::162::164::165::173::174::180::181::182::188::189::195::196::202::203::211::217::218::236::237::243::244::246::247::257::258::264::265::274::275::292::293::306::307::309::310::318::319::325::326::334::340::341::401::402::408::409::411::412::422::423::429::430::438::444::445::458::459::461::462::477::478::484::485::487::488::505::506::512::513::515::516::528::534::535::541::542::544::545::553::554::560::561::567::568::574::575::579::580::593::594::600::601::607::608::614::615::621::622::624::625::635::636::640::641::647::648::654::655::661::662::668::669::675::676::682::683::687::688::708::709::711::712::734::735::737::738::746::747::760::761::774::775::823::824::826::827::839::845::846::857::858::878::879::881::882::890::891::897::898::904::905::911::912::916::917::[]
abbrev De:List Addr:=48::67::86::105::124::143::162::174::181::189::196::203::218::237::244::258::265::293::307::319::326::341::402::409::423::430::445::459::478::485::506::513::535::542::554::561::568::575::580::594::601::608::615::622::636::641::648::655::662::669::676::683::688::709::735::747::761::775::824::846::858::879::891::898::905::912::917::[]
abbrev DW:List Addr:=[31,51,70,89,108,127,146,165,247,275,310,412,462,488,516,545,625,712,738,827,882]
abbrev runK (tb:String->Option Builtin)(p:Program)(w:World)(m:Nat)(ann:Option Value):Nat->SharedT->Thread->Option (SharedT×Thread)
  |0,s,t=>some (s,t)
  |n+1,s,t=>match through t with
    |true=>none
    |false=>match stepOk m ann t with
      |false=>none
      |true=>match stepT (denote tb) p w s t with
        |some r=>runK tb p w m ann n r.1 r.2
        |none=>none
def c6 {tb:String->Option Builtin}{p:Program}{w:World}{m:Nat}{ann:Option Value}{k:Nat}:∀ {n:Nat}{s:SharedT}{t:Thread}{r:SharedT×Thread},runK tb p w m ann n s t=some r->ij tb p w m ann (n+k) s t=ij tb p w m ann k r.1 r.2
  |0,s,t,r,h=>by
    rw[Nat.zero_add];cases h
    rfl
  |n+1,s,t,r,h=>by
    rw[Nat.succ_add];unfold runK at h;conv=>lhs;unfold ij
    cases a:through t
    · rw[a]at h;dsimp only at h⊢
      cases b:stepOk m ann t
      · rw[b]at h;cases h
      · rw[b]at h;dsimp only at h⊢
        cases c:stepT (denote tb) p w s t with
        |none=>rw[c]at h;cases h
        |some r=>rw[c]at h;exact c6 h
    · rw[a]at h;cases h
abbrev kT (x y:Str)(s:Stmt):Obj:=⟨.none,none,.func { name:=x,qualname:=y,params:=nR s,body:=.stmts (oj s),scope:=kW s,globals:=builtinsNs,closure:=[],defaults:=.none,kwdefaults:=.none },#[]⟩
abbrev bo (P:Params)(i:Nat):Obj:=(boot_heap P).objs.toList.getD i ⟨.none,none,.plain,#[]⟩
abbrev fg (p:Program):Env:={ scope:=p.main.scope,locals:=mainNs,globals:=mainNs,cells:=[],code:=.ref 13,frame:=some 14 }
abbrev Eg:Frame:=.ret (λx=>Sem.bind (match x with| .ok f=>Sem.pure f| .error e=>Sem.raise e) (λ_=>ret .none)) none false [] (.builtin "claim.caller" {}) default []
abbrev vf (p:Program)(X:List Stmt):Sem Fin:=Sem.bind (Sem.onRaise (execs X (fg p)) (leaving (fg p))) (λa=>Sem.pure (Fin.done a))
abbrev lP (p:Program)(X:List Stmt)(q:Pos):Thread:=⟨vf p X,.body (ac p) (fg p),q,[Eg]⟩
def tE {tb:String->Option Builtin}{p:Program}(h:blockStart (ac p) (fg p)=Sem.pure ()):denote tb (.body (ac p) (fg p))=vf p (ac p):=by
  show Sem.bind (blockStart (ac p) (fg p)) (λ_=>vf p (ac p))=_;rw[h]
  rfl
abbrev o0:Obj:=⟨.type "tuple",none,.seq #[] 0,#[]⟩
abbrev oN:Obj:=⟨.none,none,.fields #[],#[]⟩
abbrev oL:List Str->Nat->List Value
  | [],_=>[]
  |x::r,t=>.str x t::oL r (t+1)
abbrev oS (l:List Str)(t:Nat):Obj:=⟨.type "tuple",none,.seq (Array.mk (oL l t)) 0,#[]⟩
abbrev D6 (l:List (Int×Nat)):Array Value:=(l.flatMap λp=>[.int p.1 0,.int 0 0,.ref p.2]).toArray
abbrev D8:List (Int×Nat):=[(1,20),(5,27),(7,40),(12,59),(18,78),(23,97),(28,116),(33,135),(38,154),(45,173),(47,180),(51,188),(53,195),(55,202),(63,209),(86,257),(89,264),(92,271),(94,285),(109,318),(115,325),(118,332)]
abbrev EG:List (Int×Nat):=D8++[(159,422),(161,429),(163,436),(180,470),(187,498),(195,526),(207,553),(211,560),(219,567),(227,574),(232,579),(234,586),(255,635),(258,640),(260,647),(264,654),(272,661),(280,668),(288,675),(293,682),(298,687),(301,694),(308,720),(317,746),(323,753),(360,837),(383,890),(389,897),(405,904),(416,911)]
abbrev oI (l c a:Nat):Obj:=⟨.none,none,.fields #[.int l 0,.int c 0,.ref a],#[]⟩
abbrev oK (x:Str)(t l r:Nat):Obj:=⟨.type "code",none,.fields #[.str x t,.str x (t+1),.str "/claim/cut.py" (t+2),.int l 0,.int 0 0,.int 0 0,.int 0 0,.int 0 0,.ref r,.bool false,.int 181 0,.ref (r+1),.none,.none,.none,.none,.int (t+3:Nat) 0,.int l 0,.str "/claim/cut.py" (t+4)],#[]⟩
abbrev oC (x y:Str)(t l n r u:Nat):Obj:=⟨.type "code",none,.fields #[.str x t,.str y (t+1),.str "/claim/cut.py" (t+2),.int l 0,.int n 0,.int 0 0,.int 0 0,.int 3 0,.ref r,.bool true,.int 181 0,.ref (r+1),.none,.ref (r+2),.ref (r+3),.ref (r+4),.int u 0,.int l 0,.str "/claim/cut.py" (u+1)],#[]⟩
abbrev oF (x y:Str)(s:Stmt)(m:Str)(t c:Nat)(d:Value:=.none):Obj:=⟨.type "function",none,.func (fnOf x y (nR s) (oj s) (kW s) d .none .none (.str m t) none (.ref c) .none),#[]⟩
abbrev oR (a b:Nat)(m:Str)(t:Nat):Obj:=⟨.type "frame",none,.plain,#[some (.ref a),some (.ref 3),some (.ref b),none,some (.str m t),none,some (.ref 0)]⟩
abbrev oX (x:Str)(b m:List Value)(n:Addr)(s:List Value)(r t u:Nat)(w:String):Obj:=⟨.type "type",none,.cls ⟨x,b,m,n,x,true,[],s,false,none,false⟩,#[some (.ref r),none,some (.str x t),some (.str x u),some (.builtin w),some (.bool true)]⟩
abbrev oU (a:Addr):Obj:=⟨.type "super",none,.fields #[.ref a,.ref a,.ref a],#[]⟩
abbrev oJ (a:Addr):Obj:=⟨.type "builtin_function_or_method",none,.fields #[.builtin "object.__init_subclass__",.ref a],#[]⟩
abbrev oP:Obj:=⟨.type "builtin_function_or_method",none,.fields #[.builtin "type.__prepare__",.type "type"],#[]⟩
abbrev oQ (a:Addr):Obj:=⟨.type "tuple",none,.seq #[.ref a] 0,#[]⟩
abbrev fG (x y:Str)(s:Stmt)(m:Str)(mt:Nat)(l:List Str)(t ln n a:Nat)(r:List Obj):List Obj:=o0::oN::oS l (t+3)::o0::kT x y s::oC x y t ln n a (t+3+l.length)::oF x y s m mt (a+5)::r
abbrev oW:List (Nat×Obj)->List Obj->List Obj
  | [],l=>l
  |x::r,l=>(oW r l).set x.1 x.2
abbrev eV (x:Str)(t:Tok)(v:Value)(P:Params):DictEntry:=⟨PyData.keyHash P x,.str x t,v⟩
abbrev eM (t:Nat)(m:Str)(u:Nat):Params->DictEntry:=eV "__module__" t (.str m u)
abbrev eQ (t:Nat)(m:Str)(u:Nat):Params->DictEntry:=eV "__qualname__" t (.str m u)
abbrev eF (t l u:Nat):Params->DictEntry:=eV "__firstlineno__" t (.int l u)
abbrev eS (t a:Nat):Params->DictEntry:=eV "__static_attributes__" t (.ref a)
abbrev eN (t:Nat):Params->DictEntry:=eV "__doc__" t .none
abbrev eR (x:Str)(t a:Nat):Params->DictEntry:=eV x t (.ref a)
abbrev oD (P:Params)(es:List (Params->DictEntry))(n:Nat):Obj:=⟨.type "dict",none,.dict (Array.mk (es.map λf=>f P)) n,#[]⟩
abbrev EB (P:Params):List Obj:=
bo P 0::
bo P 1::
bo P 2::
bo P 3::
bo P 4::
bo P 5::
bo P 6::
bo P 7::
bo P 8::
bo P 9::
bo P 10::
o0::
oN::
oK "<module>" 182 1 11::
oR 13 3 "__main__" 164::[]
abbrev EI (x y:Str)(t l n r:Nat):Obj:=⟨.type "code",none,.fields #[.str x t,.str y (t+1),.str "/claim/cut.py" (t+2),.int l 0,.int n 0,.int 0 0,.int 0 0,.int 3 0,.ref r,.bool true,.int 181 0,.ref (r+1),.none,.none,.none,.ref (r+2),.int (t+3:Nat) 0,.int l 0,.str "/claim/cut.py" (t+4)],#[]⟩
abbrev oG (x b:String)(v:Value)(a t:Nat):Obj:=⟨.type "getset_descriptor",none,.fields #[.str (Str.ofString x) t,.ref a,.builtin b,v],#[]⟩
@[reducible]def Mt:Type:=Str×Str×List Str×Nat×Nat×List (Obj×Nat)
abbrev xT (a t:Nat)(s:Stmt)(m:Str×Nat)(x y:Str)(l:List Str)(ln n:Nat)(d:Value):List Obj:=match l with
  | []=>o0::oN::kT x y s::EI x y t ln n a::oF x y s m.1 m.2 (a+3) d::[]
  |_=>o0::oN::oS l (t+3)::o0::kT x y s::oC x y t ln n a (t+3+l.length)::oF x y s m.1 m.2 (a+5) d::[]
abbrev DT (a t:Nat)(s:Stmt)(m:Str×Nat)(q:Mt):List Obj:=match q.2.2.2.2.2 with
  | []=>xT a t s m q.1 q.2.1 q.2.2.1 q.2.2.2.1 q.2.2.2.2.1 .none
  |d::_=>d.1::xT (a+1) (t+d.2) s m q.1 q.2.1 q.2.2.1 q.2.2.2.1 q.2.2.2.2.1 (.ref a)
abbrev xG (q:Mt)(a:Nat):Nat:=match q.2.2.1 with
  | []=>a+5+q.2.2.2.2.2.length
  |_=>a+7+q.2.2.2.2.2.length
abbrev B6 (q:Mt)(t:Nat):Nat:=match q.2.2.2.2.2 with
  | []=>t+6+q.2.2.1.length
  |d::_=>t+d.2+6+q.2.2.1.length
abbrev D3 (i:Nat)(m:Str×Nat):Nat->List Mt->Nat->Nat->(List Obj->Nat->Nat->List Obj)
  |_,[],_,_=>λr _ _=>r
  |j,q::l,a,t=>λr x y=>DT a t (inClass (top i) j) m q++D3 i m (j+1) l (xG q a) (B6 q t) r x y
abbrev D5:List Mt->Nat->Nat
  | [],a=>a
  |q::l,a=>D5 l (xG q a)
abbrev Ec:List Mt->Nat->Nat
  | [],a=>a
  |q::l,a=>Ec l (B6 q a)
abbrev D0:List Mt->Nat->Nat->List (Params->DictEntry)->List (Params->DictEntry)
  | [],_,_,r=>r
  |q::l,a,t,r=>eR q.1 (B6 q t-1) (xG q a-1)::D0 l (xG q a) (B6 q t) r
abbrev DZ:List Mt->Nat->List Value
  | [],_=>[]
  |q::l,a=>.int q.2.2.2.1 0::.int 4 0::.ref (xG q a-2)::DZ l (xG q a)
@[reducible]def It:Type:=(Params->List Obj)×List (Params->DictEntry)×List Value
abbrev iF (a t i:Nat)(m:Str×Nat)(x:Str)(l:List Str)(ln n:Nat)(d:List (Obj×Nat):=[]):It:=(λ_=>DT a t (top i) m (x,x,l,ln,n,d),eR x (B6 (x,x,l,ln,n,d) t-1) (xG (x,x,l,ln,n,d) a-1)::[],.int ln 0::.int 0 0::.ref (xG (x,x,l,ln,n,d) a-2)::[])
abbrev iR (o:Params->List Obj):It:=(o,[],[])
abbrev iE (x:Str)(t:Nat)(v:Value):It:=(λ_=>[],[eV x t v],[])
abbrev iC (a T i:Nat)(m:Str×Nat)(x:Str)(ln:Nat)(ms:List Mt)(st:List Str)(sub:List Value:=[]) (br:Nat:=0) (mro:List Value:=[]) (w:String:=""):It:=
  let b:=D5 ms (a+7)
  let s:=Ec ms (T+12)
  let e:=s+st.length
  let h (z:List (Params->DictEntry)):=eF (T+11) ln (T+10)::D0 ms (a+7) (T+12) (eS e b::z)
  let o (y:List (Params->DictEntry)) (z k:Obj) (n:Nat) (r:List Obj) (P:Params):List Obj:=z::oP::oD P (eM (T+7) m.1 m.2::eQ (T+9) x (T+8)::h []) (4+ms.length)::o0::⟨.none,none,.fields (Array.mk (DZ ms (a+7))),#[]⟩::oK x (T+2) ln (a+3)::oR (a+5) (a+2) m.1 m.2::D3 i m 0 ms (a+7) (T+12) ((match st with| []=>o0|_=>oS st s)::oD P (eM (T+7) m.1 m.2::h y) n::k::r) 0 0
  match br with
  |0=>(o [eR "__dict__" (e+2) (b+3),eR "__weakref__" (e+4) (b+4),eN (e+5)] o0 ⟨.type "type",none,.cls ⟨x,[.type "object"],[.ref (b+2),.type "object"],b+1,x,true,[],sub,false,none,false⟩,#[none,none,some (.str x T),some (.str x (T+8)),some (.builtin "object.__new__"),some (.bool true)]⟩ 4 [oG "__dict__" "function.__dict__" (.builtin "function.__dict__#set") (b+2) (e+1),oG "__weakref__" "ExceptionGroup.__weakref__" .none (b+2) (e+3),oU (b+2),oJ (b+2)],eR x (e+7) (b+2)::[],.int ln 0::.int 0 0::.ref (a+5)::[])
  |_=>(o [eN (e+1)] (oQ br) (oX x [.ref br] (.ref (b+2)::.ref br::mro) (b+1) sub a T (T+8) w) 2 [oU (b+2),oJ (b+2)],eR x (e+3) (b+2)::[],.int ln 0::.int 0 0::.ref (a+5)::[])
abbrev DE (P:Params)(nm:Str)(nt n:Nat)(l:List It):List Obj:=bo P 0::bo P 1::bo P 2::oD P (eV "__name__" 165 (.str nm nt)::eN 166::eV "__package__" 167 .none::eV "__loader__" 168 (.builtin "__main__.__loader__#opaque")::eV "__spec__" 169 .none::eR "__annotations__" 170 6::eR "__builtins__" 171 4::eV "__file__" 173 (.str "/claim/cut.py" 172)::eV "__cached__" 174 .none::l.flatMap (·.2.1)) n::bo P 4::bo P 5::bo P 6::bo P 7::bo P 8::bo P 9::bo P 10::o0::⟨.none,none,.fields (Array.mk (l.flatMap (·.2.2))),#[]⟩::oK "<module>" 182 1 11::oR 13 3 "__main__" 164::l.flatMap (·.1 P)
abbrev Ez:Str×Nat:=("__main__",164)
abbrev yk:Str×Nat:=("haulbell.errors",194)
abbrev Ef:Str×Nat:=("haulbell.wholes",391)
abbrev CC:Str×Nat:=("haulbell.boxes",409)
abbrev CO:Str×Nat:=("haulbell.deeds",514)
abbrev C1:Str×Nat:=("haulbell.machine",595)
abbrev DP:Str×Nat:=("haulbell.hops",726)
abbrev Dc:Str×Nat:=("haulbell.items",788)
abbrev mh:Str×Nat:=("haulbell.book",904)
abbrev DY:Str×Nat:=("haulbell.longs",1093)
abbrev Ba:Str×Nat:=("haulbell.store",1159)
abbrev Dv:Str×Nat:=("haulbell.watched",1276)
abbrev r6:Str×Nat:=("law_haulbell_k60_items_are_no_rows",1344)
abbrev yu (a T i:Nat)(m:Str×Nat)(x:Str)(ln:Nat)(ms:List Mt)(st:List Str)(sub:List Value:=[]):It:=iC a T i m x ln ms st sub 31 [.type "ValueError",.type "Exception",.type "BaseException",.type "object"] "ValueError.__new__"
abbrev CD (a T i:Nat)(m:Str×Nat)(x:Str)(ln:Nat)(ms:List Mt)(st:List Str)(sub:List Value:=[]):It:=iC a T i m x ln ms st sub 275 [.type "object"] "object.__new__"
abbrev ED (a T i:Nat)(m:Str×Nat)(x:Str)(ln:Nat)(ms:List Mt)(st:List Str)(sub:List Value:=[]):It:=iC a T i m x ln ms st sub 412 [.type "object"] "object.__new__"
abbrev yZ:List It:=
iF 15 187 0 Ez "_wall" ["k"] 1 1::
iE "HaulError" 213 (.ref 31)::
iR (λP=>[⟨.type "tuple",none,.seq #[.type "ValueError"] 0,#[]⟩,oP,oD P [eM 203 "haulbell.errors" 194,eQ 205 "HaulError" 204,eF 207 5 206,eS 208 29] 4,o0,oN,oK "HaulError" 198 5 25,oR 27 24 "haulbell.errors" 194,o0,oD P [eM 203 "haulbell.errors" 194,eF 207 5 206,eS 208 29,eR "__weakref__" 210 32,eN 211] 3,oX "HaulError" [.type "ValueError"] [.ref 31,.type "ValueError",.type "Exception",.type "BaseException",.type "object"] 30 [.ref 51,.ref 70,.ref 89,.ref 108,.ref 127,.ref 146,.ref 165] 22 196 204 "ValueError.__new__",⟨.type "getset_descriptor",none,.fields #[.str "__weakref__" 209,.ref 31,.builtin "ExceptionGroup.__weakref__",.none],#[]⟩,oU 31,oJ 31])::
yu 35 214 3 yk "NoStore" 7 [("__init__","NoStore.__init__",["self","at"],9,2,[])] ["at"]::
yu 54 239 4 yk "NoFit" 12 [("__init__","NoFit.__init__",["self","box","number"],14,3,[])] ["box","number"]::
yu 73 266 5 yk "NoDeed" 18 [("__init__","NoDeed.__init__",["self","word"],20,2,[])] ["word"]::
yu 92 291 6 yk "NoRows" 23 [("__init__","NoRows.__init__",["self","at"],25,2,[])] ["at"]::
yu 111 316 7 yk "NoPlace" 28 [("__init__","NoPlace.__init__",["self","at"],30,2,[])] ["at"]::
yu 130 341 8 yk "NoName" 33 [("__init__","NoName.__init__",["self","word"],35,2,[])] ["word"]::
yu 149 366 9 yk "NoFlat" 38 [("__init__","NoFlat.__init__",["self","many"],40,2,[])] ["many"]::
iE "BOUND" 394 (.int 1000000000 393)::
iF 168 395 12 Ef "is_whole" ["thing"] 45 1::
iF 175 402 13 Ef "is_content" ["thing"] 47 1::
iE "NAMES" 417 (.ref 182)::
iR (λ_=>[oS ["here","there","left","way","sign","met"] 411])::
iF 183 418 16 CC "is_box" ["thing"] 51 1::
iF 190 425 17 CC "is_number" ["thing"] 53 1::
iF 197 432 18 CC "fits" ["box","thing"] 55 2::
iC 204 440 19 CC "Boxes" 63 [("__init__","Boxes.__init__",["self","here","there","left","way","sign","met","handed","box","number"],65,7,[(⟨.type "tuple",none,.seq #[.int 0 452,.int 0 453,.int 0 454,.int 1 455,.int 0 456,.int 0 457] 0,#[]⟩,6)]),("holds","Boxes.holds",["self","box"],72,2,[]),("give","Boxes.give",["self","box","number"],75,3,[]),("told","Boxes.told",[],78,1,[]),("copied","Boxes.copied",["self","other"],81,1,[])] ["numbers"]::
iF 252 516 21 CO "check_box" ["word","box"] 86 2::
iF 259 524 22 CO "check_number" ["word","number"] 89 2::
iC 266 532 0 CO "Deed" 92 [] [] [.ref 310,.ref 462,.ref 712,.ref 738]::
CD 280 552 24 CO "Set" 94 [("__init__","Set.__init__",["self","box","number"],96,3,[]),("step","Set.step",["self","boxes","store"],102,3,[]),("words","Set.words",["self"],105,1,[])] ["box","number"]::
iE "MOST_ROWS" 598 (.int 24 597)::
iF 313 599 27 C1 "check_rows" ["rows","at","thing"] 109 1::
iF 320 608 28 C1 "check_place" ["at","many"] 115 2::
iC 327 616 29 C1 "Machine" 118 [("__init__","Machine.__init__",["self","rows","store","boxes","at"],120,5,[(⟨.type "tuple",none,.seq #[.int 0 628] 0,#[]⟩,1)]),("ended","Machine.ended",["self"],128,1,[]),("step_on","Machine.step_on",["self","store"],131,2,[]),("step","Machine.step",["self"],134,1,[]),("run","Machine.run",["self","most"],137,2,[]),("why","Machine.why",["self"],140,1,[]),("state","Machine.state",["self"],143,1,[]),("leaves","Machine.leaves",["self"],146,1,[]),("leave","Machine.leave",["self","low","behind","word"],149,4,[]),("rows","Machine.rows",[],152,1,[]),("copied","Machine.copied",["self"],155,1,[])] ["at","boxes","deeds","store"] [.ref 882]::[]
abbrev gL:List It:=
iE "MOST_HOPPED" 729 (.int 24 728)::
iF 417 730 32 DP "is_many" ["thing"] 159 1::
iF 424 737 33 DP "is_on" ["thing"] 161 1::
CD 431 744 34 DP "Hop" 163 [("__init__","Hop.__init__",["self","many","on"],165,3,[(⟨.type "tuple",none,.seq #[.none] 0,#[]⟩,0)]),("step","Hop.step",["self","boxes","store"],171,3,[]),("words","Hop.words",["self","told"],174,1,[])] ["many","on"]::
iC 465 790 36 Dc "Do" 180 [("__init__","Do.__init__",["self","name"],182,2,[]),("told","Do.told",["self"],185,1,[])] ["called"]::
iC 493 826 37 Dc "Times" 187 [("__init__","Times.__init__",["self","many","block"],189,3,[]),("told","Times.told",["self"],193,1,[])] ["block","many"]::
iC 521 864 38 Dc "When" 195 [("__init__","When.__init__",["self","on","block","other"],197,4,[(⟨.type "tuple",none,.seq #[.none] 0,#[]⟩,0)]),("told","When.told",["self"],202,1,[])] ["block","on","other"]::
iE "LETTERS" 907 (.str "abcdefghijklmnopqrstuvwxyz" 906)::
iE "LONGEST_NAME" 909 (.int 8 908)::
iF 550 910 42 mh "is_name" [] 207 1::
iF 555 916 43 mh "check_names" ["book","block","item"] 211 2::
iF 562 925 44 mh "count_item" ["book","item"] 219 2::
iF 569 933 45 mh "count_when" ["book","when","many"] 227 2::
iF 576 942 46 mh "count_block" [] 232 2::
iC 581 948 47 mh "Book" 234 [("__init__","Book.__init__",["self"],236,1,[]),("has","Book.has",["self","word"],240,2,[]),("name","Book.name",["self","word","block"],243,3,[]),("block_named","Book.block_named",["self","word"],250,2,[]),("count_named","Book.count_named",["self","word"],253,2,[])] ["blocks","counts"]::
iF 630 1010 48 mh "count_of" ["book","block"] 255 2::
iF 637 1018 49 mh "under" [] 258 2::
iF 642 1024 50 mh "laid_do" ["book","place","do"] 260 3::
iF 649 1033 51 mh "laid_times" ["book","place","times","once","pairs","turn"] 264 3::
iF 656 1045 52 mh "laid_when" ["book","place","when","block","other","first","second"] 272 3::
iF 663 1058 53 mh "laid_item" ["book","place","item"] 280 3::
iF 670 1067 54 mh "laid" ["book","block","pairs","place","item"] 288 2::
iF 677 1078 55 mh "laid_flat" ["book","block","many"] 293 2::
iF 684 1087 56 mh "flat" [] 298 2::
CD 689 1095 58 DY "Copy" 301 [("step","Copy.step",["self","boxes","store"],303,3,[]),("words","Copy.words",["self"],306,1,[])] []::
CD 715 1127 59 DY "Turn" 308 [("step","Turn.step",["self","boxes","store"],310,3,[]),("words","Turn.words",["self"],313,1,[])] []::
iE "MOST_CELLS" 1162 (.int 60 1161)::
iF 741 1163 62 Ba "check_cells" ["cells","at","thing"] 317 1::
iC 748 1172 63 Ba "Store" 323 [("__init__","Store.__init__",["self","cells"],325,2,[]),("size","Store.size",["self"],330,1,[]),("told","Store.told",["self"],333,1,[]),("leaves","Store.leaves",["self"],336,1,[]),("leave","Store.leave",["self","low","behind","word"],339,4,[]),("may","Store.may",["self","deed","cell"],342,3,[]),("look","Store.look",["self","cell"],345,2,[]),("put","Store.put",["self","cell","content"],348,3,[]),("restore","Store.restore",["self","cell","content"],351,3,[]),("copied","Store.copied",["self","other"],354,1,[])] ["contents","permits"]::
ED 832 1278 65 Dv "Watched" 360 [("__init__","Watched.__init__",["self","rows","store","boxes","at"],362,5,[(⟨.type "tuple",none,.seq #[.int 0 1290] 0,#[]⟩,1)]),("step","Watched.step",["self"],366,1,[]),("log","Watched.log",[],369,1,[]),("back","Watched.back",["self","many"],372,2,[]),("undo","Watched.undo",["self","entry"],375,2,[]),("copied","Watched.copied",["self","other"],378,1,[])] ["entries"]::
iF 885 1346 67 r6 "_law_hand" ["_law_script","_law_cells","_law_fold","_law_cell"] 383 1::
iF 892 1356 68 r6 "_law_draw" ["_law_hand_here","_law_many","_law_rest","_law_cell","_law_one","_law_two"] 389 2::
iF 899 1368 69 r6 "_law_made" ["_law_watched","_law_rows","e"] 405 2::
iF 906 1377 70 r6 "_law_no_row" ["_law_hand_here","_law_rows","_law_way"] 416 2::[]
abbrev EF (P:Params):List Obj:=oW [(12,⟨.none,none,.fields (D6 D8),#[]⟩),(275,⟨.type "type",none,.cls ⟨"Deed",[.type "object"],[.ref 275,.type "object"],274,"Deed",true,[],[.ref 310],false,none,false⟩,#[none,none,some (.str "Deed" 532),some (.str "Deed" 540),some (.builtin "object.__new__"),some (.bool true)]⟩),(412,⟨.type "type",none,.cls ⟨"Machine",[.type "object"],[.ref 412,.type "object"],411,"Machine",true,[],[],false,none,false⟩,#[none,none,some (.str "Machine" 616),some (.str "Machine" 624),some (.builtin "object.__new__"),some (.bool true)]⟩)] (DE P "haulbell.hops" 726 34 yZ)
abbrev EC (P:Params):List Obj:=oW [(12,⟨.none,none,.fields (D6 EG),#[]⟩)] (DE P "law_haulbell_k60_items_are_no_rows" 1344 68 (yZ++gL))
abbrev S0 (P:Params)(os:OsState):SharedT:=⟨Ck 0 .nil (EB P),15,(boot_heap P).life,Array.mk [],boot_drawn,187,os⟩
abbrev q0:Pos:=⟨0,0,0,0⟩
abbrev S1 (P:Params)(os:OsState):SharedT:=⟨Ck 0 .nil (EF P),417,(boot_heap P).life,Array.mk [],boot_drawn,728,os⟩
abbrev q1:Pos:=⟨157,0,157,8⟩
abbrev S2 (P:Params)(os:OsState):SharedT:=⟨Ck 0 .nil (EC P),913,(boot_heap P).life,Array.mk [],boot_drawn,1386,os⟩
abbrev q2:Pos:=⟨416,0,424,68⟩
abbrev Et (P:Params):List Obj:=DE P "law_haulbell_k60_items_are_no_rows" 1344 69 (yZ++gL++[iF 913 1386 71 r6 "law" [] 425 1])
abbrev K0 (P:Params):PySem.W.Frag:=CF.map λa=>(a,(Et P).getD a oN)
abbrev kP (p:Program):Program:=PySem.W.view p [71]
abbrev rh:List Str:="_wall"::"HaulError"::"NoStore"::"NoFit"::"NoDeed"::"NoRows"::"NoPlace"::"NoName"::"NoFlat"::"BOUND"::"is_whole"::"is_content"::"NAMES"::"is_box"::"is_number"::"fits"::"Boxes"::"check_box"::"check_number"::"Deed"::"Set"::"MOST_ROWS"::"check_rows"::"check_place"::"Machine"::"MOST_HOPPED"::"is_many"::"is_on"::"Hop"::"Do"::"Times"::"When"::"LETTERS"::"LONGEST_NAME"::"is_name"::"check_names"::"count_item"::"count_when"::"count_block"::"Book"::"count_of"::"under"::"laid_do"::"laid_times"::"laid_when"::"laid_item"::"laid"::"laid_flat"::"flat"::"Copy"::"Turn"::"MOST_CELLS"::"check_cells"::"Store"::"Watched"::"_law_hand"::"_law_draw"::"_law_made"::"_law_no_row"::[]
end My
open PySem PySem.W in
set_option maxHeartbeats 0 in
def My.Ah (w:World)(os:OsState):My.runK treeTable My.pr w 11 (some (.ref 6)) 12 (My.Ct w.params os) (topStub My.pr)=some (My.S0 w.params os,⟨denote treeTable (.body (ac My.pr) (My.fg My.pr)),.body (ac My.pr) (My.fg My.pr),default,[My.Eg]⟩):=by
  delta My.pr;rewrite[Fast.te2368527892694137696,Fast.te14364793385576792824]
  kernel_rfl
open PySem PySem.W in
set_option maxHeartbeats 0 in
def My.Ab (w:World)(os:OsState)(B:List Stmt):My.runK treeTable My.pr w 11 (some (.ref 6)) 3692 (My.S0 w.params os) (My.lP My.pr (((ac My.pr).drop 0).take 31++B) My.q0)=some (My.S1 w.params os,My.lP My.pr B My.q1):=by
  delta My.pr;rewrite[Fast.te2368527892694137696,Fast.te14364793385576792824]
  kernel_rfl
open PySem PySem.W in
set_option maxHeartbeats 0 in
def My.yD (w:World)(os:OsState)(B:List Stmt):My.runK treeTable My.pr w 11 (some (.ref 6)) 3628 (My.S1 w.params os) (My.lP My.pr (((ac My.pr).drop 31).take 40++B) My.q1)=some (My.S2 w.params os,My.lP My.pr B My.q2):=by
  delta My.pr;rewrite[Fast.te2368527892694137696,Fast.te14364793385576792824]
  kernel_rfl
open PySem PySem.W in
set_option maxHeartbeats 0 in
def My.A0:LeftO My.pr (My.kP My.pr) My.rh (λs=>xlAt (My.kP My.pr) [] s&&recOk PySem.Challenge.rw_haulbell_k60_items_are_no_rows.row.records s) (λs=>My.CF.map s.heap.get?) (λw=>(My.K0 w.params).map λp=>some p.2) 14818:=by
  refine My.qa (by kernel_rfl) rfl (λ_=>by kernel_rfl) (λ_=>by kernel_rfl) (λ_=>by kernel_rfl) λw os=>?_
  have d:denote treeTable (.body (ac My.pr) (My.fg My.pr))=My.vf My.pr (ac My.pr):=My.tE (by kernel_rfl);have e:My.ij treeTable My.pr w 11 (some (.ref 6)) (12+(3692+(3628+(7486)))) (My.Ct w.params os) (topStub My.pr)=My.ij treeTable My.pr w 11 (some (.ref 6)) 7486 (My.S2 w.params os) (My.lP My.pr ((ac My.pr).drop 71) My.q2):=by
    rw[My.c6 (My.Ah w os)];dsimp only;rw[d];show My.ij treeTable My.pr w 11 (some (.ref 6)) _ (My.S0 w.params os) (My.lP My.pr ((ac My.pr).drop 0) My.q0)=_;rw[show(ac My.pr).drop 0=((ac My.pr).drop 0).take 31++(ac My.pr).drop 31 from by
      rw[show(ac My.pr).drop 31=((ac My.pr).drop 0).drop 31 by rw[List.drop_drop],List.take_append_drop],My.c6 (My.Ab w os _)]
    rw[show(ac My.pr).drop 31=((ac My.pr).drop 31).take 40++(ac My.pr).drop 71 from by
      rw[show(ac My.pr).drop 71=((ac My.pr).drop 31).drop 40 by rw[List.drop_drop],List.take_append_drop],My.c6 (My.yD w os _)]
  rw[show(14818:Nat)=12+(3692+(3628+(7486))) from rfl,e]
  delta My.pr;rewrite[Fast.te4187177175401517315,Fast.te5923862056798008813,Fast.te2368527892694137696,Fast.te14364793385576792824]
  kernel_rfl
set_option Elab.async false
open List(mem_range filterMap_cons mem_cons_self mem_cons_of_mem mem_cons mem_append mem_append_left getElem?_set_self getElem?_set_ne mem_append_right size_toArray any_eq_false length_cons map_cons length_map append_nil nodup_cons of_mem_zip length_take getElem?_append_right getElem?_append_left getElem?_map take_sublist mem_of_getElem? length_append length_replicate length_drop length_set all_cons any_cons replicate_succ flatten_cons append_assoc foldl_cons length_singleton nil_append find?_cons cons_append forIn_cons forIn_nil getElem?_eq_getElem getElem_mem drop_zero lookup_cons take_of_length_le not_mem_nil all_eq_true length_eq_zero_iff zip_cons_cons zip_append take_append_drop mem_of_mem_take isEmpty_iff mem_iff_getElem? mem_singleton take_succ map_append any_eq_true sum_cons cons_ne_nil)
@[reducible]def EK:Type:=Unit->PySem.Shared->Prop
@[reducible]def EL:Type:=PySem.Value->PySem.Shared->Prop
@[reducible]def EM:Type:=List (PySem.Addr×PySem.Obj)
@[reducible]def EN:Type:=PySem.Str->Option PySem.Value
namespace L2
open PySem PySem.Spec PyProof.Rows
@[reducible]def Key:=Sum Int Str
abbrev iJ:Key->Value->Bool
 | .inl k,v=>Value.isInt k v
 | .inr x,v=>Value.isStrOf x v
abbrev Dw (w:World):Key->Int
 | .inl k=>hashInt k
 | .inr x=>hashStr w x
def ar:∀ {k:Key}{v:Value},iJ k v=true->(∃ i t,k=Sum.inl i/\v=Value.int i t)\/(∃ x t,k=Sum.inr x/\v=Value.str x t)
 | .inl i,v,h=>by
  obtain⟨t,e⟩:=Value.isInt_shape (k:=i) (v:=v) h;exact .inl ⟨i,t,rfl,e⟩
 | .inr x,v,h=>by
  obtain⟨t,e⟩:=Value.isStrOf_shape (x:=x) (v:=v) h;exact .inr ⟨x,t,rfl,e⟩
def qo (i:Int)(t:Tok):iJ (.inl i) (.int i t)=true:=by simp[iJ,Value.isInt]
def qD (x:Str)(t:Tok):iJ (.inr x) (.str x t)=true:=by simp[iJ,Value.isStrOf]
def zW (a b:Int):decide ((Sum.inl a:Key)=Sum.inl b)=(a ==b):=by
 by_cases e:a=b
 .subst e;simp
 .have h:¬ (Sum.inl a:Key)=Sum.inl b:=λq=>e (Sum.inl.inj q)
  rw[decide_eq_false h];exact(beq_eq_false_iff_ne.mpr e).symm
def zI (a b:Str):decide ((Sum.inr a:Key)=Sum.inr b)=decide (a=b):=by
 by_cases e:a=b
 .subst e;simp
 .have h:¬ (Sum.inr a:Key)=Sum.inr b:=λq=>e (Sum.inr.inj q)
  rw[decide_eq_false h,decide_eq_false e]
def AD (a:Int)(b:Str):decide ((Sum.inl a:Key)=Sum.inr b)=false:=decide_eq_false (λq=>nomatch q)
def yY (a:Str)(b:Int):decide ((Sum.inr a:Key)=Sum.inl b)=false:=decide_eq_false (λq=>nomatch q)
abbrev az (prog:Program)(w:World):PySem.KeyKind prog w Key where
 is:=iJ
 hash:=Dw w
 inj:=λv a b ha hb=>by
  rcases ar ha with⟨i,t,rfl,rfl⟩|⟨x,t,rfl,rfl⟩
  .rcases ar hb with⟨j,u,rfl,e⟩|⟨y,u,rfl,e⟩
   .injection e with e1 _;rw[e1]
   .exact nomatch e
  .rcases ar hb with⟨j,u,rfl,e⟩|⟨y,u,rfl,e⟩
   .exact nomatch e
   .injection e with e1 _;rw[e1]
 byValue:=λk v h=>by
  rcases ar h with⟨i,t,rfl,rfl⟩|⟨x,t,rfl,rfl⟩<;>rfl
 pyHash:=λhv h=>by
  rcases ar hv with⟨i,t,rfl,rfl⟩|⟨x,t,rfl,rfl⟩
  .exact wpAny_pyHash_int h
  .exact wpAny_pyHash_str h
 eqBool:=λhu hv h=>by
  rcases ar hu with⟨i,t,rfl,rfl⟩|⟨x,t,rfl,rfl⟩
  .rcases ar hv with⟨j,u,rfl,rfl⟩|⟨y,u,rfl,rfl⟩
   .rw[zW]at h;exact wpAny_eqBool_int h
   .rw[AD]at h;exact SeqAt.EqAt.int_str i t y u _ _ _ _ h
  .rcases ar hv with⟨j,u,rfl,rfl⟩|⟨y,u,rfl,rfl⟩
   .rw[yY]at h;exact SeqAt.EqAt.str_int x t j u _ _ _ _ h
   .rw[zI]at h;exact wpAny_eqBool_str h
 «strs»:=λk x t v h=>by
  rcases ar h with⟨i,u,rfl,e⟩|⟨y,u,rfl,e⟩
  .exact nomatch e
  .injection e with e1 _
   subst e1;cases v<;>rfl
def j8 (prog:Program)(w:World)(i:Int)(t:Tok):(az prog w).is (.inl i) (.int i t)=true:=qo i t
def lu (prog:Program)(w:World)(x:Str)(t:Tok):(az prog w).is (.inr x) (.str x t)=true:=qD x t
inductive V where
 |non|bl (b:Bool)|int (i:Int)|str (x:Str)|byt (b:Array UInt8)|flt (b:UInt64)|ref (a:Addr)|ty (n:String)
 deriving DecidableEq
abbrev RelV:V->Value->Prop
 | .non,u=>u=Value.none
 | .bl b,u=>u=Value.bool b
 | .int i,u=>∃ t,u=Value.int i t
 | .str x,u=>∃ t,u=Value.str x t
 | .byt b,u=>∃ t,u=Value.bytes b t
 | .flt b,u=>∃ t,u=Value.float b t
 | .ref a,u=>u=Value.ref a
 | .ty n,u=>u=Value.type n
@[reducible]def Vals:List V->List Value->Prop:=Paired RelV
variable {xs:List V}{us:List Value}
def Vals.length (r:Vals xs us):xs.length=us.length:=Paired.length r
def Vals.get:∀ {xs:List V}{us:List Value}{i:Nat}{x:V},Vals xs us->xs[i]? =some x->∃ u,us[i]? =some u/\RelV x u
 |_,_,_,_,.nil,e=>by simp at e
 |_,_,0,_,.cons r _,e=>by simp at e;subst e;exact⟨_,rfl,r⟩
 |_,_,i+1,x,.cons _ t,e=>by
  obtain⟨u,h1,h2⟩:=Vals.get (i:=i) (x:=x) t (by simpa using e);exact⟨u,by simpa using h1,h2⟩
variable {u:Value}
def Vals.set {x:V}(r:RelV x u):∀ {xs:List V}{us:List Value}(i:Nat),Vals xs us->Vals (xs.set i x) (us.set i u)
 |_,_,_,.nil=>.nil
 |_,_,0,.cons _ t=>.cons r t
 |_,_,i+1,.cons q t=>.cons q (Vals.set r i t)
def Vals.append:∀ {xs ys:List V}{us ws:List Value},Vals xs us->Vals ys ws->Vals (xs++ys) (us++ws)
 |_,_,_,_,.nil,s=>s
 |_,_,_,_,.cons r t,s=>.cons r (Vals.append t s)
def Vals.take:∀ {xs:List V}{us:List Value}(n:Nat),Vals xs us->Vals (xs.take n) (us.take n)
 |_,_,0,_=>.nil
 |_,_,_+1,.nil=>.nil
 |_,_,n+1,.cons r t=>.cons r (Vals.take n t)
def Vals.drop:∀ {xs:List V}{us:List Value}(n:Nat),Vals xs us->Vals (xs.drop n) (us.drop n)
 |_,_,0,r=>r
 |_,_,_+1,.nil=>.nil
 |_,_,n+1,.cons _ t=>Vals.drop n t
abbrev b9:Option V->Option Value->Prop
 |some v,some u=>RelV v u
 |none,none=>True
 |_,_=>False
abbrev KV {κ:Type}:List (κ×V)->List (κ×Value)->Prop:=Paired λ(p:κ×V) (q:κ×Value)=>p.1=q.1/\RelV p.2 q.2
abbrev kV:Key->V
 | .inl i=>.int i
 | .inr x=>.str x
inductive HO where
  |lst (xs:List V)
  |tup (xs:List V)
  |dK (kvs:List (Key×V))|dT (kvs:List (List Key×V))
  |set (S:Int->Bool) (n:Nat)
  |ins (C dx:Addr) (fs:List (Str×V))
  |own (x:Addr)
  |exc (C:Addr) (dx:Option Addr) (fs:List (Str×V)) (fr:Bool)
  |xd (fs:List (Str×V))
  |met (f x:Addr)
  |rng (lo hi:Int)
  |fZ (o:Obj) (u:HO)
  |tbl (ps:Array Value)
  |ext (φ:Heap->Prop)
@[reducible]def Hp:=Addr->Option HO
abbrev upd (H:Hp)(a:Addr)(o:HO):Hp:=λb=>if b=a then some o else H b
variable {H:Hp}{a:Addr}{o:HO}
def aj:upd H a o a=some o:=by unfold upd;rw[if_pos rfl]
variable {b:Addr}
def af (h:b≠a):upd H a o b=H b:=by unfold upd;rw[if_neg h]
def wQ {u:HO}:upd (upd H a o) a u=upd H a u:=by
 funext b;unfold upd;split<;>rfl
def Bb {u:HO}(h:H a=some o)(h':H b=some u)(d:o≠u):a≠b:=by
 intro e;subst e;rw[h]at h';exact d (Option.some.inj h')
def aB (h:H a=some o)(h':H b=none):a≠b:=by
 intro e;subst e;rw[h]at h';cases h'
section
variable (P:Program) (w:World)
abbrev ao (H:Hp)(h:Heap)(a:Addr):HO->Prop
 | .lst xs=>xs.length<=bn/\∃ (its:List Value) (n:Nat),Vals xs its/\h.get? a=some { cls:=.type "list",data:=.seq its.toArray n }
 | .tup xs=>xs.length<=bn/\∃ its:List Value,Vals xs its/\IsTup h a its.toArray
 | .dK kvs=>kvs.length<=bn/\(a ==sysModules)=false/\∃ vs,KV kvs vs/\h.DictOf (az P w) a vs
 | .dT kvs=>kvs.length<=bn/\(a ==sysModules)=false/\∃ xs:List (List Key×Addr×Value),
   Paired (λ(p:List Key×V) (q:List Key×Addr×Value)=>p.1=q.1/\H q.2.1=some (.tup (p.1.map kV))/\RelV p.2 q.2.2) kvs xs/\
   ∃ o es ep,h.get? a=some o/\o.ExactDict/\o.data=.dict es ep/\es.toList=xs.map (entryOfKey (tupleKind (az P w)))/\(xs.map (·.1)).Nodup
 | .set S n=>h.SetOf (intKind P w) a S n
 | .ins C dx fs=>H dx=some (.own a)/\fs.length<=1000/\dx≠a/\h.get? a=some (W.instObj C dx)/\
   ∃ mA,h.Ns1 dx mA/\(∀ f,b9 (fs.lookup f) (mA f))/\PySem.Within mA (fs.map (·.1))
 | .exc C dx fs fr=>(∃ vs,h.get? a=some { cls:=.ref C,dict:=dx,data:=.fields vs }/\vs.size=6/\(fr=true->vs[1]? =some Value.none))/\
   ((dx=none/\fs=[])\/∃ d,dx=some d/\H d=some (.own a)/\fs.length<=1000/\d≠a/\∃ mA,h.Ns1 d mA/\(∀ f,b9 (fs.lookup f) (mA f))/\PySem.Within mA (fs.map (·.1)))
 | .own _=>∃ o,h.get? a=some o
 | .xd fs=>∃ mA,h.Ns1 a mA/\∀ f,b9 (fs.lookup f) (mA f)
 | .rng lo hi=>∃ t u v,h.get? a=some { cls:=.type "range",data:=.fields #[.int lo t,.int hi u,.int 1 v] }
 | .fZ o u=>h.get? a=some o/\ao H h a u
 | .tbl ps=>h.get? a=some { cls:=.none,data:=.fields ps }
 | .met f x=>h.get? a=some (W.methodObj (.ref f) (.ref x))
 | .ext φ=>φ h/\(∃ o,h.get? a=some o)/\∀ h1 h2:Heap,φ h1->(∀ o,h1.get? a=some o->h2.get? a=some o)->φ h2
abbrev dN (H:Hp)(h:Heap):Prop:=∀ a o,H a=some o->ao P w H h a o
end
section
variable {P:Program}{w:World}{H H':Hp}{h h':Heap}{a:Addr}{o:HO}
def ao.lt (x:ao P w H h a o):a<h.objs.size:=by
 cases o with
 |lst xs=>obtain⟨_,_,_,_,e⟩:=x;exact ss e
 |tup xs=>obtain⟨_,_,_,p⟩:=x;exact p.lt
 |dK kvs=>obtain⟨_,_,_,_,o,_,_,e,_⟩:=x;exact ss e
 |dT kvs=>obtain⟨_,_,_,_,o,_,_,e,_⟩:=x;exact ss e
 |set S n=>obtain⟨o,_,_,_,e,_⟩:=x;exact ss e
 |ins C dx fs=>obtain⟨_,_,_,e,_⟩:=x;exact ss e
 |exc C dx fs fr=>obtain⟨⟨_,e,_⟩,_⟩:=x;exact ss e
 |own y=>obtain⟨_,e⟩:=x;exact ss e
 |xd fs=>obtain⟨_,⟨_,_,_,e,_⟩,_⟩:=x;exact ss e
 |rng lo hi=>obtain⟨_,_,_,e⟩:=x;exact ss e
 |fZ ob u=>obtain⟨e,_⟩:=x;exact ss e
 |tbl ps=>exact ss (show h.get? a=some _ from x)
 |met f y=>exact ss (show h.get? a=some _ from x)
 |ext φ=>obtain⟨_,⟨_,e⟩,_⟩:=x;exact ss e
def Paired.yn {α β:Type}{F G:α->β->Prop}:∀ {l₁:List α}{l₂:List β},Paired F l₁ l₂->(∀ a b,F a b->G a b)->Paired G l₁ l₂
 |_,_,.nil,_=>.nil
 |_,_,.cons r t,f=>.cons (f _ _ r) (Paired.yn t f)
def ao.dr (x:ao P w H h a o)(k:∀ b u,(b=a\/H b=some (.own a))->h.get? b=some u->h'.get? b=some u)
  (ho:∀ b,H b=some (.own a)->H' b=some (.own a)) (ht:∀ b xs,H b=some (.tup xs)->H' b=some (.tup xs)):ao P w H' h' a o:=by
 induction o with
 |lst xs=>obtain⟨z,its,n,r,e⟩:=x;exact⟨z,its,n,r,k _ _ (.inl rfl) e⟩
 |tup xs=>obtain⟨z,its,r,ob,e,c⟩:=x;exact⟨z,its,r,ob,k _ _ (.inl rfl) e,c⟩
 |dK kvs=>obtain⟨z,y,vs,r,ob,es,ep,e,c⟩:=x;exact⟨z,y,vs,r,ob,es,ep,k _ _ (.inl rfl) e,c⟩
 |dT kvs=>
  obtain⟨z,y,xs,r,ob,es,ep,e,c⟩:=x;exact⟨z,y,xs,Paired.yn r λp q z=>⟨z.1,ht _ _ z.2.1,z.2.2⟩,ob,es,ep,k _ _ (.inl rfl) e,c⟩
 |set S n=>obtain⟨ob,es,ep,t,e,c⟩:=x;exact⟨ob,es,ep,t,k _ _ (.inl rfl) e,c⟩
 |ins C dx fs=>
  obtain⟨d,z,ne,e,mA,⟨od,es,ep,e2,c⟩,r⟩:=x;exact⟨ho _ d,z,ne,k _ _ (.inl rfl) e,mA,⟨od,es,ep,k _ _ (.inr d) e2,c⟩,r⟩
 |exc C dx fs fr=>
  obtain⟨⟨vs,e,z⟩,q⟩:=x;refine⟨⟨vs,k _ _ (.inl rfl) e,z⟩,?_⟩;rcases q with q|⟨d,ed,d1,z1,ne,mA,⟨od,es,ep,e2,c⟩,r⟩
  .exact .inl q
  .exact .inr ⟨d,ed,ho _ d1,z1,ne,mA,⟨od,es,ep,k _ _ (.inr d1) e2,c⟩,r⟩
 |own y=>obtain⟨ob,e⟩:=x;exact⟨ob,k _ _ (.inl rfl) e⟩
 |xd fs=>obtain⟨mA,⟨od,es,ep,e,c⟩,r⟩:=x;exact⟨mA,⟨od,es,ep,k _ _ (.inl rfl) e,c⟩,r⟩
 |rng lo hi=>obtain⟨t,u,v,e⟩:=x;exact⟨t,u,v,k _ _ (.inl rfl) e⟩
 |fZ ob u ih=>obtain⟨e,q⟩:=x;exact⟨k _ _ (.inl rfl) e,ih q⟩
 |tbl ps=>
  have e:h.get? a=some { cls:=.none,data:=.fields ps }:=x;show h'.get? a=some { cls:=.none,data:=.fields ps };exact k a _ (.inl rfl) e
 |met f y=>
  have e:h.get? a=some (W.methodObj (.ref f) (.ref y)):=x;show h'.get? a=some (W.methodObj (.ref f) (.ref y));exact k a _ (.inl rfl) e
 |ext φ=>obtain⟨p,⟨o,e⟩,st⟩:=x;exact⟨st _ _ p λo q=>k _ _ (.inl rfl) q,⟨o,k _ _ (.inl rfl) e⟩,st⟩
def dN.lt (x:dN P w H h)(e:H a=some o):a<h.objs.size:=(x a o e).lt
def dN.fresh (x:dN P w H h)(e:h.objs.size<=a):H a=none:=by
 cases q:H a with
 |none=>rfl
 |some u=>exact absurd (mo (x.lt q) e) (Nat.lt_irrefl _)
def dN.kept (x:dN P w H h)(k:∀ b u,h.get? b=some u->h'.get? b=some u):dN P w H h':=λa o e=>
 (x a o e).dr (λb u _ q=>k b u q) (λ_ q=>q) λ_ _ q=>q
def dN.laid (x:dN P w H h)(k:∀ b u,h.get? b=some u->h'.get? b=some u) (hp:h.objs.size<=a) (new:ao P w (upd H a o) h' a o):dN P w (upd H a o) h':=λb u e=>by
 have hn:=x.fresh hp
 by_cases hb:b=a
 .subst hb;rw[aj]at e;cases e;exact new
 .rw[af hb]at e;exact(x b u e).dr (λc v _ q=>k c v q) (λc q=>by rw[af (aB q hn)];exact q) λc xs q=>by rw[af (aB q hn)];exact q
end
abbrev Rd (H:Hp)(a:Addr)(u:HO):Prop:=H a=some u\/∃ o,H a=some (.fZ o u)
variable {P:Program}{w:World}{h:Heap}
def Rd.ok {u:HO}(r:Rd H a u)(x:dN P w H h):ao P w H h a u:=by
 rcases r with r|⟨o,r⟩
 .exact x a u r
 .obtain⟨_,q⟩:=x a _ r;exact q
abbrev Ci:Option HO->Prop
 |some (.lst _)=>True
 |some (.dK _)=>True
 |some (.dT _)=>True
 |some (.set _ _)=>True
 |some (.ins _ _ _)=>True
 |some (.exc _ _ _ _)=>True
 |some (.ext _)=>True
 |_=>False
section
variable {P:Program}{w:World}{H:Hp}{h h':Heap}{x e:Addr}{o':HO}
def dN.write (ok:dN P w H h)(mu:Ci (H x))(he:e=x\/H e=some (.own x))(k:∀ b u,b≠e->h.get? b=some u->h'.get? b=some u) (heo:∃ u,h'.get? e=some u)
  (new:ao P w (upd H x o') h' x o'):dN P w (upd H x o') h':=λb u q=>by
 have nown:∀ c y,H c=some (.own y)->c≠x:=λc y r z=>by subst z;rw[r]at mu;exact mu
 have ntup:∀ c xs,H c=some (.tup xs)->c≠x:=λc xs r z=>by subst z;rw[r]at mu;exact mu
 by_cases hb:b=x
 .subst hb;rw[aj]at q;cases q;exact new
 .rw[af hb]at q
  by_cases hbe:b=e
  .have q':H b=some (.own x):=by
    rcases he with z|z
    .exact absurd (hbe.trans z) hb
    .rw[hbe];exact z
   rw[q]at q';cases q';obtain⟨v,hv⟩:=heo;exact⟨v,by rw[hbe];exact hv⟩
  .refine(ok b u q).dr (λc v hc r=>k c v ?_ r) (λc r=>by rw[af (nown c b r)];exact r) λc xs r=>by rw[af (ntup c xs r)];exact r
   rcases hc with rfl|hc
   .exact hbe
   .rintro rfl;rcases he with z|z
    .exact nown c b hc z
    .rw[hc]at z;cases z;exact hb rfl
end
structure Un (fs ex:List Addr) (H H':Hp) (h h':Heap):Prop where
 keep:∀ b o,h.get? b=some o->H b=none->b ∉ fs->b ∉ ex->h'.get? b=some o
 slot:∀ b o,h.get? b=some o->H b=none->b ∈ fs->b ∉ ex->∃ sl,h'.get? b=some { o with slots:=sl }
 free:∀ b o,h.get? b=some o->H b=none->b ∉ ex->H' b=none
 there:∀ b o,h.get? b=some o->b ∉ ex->∃ o',h'.get? b=some o'
 tups:∀ b xs,H b=some (.tup xs)->H' b=some (.tup xs)
 frzs:∀ b o u,H b=some (.fZ o u)->H' b=some (.fZ o u)
 tbls:∀ b ps,H b=some (.tbl ps)->∃ more,H' b=some (.tbl (ps++more))
section
variable {fs fs' ex ex':List Addr}{H H1 H2:Hp}{h h1 h2 h':Heap}{a x e:Addr}{o:HO}
def Un.any (u:Un fs ex H H1 h h1){ob:Obj}(q:h.get? b=some ob)(n:H b=none)(hx:b ∉ ex):∃ sl,h1.get? b=some { ob with slots:=sl }:=by
 by_cases hb:b ∈ fs
 .exact u.slot b ob q n hb hx
 .exact⟨ob.slots,u.keep b ob q n hb hx⟩
def Un.kept (k:∀ b u,h.get? b=some u->h'.get? b=some u):Un fs ex H H h h':=
 ⟨λb ob q _ _ _=>k b ob q,λb ob q _ _ _=>⟨ob.slots,k b ob q⟩,λ_ _ _ n _=>n,λb ob q _=>⟨ob,k b ob q⟩,λ_ _ q=>q,λ_ _ _ q=>q,λ_ ps q=>⟨#[],by rw[q];simp⟩⟩
def Un.refl:Un fs ex H H h h:=Un.kept λ_ _ q=>q
def Un.laid (k:∀ b u,h.get? b=some u->h'.get? b=some u) (hp:h.objs.size<=a) (hn:H a=none):Un fs ex H (upd H a o) h h' where
 keep:=λb u q _ _ _=>k b u q
 slot:=λb u q _ _ _=>⟨u.slots,k b u q⟩
 free:=λb u q n _=>by rw[af (nw (mo (ss q) hp))];exact n
 there:=λb u q _=>⟨u,k b u q⟩
 tups:=λb xs q=>by rw[af (aB q hn)];exact q
 frzs:=λb u xs q=>by rw[af (aB q hn)];exact q
 tbls:=λb ps q=>⟨#[],by rw[af (aB q hn),q];simp⟩
def Un.write (mu:Ci (H x))(he:e=x\/H e=some (.own x))(k:∀ b u,b≠e->h.get? b=some u->h'.get? b=some u) (heo:∃ u,h'.get? e=some u):Un fs ex H (upd H x o) h h':=by
 have hx:∀ b,H b=none->b≠x:=λb n z=>by subst z;rw[n]at mu;exact mu
 have hb:∀ b,H b=none->b≠e:=λb n z=>by
  subst z;rcases he with r|r
  .exact hx b n r
  .rw[n]at r;cases r
 have hm:∀ b u,H b=some u->¬ Ci (some u)->b≠x:=λb u q nm z=>by subst z;rw[q]at mu;exact nm mu
 refine⟨λb u q n _ _=>k b u (hb b n) q,λb u q n _ _=>⟨u.slots,k b u (hb b n) q⟩,λb u q n _=>by rw[af (hx b n)];exact n,λb u q _=>?_,
  λb xs q=>by rw[af (hm b _ q λz=>z)];exact q,λb u xs q=>by rw[af (hm b _ q λz=>z)];exact q,λb ps q=>⟨#[],by rw[af (hm b _ q λz=>z),q];simp⟩⟩
 by_cases hbe:b=e
 .subst hbe;exact heo
 .exact⟨u,k b u hbe q⟩
end
abbrev xX (h:Heap)(H:Hp):List Addr:=(List.range h.objs.size).filter λa=>(H a).isSome
abbrev jM (h:Heap)(H:Hp):Heap:=W.hideAll h (xX h H)
def pW (h:Heap)(H:Hp):(jM h H).objs.size=h.objs.size:=W.hideAll_size _ _
def sX {o:Obj}(e:h.get? b=some o)(n:H b=none):(jM h H).get? b=some o:=
 W.hideAll_get _ e λhm=>by
  have q:(H b).isSome=true:=(List.mem_filter.mp hm).2;rw[n]at q;simp at q
def xl {o:Obj}(e:(jM h H).get? b=some o):h.get? b=some o/\H b=none:=by
 have e':h.get? b=some o:=W.of_hideAll (xX h H) e;refine⟨e',?_⟩;cases q:H b with
 |none=>rfl
 |some x=>
  have hm:b ∈ xX h H:=List.mem_filter.mpr ⟨mem_range.mpr (ss e'),by simp[q]⟩;have z:(jM h H).get? b=none:=W.hideAll_none (xX h H) hm;rw[z]at e;cases e
structure Mod (K:W.Frag) (mg:EN) (base:Heap):Prop where
 kin:K.In base
 glob:base.Ns mainGlobals mg
 blt:∃ mb,base.Ns builtinsNs mb/\∀ x:Str,x≠"__name__"->mb x=bootBuiltins x
 nolimit:base.NoLimit
/-- the context:a def's body (or a comprehension's block) running. base:fixed through the whole law;s₀,H₀:the entry;outer:the frames whose slots others may change (a def's callers);stack:all frames that run;
  ex:iterators that were made ahead of the entry and are walked here (a comprehension's);fn:the names whose cells were made at the entry (a def:all;a comprehension's block:its own);calm:not within an except aU;pn:Y that every state bears;xe:what is wanted of an exception that leaves the code -/
structure Cx where
 prog:Program
 w:World
 K:W.Frag
 mg:Str->Option Value
 base:Heap
 A:Around
 N:List Str
 s₀:Shared
 H₀:Hp
 env:Env
 outer:List Env
 stack:List Env
 ex:List Addr
 fn:Str->Bool
 calm:Bool
 pn:List (Addr×Obj)
 xe:Value->Shared->Prop
abbrev jh (l:List Env):List Addr:=l.filterMap (·.frame)
noncomputable abbrev Cx.fs (X:Cx):List Addr:=jh X.outer
abbrev Cw (sc:Scope)(x:Str):Prop:=sc.names.lookup x=some .local\/sc.names.lookup x=some .cell\/sc.names.lookup x=some .free
abbrev Loc (sc:Scope)(x:Str):Prop:=sc.names.lookup x=some .local\/sc.names.lookup x=some .cell
abbrev Look (env:Env)(h:Heap)(m:EN)(x:Str)(u:Value):Prop:=
 (env.kindOf x=some .local/\m x=some u)\/((env.kindOf x=some .cell\/env.kindOf x=some .free)/\∃ c,env.cells.lookup x=some c/\h.IsCell c (some u))
structure Cx.Ok (X:Cx):Prop where
 mod:Mod X.K X.mg X.base
 kind:X.env.scope.kind=.function
 glob:X.env.globals=mainGlobals
 blt:X.env.builtins=builtinsNs
 above:X.s₀.heap.objs.size<=X.env.locals
 inj:∀ x y c,X.env.cells.lookup x=some c->X.env.cells.lookup y=some c->x=y
 has:∀ x,(X.env.kindOf x=some .cell\/X.env.kindOf x=some .free)->∃ c,X.env.cells.lookup x=some c
 cab:∀ x c,X.fn x=true->X.env.cells.lookup x=some c->X.s₀.heap.objs.size<=c
 hd:X.calm=true->X.A.handled=none
 frames:X.A.frames=some X.stack
 stk:X.stack=X.outer\/(X.stack=X.env::X.outer/\X.env.frame=some X.env.locals)
 exf:∀ b ∈ X.ex,b≠X.env.locals/\∀ x c,X.env.cells.lookup x=some c->c≠b
 bs:∀ b o,X.base.get? b=some o->X.s₀.heap.get? b=some o/\X.H₀ b=none
 bsz:X.base.objs.size<=X.s₀.heap.objs.size
 noex:∀ b o,X.base.get? b=some o->b ∉ X.ex
 exfs:∀ b ∈ X.ex,b ∉ X.fs
 gf:X.s₀.heap.FunFrames X.base X.outer
 frf:∀ b ∈ X.fs,X.H₀ b=none
structure Inv (X:Cx) (Y:EM) (U:List (Option V)) (H:Hp) (s:Shared):Prop where
 ok:X.Ok
 os:s.os=X.s₀.os
 bare:AllBare s.gens
 base:Un X.fs X.ex X.H₀ H X.s₀.heap s.heap
 loc:∃ m,s.heap.Ns X.env.locals m/\∀ (i:Nat) (x:Str) (v:V),X.N[i]? =some x->U[i]? =some (some v)->Cw X.env.scope x->∃ u,RelV v u/\Look X.env s.heap m x u
 cell:∀ x c,X.env.cells.lookup x=some c->∃ v,s.heap.IsCell c v
 free:H X.env.locals=none
 freeC:∀ x c,X.env.cells.lookup x=some c->H c=none
 pin:∀ p ∈ X.pn++Y,s.heap.get? p.1=some p.2/\H p.1=none/\p.1≠X.env.locals/\p.1 ∉ X.fs/\∀ v,p.2.data≠.cell v
 hok:dN X.prog X.w H s.heap
 len:U.length=X.N.length
variable {x:Str}{g':Array GenState}{ch:List Addr}{i:Nat}{M:Model}{A:Around}{E:EL}{v:V}
section
variable {X:Cx}{Y:EM}{U:List (Option V)}{H H':Hp}{s:Shared}{h':Heap}
def Cx.Ok.Dh (ok:X.Ok){o:Obj}(e:X.base.get? b=some o):b ∉ X.fs:=λhb=>by
 have:=(ok.gf.mem hb).1;rw[e]at this;cases this
def Inv.bs (I:Inv X Y U H s):∀ b o,X.base.get? b=some o->s.heap.get? b=some o/\H b=none:=λb o e=>
 ⟨I.base.keep b o (I.ok.bs b o e).1 (I.ok.bs b o e).2 (I.ok.Dh e) (I.ok.noex b o e),I.base.free b o (I.ok.bs b o e).1 (I.ok.bs b o e).2 (I.ok.noex b o e)⟩
def Inv.bk (I:Inv X Y U H s):∀ b o,X.base.get? b=some o->s.heap.get? b=some o:=λb o e=>(I.bs b o e).1
def Inv.mod (I:Inv X Y U H s):Mod X.K X.mg X.base:=I.ok.mod
def Inv.aY (I:Inv X Y U H s):X.K.In s.heap:=I.ok.mod.kin.keeps I.bk
def Inv.lt (I:Inv X Y U H s):X.env.locals<s.heap.objs.size:=let⟨_,hn,_⟩:=I.loc;hn.lt
def Inv.sz (I:Inv X Y U H s):X.s₀.heap.objs.size<=s.heap.objs.size:=Nat.le_trans I.ok.above (Nat.le_of_lt I.lt)
def Inv.Dj (I:Inv X Y U H s)(h:s.heap.objs.size<=a):a ∉ X.fs:=λhb=>by
 obtain⟨_,o,ho,_⟩:=I.ok.gf.mem hb;exact absurd (mo (ss ho) (Nat.le_trans I.sz h)) (Nat.lt_irrefl _)
def Inv.uc (I:Inv X Y U H s):∀ x c,X.env.cells.lookup x=some c->c≠X.env.locals:=λx c e z=>by
 obtain⟨v,o,ho,hd⟩:=I.cell x c e;obtain⟨m,⟨o',es,ep,ho',hd',_⟩,_⟩:=I.loc;rw[z,ho']at ho;cases ho;rw[hd']at hd;cases hd
def Inv.gf (I:Inv X Y U H s):s.heap.FunFrames X.base X.outer:=by
 have all:∀ (l:List Env),(∀ b ∈ jh l,b ∈ X.fs)->X.s₀.heap.FunFrames X.base l->s.heap.FunFrames X.base l:=by
  intro l
  induction l with
  |nil=>intro _ _;trivial
  |cons env r ih=>
   intro hs hl;obtain⟨hk,⟨L,o,hf,hn,ho,hd⟩,hr⟩:=hl;have hL:L ∈ X.fs:=hs L (by unfold jh;rw[filterMap_cons,hf];exact lf);obtain⟨sl,e⟩:=I.base.slot L o ho (I.ok.frf L hL) hL λz=>I.ok.exfs L z hL
   exact⟨hk,⟨L,_,hf,hn,e,hd⟩,ih (λb hb=>hs b (by unfold jh;rw[filterMap_cons,hf];exact dl _ hb)) hr⟩
 exact all X.outer (λ_ hb=>hb) I.ok.gf
def Inv.stack (I:Inv X Y U H s):s.heap.FunFrames X.base X.stack:=by
 rcases I.ok.stk with e|⟨e,hf⟩
 .rw[e];exact I.gf
 .rw[e];obtain⟨m,hn,_⟩:=I.loc;refine .cons (by rw[I.ok.kind];decide) hf hn ?_ I.gf;exact Heap.get?_none_of_le (Nat.le_trans I.ok.bsz I.ok.above)
def Inv.fL (I:Inv X Y U H s):∀ b ∈ jh X.stack,b ∈ X.env.locals::X.fs:=λb hb=>by
 rcases I.ok.stk with e|⟨e,hf⟩
 .rw[e]at hb;exact dl _ hb
 .rw[e]at hb;unfold jh at hb;rw[filterMap_cons,hf]at hb;exact hb
def Inv.jt (I:Inv X Y U H s):∀ b ∈ jh X.stack,H b=none:=λb hb=>by
 rcases li.mp (I.fL b hb) with e|hb
 .rw[e];exact I.free
 .obtain⟨_,o,ho,_⟩:=I.ok.gf.mem hb;exact I.base.free b o ho (I.ok.frf b hb) λz=>I.ok.exfs b z hb
def Inv.step {t':Nat}{d':Drawn}(I:Inv X Y U H s)
  (hch:∀ b ∈ ch,(b ∈ X.ex\/X.s₀.heap.objs.size<=b)/\b≠X.env.locals/\(∀ x c,X.env.cells.lookup x=some c->c≠b)/\∀ p ∈ X.pn++Y,p.1≠b)
  (keep:∀ b o,b≠X.env.locals->b ∉ X.fs->b ∉ ch->s.heap.get? b=some o->H b=none->h'.get? b=some o)
  (slot:∀ b o,b≠X.env.locals->b ∈ X.fs->b ∉ ch->s.heap.get? b=some o->H b=none->∃ sl,h'.get? b=some { o with slots:=sl }) (free:∀ b o,b ∉ ch->s.heap.get? b=some o->H b=none->H' b=none)
  (there:∀ b o,b ∉ ch->s.heap.get? b=some o->∃ o',h'.get? b=some o')
  (tups:∀ b xs,H b=some (.tup xs)->H' b=some (.tup xs)) (frzs:∀ b o u,H b=some (.fZ o u)->H' b=some (.fZ o u)) (tbls:∀ b ps,H b=some (.tbl ps)->∃ more,H' b=some (.tbl (ps++more)))
  (ns:∀ m,s.heap.Ns X.env.locals m->h'.Ns X.env.locals m) (hok:dN X.prog X.w H' h') (hg:AllBare g'):
  Inv X Y U H' { s with heap:=h',gens:=g',drawn:=d',toks:=t' }:=by
 have neL:∀ b o,X.s₀.heap.get? b=some o->b≠X.env.locals:=λb o e=>nw (mo (ss e) I.ok.above)
 have neC:∀ b o,X.s₀.heap.get? b=some o->b ∉ X.ex->b ∉ ch:=λb o e hx hb=>by
  rcases(hch b hb).1 with z|z
  .exact hx z
  .exact absurd (mo (ss e) z) (Nat.lt_irrefl _)
 have cellK:∀ x c,X.env.cells.lookup x=some c->∀ v,s.heap.IsCell c v->h'.IsCell c v:=λx c e v ⟨o,ho,hd⟩=>by
  have nch:c ∉ ch:=λz=>(hch c z).2.2.1 x c e rfl
  by_cases hc:c ∈ X.fs
  .obtain⟨sl,q⟩:=slot c o (I.uc x c e) hc nch ho (I.freeC x c e);exact⟨_,q,hd⟩
  .exact⟨o,keep c o (I.uc x c e) hc nch ho (I.freeC x c e),hd⟩
 refine⟨I.ok,I.os,hg,⟨λb o e n hb hx=>?_,λb o e n hb hx=>?_,λb o e n hx=>?_,λb o e hx=>?_,λb xs e=>tups b xs (I.base.tups b xs e),λb o xs e=>frzs b o xs (I.base.frzs b o xs e),λb ps e=>?_⟩,?_,λx c e=>?_,?_,λx c e=>?_,λp hp=>?_,hok,I.len⟩
 .exact keep b o (neL b o e) hb (neC b o e hx) (I.base.keep b o e n hb hx) (I.base.free b o e n hx)
 .obtain⟨sl,e1⟩:=I.base.slot b o e n hb hx;obtain⟨sl',e2⟩:=slot b _ (neL b o e) hb (neC b o e hx) e1 (I.base.free b o e n hx);exact⟨sl',e2⟩
 .obtain⟨o',e1⟩:=I.base.there b o e hx;exact free b o' (neC b o e hx) e1 (I.base.free b o e n hx)
 .obtain⟨o',e1⟩:=I.base.there b o e hx;exact there b o' (neC b o e hx) e1
 .obtain⟨m1,e1⟩:=I.base.tbls b ps e;obtain⟨m2,e2⟩:=tbls b _ e1;exact⟨m1++m2,by rw[e2,Array.append_assoc]⟩
 .obtain⟨m,hn,hl⟩:=I.loc;refine⟨m,ns m hn,λi x v e1 e2 e3=>?_⟩;obtain⟨u,r,l⟩:=hl i x v e1 e2 e3;refine⟨u,r,?_⟩;rcases l with l|⟨k,c,e,z⟩
  .exact .inl l
  .exact .inr ⟨k,c,e,cellK x c e _ z⟩
 .obtain⟨v,z⟩:=I.cell x c e;exact⟨v,cellK x c e v z⟩
 .obtain⟨m,⟨o,_,_,ho,_⟩,_⟩:=I.loc;exact free _ o (λz=>(hch _ z).2.1 rfl) ho I.free
 .obtain⟨v,o,ho,hd⟩:=I.cell x c e;exact free c o (λz=>(hch c z).2.2.1 x c e rfl) ho (I.freeC x c e)
 .obtain⟨e,n,ne,nf,d⟩:=I.pin p hp;have nch:p.1 ∉ ch:=λz=>(hch p.1 z).2.2.2 p hp rfl
  exact⟨keep p.1 p.2 ne nf nch e n,free p.1 p.2 nch e n,ne,nf,d⟩
def Inv.un {t':Nat}(I:Inv X Y U H s)(u:Un X.fs [] H H' s.heap h')(hok:dN X.prog X.w H' h'):Inv X Y U H' { s with heap:=h',toks:=t' }:=by
 obtain⟨m,⟨o,es,ep,ho,r⟩,_⟩:=id I.loc;obtain⟨sl,hL⟩:=u.any ho I.free (by simp);exact I.step (g':=s.gens) (d':=s.drawn) (ch:=[]) (λ_ z=>nomatch z) (λb o _ hb _ e n=>u.keep b o e n hb (by simp)) (λb o _ hb _ e n=>u.slot b o e n hb (by simp)) (λb o _ e n=>u.free b o e n (by simp)) (λb o _ e=>u.there b o e (by simp)) u.tups u.frzs u.tbls (λm' hm=>by
  obtain⟨o',es',ep',ho',r'⟩:=hm;rw[ho]at ho';cases ho';exact⟨_,es',ep',hL,r'⟩) hok I.bare
def Inv.call {t':Nat}{d':Drawn}(I:Inv X Y U H s)(u:Un (jh X.stack) ch H H' s.heap h')(hok:dN X.prog X.w H' h')(hg:AllBare g')
  (hch:∀ b ∈ ch,(b ∈ X.ex\/X.s₀.heap.objs.size<=b)/\b≠X.env.locals/\(∀ x c,X.env.cells.lookup x=some c->c≠b)/\∀ p ∈ X.pn++Y,p.1≠b):
  Inv X Y U H' { s with heap:=h',gens:=g',drawn:=d',toks:=t' }:=by
 obtain⟨m,⟨o,es,ep,ho,r⟩,_⟩:=id I.loc;obtain⟨sl,hL⟩:=u.any ho I.free λz=>(hch _ z).2.1 rfl
 exact I.step (ch:=ch) hch (λb o hL hb hc e n=>u.keep b o e n (λz=>(li.mp (I.fL b z)).elim hL hb) hc) (λb o _ _ hc e n=>u.any e n hc) (λb o hc e n=>u.free b o e n hc) (λb o hc e=>u.there b o e hc) u.tups u.frzs u.tbls (λm' hm=>by
  obtain⟨o',es',ep',ho',r'⟩:=hm;rw[ho]at ho';cases ho';exact⟨_,es',ep',hL,r'⟩) hok hg
def Inv.turned {t':Nat}{it:Addr}(I:Inv X Y U H s)(k:∀ b o,b≠it->s.heap.get? b=some o->h'.get? b=some o) (hn:H it=none) (hL:it≠X.env.locals)
  (h1:it ∈ X.ex\/X.s₀.heap.objs.size<=it) (h2:∀ x c,X.env.cells.lookup x=some c->c≠it) (h3:∀ p ∈ X.pn++Y,p.1≠it):Inv X Y U H { s with heap:=h',toks:=t' }:=by
 have nit:∀ b u,H b=some u->b≠it:=λb u e z=>by rw[z,hn]at e;cases e
 refine I.step (g':=s.gens) (d':=s.drawn) (ch:=[it]) (λb hb=>?_) (λb o _ _ hc e _=>k b o (λz=>hc (by simp[z])) e) (λb o _ _ hc e _=>⟨o.slots,k b o (λz=>hc (by simp[z])) e⟩) (λ_ _ _ _ n=>n)
  (λb o hc e=>⟨o,k b o (λz=>hc (by simp[z])) e⟩) (λ_ _ e=>e) (λ_ _ _ e=>e) (λb ps e=>⟨#[],by rw[e];simp⟩) (λm hm=>?_) (λb u e=>?_) I.bare
 .have e:b=it:=by simpa using hb
  subst e;exact⟨h1,hL,h2,h3⟩
 .obtain⟨o,es,ep,ho,r⟩:=hm;exact⟨o,es,ep,k _ o (Ne.symm hL) ho,r⟩
 .refine(I.hok b u e).dr (λc v hc q=>k c v ?_ q) (λ_ q=>q) λ_ _ q=>q
  rcases hc with z|z
  .rw[z];exact nit b u e
  .exact nit c _ z
def Inv.tok (I:Inv X Y U H s)(t:Nat):Inv X Y U H { s with toks:=t }:=I.un (h':=s.heap) (t':=t) Un.refl I.hok
def Inv.kept {t':Nat}(I:Inv X Y U H s)(k:∀ b u,s.heap.get? b=some u->h'.get? b=some u):Inv X Y U H { s with heap:=h',toks:=t' }:=I.un (Un.kept k) (I.hok.kept k)
def Inv.laid {t':Nat}(I:Inv X Y U H s)(k:∀ b u,s.heap.get? b=some u->h'.get? b=some u) (hp:s.heap.objs.size<=a) (new:ao X.prog X.w (upd H a o) h' a o):
  Inv X Y U (upd H a o) { s with heap:=h',toks:=t' }:=I.un (Un.laid k hp (I.hok.fresh hp)) (I.hok.laid k hp new)
def Inv.write {x e:Addr}{t':Nat}(I:Inv X Y U H s)(mu:Ci (H x))(he:e=x\/H e=some (.own x))(k:∀ b u,b≠e->s.heap.get? b=some u->h'.get? b=some u) (heo:∃ u,h'.get? e=some u)
  (new:ao X.prog X.w (upd H x o) h' x o):Inv X Y U (upd H x o) { s with heap:=h',toks:=t' }:=I.un (Un.write mu he k heo) (I.hok.write mu he k heo new)
def Inv.jk {pins':EM}(I:Inv X Y U H s)(h:∀ p ∈ pins',s.heap.get? p.1=some p.2/\H p.1=none/\p.1≠X.env.locals/\p.1 ∉ X.fs/\∀ v,p.2.data≠.cell v):Inv X pins' U H s:=
 ⟨I.ok,I.os,I.bare,I.base,I.loc,I.cell,I.free,I.freeC,λp hp=>(mem_append.mp hp).elim (λz=>I.pin p (mem_append_left _ z)) (h p),I.hok,I.len⟩
def gP {N:List Str}(hN:N.Nodup){j:Nat}(a:N[i]? =some x)(b:N[j]? =some x):i=j:=by
 obtain⟨h1,e1⟩:=s0.mp a;obtain⟨h2,e2⟩:=s0.mp b;exact(List.getElem_inj hN).mp (e1.trans e2.symm)
variable {Q:EK}
def iU (I:Inv X Y U H s)(hN:X.N.Nodup)(hi:X.N[i]? =some x)(hx:Loc X.env.scope x)(r:RelV v u)
  (h:∀ s',Inv X Y (U.set i (some v)) H s'->(∃ a,Heap.SameBut a s.heap s'.heap/\(a=X.env.locals\/X.env.cells.lookup x=some a))->Q () s') (hf:X.fn x=true\/X.env.scope.names.lookup x=some .local:=by first|exact .inl rfl|exact .inr rfl|assumption):wpAny M A (storeName X.env x u) Q E s:=by
 obtain⟨m,hn,hl⟩:=id I.loc;have hcls:(X.env.scope.kind ==.class||(X.env.scope.kind ==.module&&X.env.locals != X.env.globals))=false:=by rw[I.ok.kind];rfl
 have hiσ:i<U.length:=by rw[I.len];exact(s0.mp hi).1
 have uc:=I.uc;have tracked:∀ {a:Addr}{h':Heap},(∃ o,s.heap.get? a=some o/\H a=none)->Heap.SameBut a s.heap h'->dN X.prog X.w H h':=λ{a h'} ha hs b ob e=>by
  obtain⟨_,_,hfree⟩:=ha;refine(I.hok b ob e).dr (λc w' hc q=>(hs.2 c ?_).trans q) (λ_ q=>q) λ_ _ q=>q
  rintro rfl;rcases hc with rfl|hc
  .rw[hfree]at e;cases e
  .rw[hfree]at hc;cases hc
 rcases hx with hk|hk
 .refine wpAny_storeName_local hk hn (λh' hn' hs=>?_) hcls;obtain⟨oL,_,_,hoL,_⟩:=id hn;refine h _ ⟨I.ok,I.os,I.bare,⟨λb o e n hb hx=>?_,λb o e n hb hx=>?_,I.base.free,λb o e hx=>?_,I.base.tups,I.base.frzs,I.base.tbls⟩,⟨_,hn',λj y v' e1 e2 e3=>?_⟩,λy c e=>?_,I.free,I.freeC,λp hp=>?_,tracked ⟨oL,hoL,I.free⟩ hs,by simpa using I.len⟩ ⟨_,hs,.inl rfl⟩
  .exact(hs.2 b (nw (mo (ss e) I.ok.above))).trans (I.base.keep b o e n hb hx)
  .obtain⟨sl,e1⟩:=I.base.slot b o e n hb hx;exact⟨sl,(hs.2 b (nw (mo (ss e) I.ok.above))).trans e1⟩
  .obtain⟨o',e1⟩:=I.base.there b o e hx;exact⟨o',(hs.2 b (nw (mo (ss e) I.ok.above))).trans e1⟩
  .by_cases hj:j=i
   .subst hj;rw[hi]at e1;cases e1;rw[getElem?_set_self hiσ]at e2;cases e2;exact⟨u,r,.inl ⟨hk,by simp⟩⟩
   .rw[getElem?_set_ne (Ne.symm hj)]at e2;obtain⟨u',r',q⟩:=hl j y v' e1 e2 e3;refine⟨u',r',?_⟩;rcases q with⟨k,e⟩|⟨k,c,e,z⟩
    .refine .inl ⟨k,?_⟩;have:y≠x:=λe=>hj (gP hN e1 (e▸hi))
     simp[this,e]
    .exact .inr ⟨k,c,e,z.sameBut hs (uc y c e)⟩
  .obtain⟨w',z⟩:=I.cell y c e;exact⟨w',z.sameBut hs (uc y c e)⟩
  .obtain⟨e,n,ne,nf,d⟩:=I.pin p hp;exact⟨(hs.2 p.1 ne).trans e,n,ne,nf,d⟩
 .have hfn:X.fn x=true:=by
   rcases hf with z|z
   .exact z
   .rw[z]at hk;cases hk
  obtain⟨c,hc⟩:=I.ok.has x (.inl hk);obtain⟨w',z⟩:=I.cell x c hc;refine wpAny_storeName_cell I.ok.kind hk hc z (λh' hc' hs=>?_);obtain⟨oc,hoc,hocd⟩:=id z;refine h { s with heap:=h' } ⟨I.ok,I.os,I.bare,⟨λb o e n hb hx=>?_,λb o e n hb hx=>?_,I.base.free,λb o e hx=>?_,I.base.tups,I.base.frzs,I.base.tbls⟩,⟨m,hn.sameBut hs (Ne.symm (uc x c hc)),λj y v' e1 e2 e3=>?_⟩,λy c' e=>?_,I.free,I.freeC,λp hp=>?_,tracked ⟨oc,hoc,I.freeC x c hc⟩ hs,by simpa using I.len⟩ ⟨c,hs,.inr hc⟩
  .exact(hs.2 b (nw (mo (ss e) (I.ok.cab x c hfn hc)))).trans (I.base.keep b o e n hb hx)
  .obtain⟨sl,e1⟩:=I.base.slot b o e n hb hx;exact⟨sl,(hs.2 b (nw (mo (ss e) (I.ok.cab x c hfn hc)))).trans e1⟩
  .obtain⟨o',e1⟩:=I.base.there b o e hx;exact⟨o',(hs.2 b (nw (mo (ss e) (I.ok.cab x c hfn hc)))).trans e1⟩
  .by_cases hj:j=i
   .subst hj;rw[hi]at e1;cases e1;rw[getElem?_set_self hiσ]at e2;cases e2;exact⟨u,r,.inr ⟨.inl hk,c,hc,hc'⟩⟩
   .rw[getElem?_set_ne (Ne.symm hj)]at e2;obtain⟨u',r',q⟩:=hl j y v' e1 e2 e3;refine⟨u',r',?_⟩;rcases q with q|⟨k,c',e,z'⟩
    .exact .inl q
    .refine .inr ⟨k,c',e,z'.sameBut hs ?_⟩;rintro rfl;exact hj (gP hN e1 (I.ok.inj _ _ _ e hc▸hi))
  .by_cases hcc:c'=c
   .subst hcc;exact⟨_,hc'⟩
   .obtain⟨w2,z2⟩:=I.cell y c' e;exact⟨w2,z2.sameBut hs hcc⟩
  .obtain⟨e,n,ne,nf,d⟩:=I.pin p hp;refine⟨(hs.2 p.1 ?_).trans e,n,ne,nf,d⟩;intro q;rw[q,hoc]at e;have q':oc=p.2:=Option.some.inj e;exact d w' (by rw[<-q'];exact hocd)
def d8 (I:Inv X Y U H s)(hN:X.N.Nodup)(hi:X.N[i]? =some x)(hx:Loc X.env.scope x)(r:RelV v u)
  (h:∀ s',Inv X Y (U.set i (some v)) H s'->Q () s') (hf:X.fn x=true\/X.env.scope.names.lookup x=some .local:=by first|exact .inl rfl|exact .inr rfl|assumption):wpAny M A (storeName X.env x u) Q E s:=
 iU I hN hi hx r (λs' I' _=>h s' I') hf
def Inv.r8 {s':Shared}(I:Inv X Y U H s)(ho:s'.os=s.os)(u:Un (jh X.stack) ch H H' s.heap s'.heap)(hok:dN X.prog X.w H' s'.heap)(hg:AllBare s'.gens)
  (hch:∀ b ∈ ch,(b ∈ X.ex\/X.s₀.heap.objs.size<=b)/\b≠X.env.locals/\(∀ x c,X.env.cells.lookup x=some c->c≠b)/\∀ p ∈ X.pn++Y,p.1≠b):Inv X Y U H' s':=by
 obtain⟨h',g',d',t',o'⟩:=s';have e:o'=s.os:=ho;subst e;exact I.call (g':=g') (t':=t') (d':=d') u hok hg hch
end
@[reducible]def XK:=Addr->Hp->Prop
@[reducible]def St:=List (Option V)
@[reducible]def VK:=V->Hp->Prop
@[reducible]def TE:=St->Hp->VK->Prop
@[reducible]def TT:=St->Hp->(Bool->Hp->Prop)->Prop
@[reducible]def TA:=St->Hp->(List V->Hp->Prop)->Prop
structure Ends where
 nx:St->Hp->Prop
 rt:VK
 bk:St->Hp->Prop:=λ_ _=>False
 ct:St->Hp->Prop:=λ_ _=>False
@[reducible]def TS:=Ends->St->Hp->Prop
abbrev EP (X:Cx)(Y:EM)(U:St)(Q:VK)(u:Value)(s':Shared):Prop:=∃ v H',Inv X Y U H' s'/\RelV v u/\Q v H'
abbrev TP (X:Cx)(Y:EM)(U:St)(Q:Bool->Hp->Prop)(b:Bool)(s':Shared):Prop:=∃ H',Inv X Y U H' s'/\Q b H'
abbrev AP (X:Cx)(Y:EM)(U:St)(Q:List V->Hp->Prop)(us:List Value)(s':Shared):Prop:=∃ vs H',Inv X Y U H' s'/\Vals vs us/\Q vs H'
abbrev SP (X:Cx)(Y:EM)(D:Ends)(f:Flow)(s':Shared):Prop:=
 match f with
 | .next=>∃ σ' H',Inv X Y σ' H' s'/\D.nx σ' H'
 | .brk=>∃ σ' H',Inv X Y σ' H' s'/\D.bk σ' H'
 | .cont=>∃ σ' H',Inv X Y σ' H' s'/\D.ct σ' H'
 | .ret u=>∃ v σ' H',Inv X Y σ' H' s'/\RelV v u/\D.rt v H'
abbrev PE (X:Cx)(e:Expr)(t:TE):Prop:=
 ∀ (Y:EM) (s:Shared) (U:St) (H:Hp) (Q:VK),Inv X Y U H s->t U H Q->wpAny (model X.prog X.w) X.A (eval e X.env) (EP X Y U Q) X.xe s
abbrev PT (X:Cx)(e:Expr)(t:TT):Prop:=
 ∀ (Y:EM) (s:Shared) (U:St) (H:Hp) (Q:Bool->Hp->Prop),Inv X Y U H s->t U H Q->wpAny (model X.prog X.w) X.A (isTrue e X.env (eval e X.env)) (TP X Y U Q) X.xe s
abbrev PW (X:Cx)(e:Expr)(t:TT):Prop:=
 ∀ (whole:Sem Value) (Y:EM) (s:Shared) (U:St) (H:Hp) (Q:Bool->Hp->Prop),Inv X Y U H s->t U H Q->wpAny (model X.prog X.w) X.A (isTrue e X.env whole) (TP X Y U Q) X.xe s
variable {e:Expr}
def PW.pt {X:Cx}{t:TT}(h:PW X e t):PT X e t:=h _
abbrev PA (X:Cx)(es:List Expr)(t:TA):Prop:=
 ∀ (pos:Pos) (Y:EM) (s:Shared) (U:St) (H:Hp) (Q:List V->Hp->Prop),Inv X Y U H s->t U H Q->wpAny (model X.prog X.w) X.A (spliced (backTo pos (bm es X.env))) (AP X Y U Q) X.xe s
abbrev PS (X:Cx)(st:Stmt)(t:TS):Prop:=
 ∀ (Y:EM) (s:Shared) (U:St) (H:Hp) (D:Ends),Inv X Y U H s->t D U H->wpAny (model X.prog X.w) X.A (exec st X.env) (SP X Y D) X.xe s
abbrev x6 (X:Cx)(st:List Stmt)(t:TS):Prop:=
 ∀ (Y:EM) (s:Shared) (U:St) (H:Hp) (D:Ends),Inv X Y U H s->t D U H->wpAny (model X.prog X.w) X.A (execs st X.env) (SP X Y D) X.xe s
variable {s:Shared}
def au {α:Type}{t:Sem α}{Q Q':α->Shared->Prop}(h:wpAny M A t Q E s)(hQ:∀ a s,Q a s->Q' a s):wpAny M A t Q' E s:=wpAny_mono h hQ λ_ _ x=>x
variable {Q:EL}{Y:EM}{U:St}
section
variable {X:Cx}
abbrev CS (i:Nat):TE:=λU H Q=>∃ v,U[i]? =some (some v)/\Q v H
abbrev tC (v:V):TE:=λ_ H Q=>Q v H
def AB {pos:Pos}(hN:X.N[i]? =some x)(hv:Cw X.env.scope x)(hd:(x ==("__debug__":Str))=false:=by decide) (hcd:(x ==("__classdict__":Str))=false:=by decide):PE X (.Name x pos) (CS i):=by
 intro Y s U H Q I h;obtain⟨v,e,h⟩:=h;obtain⟨m,hn,hl⟩:=I.loc;obtain⟨u,r,l⟩:=hl i x v hN e hv;have fin:EP X Y U Q u s:=⟨v,H,I,r,h⟩;rcases l with⟨hk,hm⟩|⟨hk,c,hc,hcell⟩
 .exact wpAny_Name (wpAny_loadName_local I.ok.kind hk hn hm fin) hd
 .rcases hk with hk|hk
  .exact wpAny_Name (wpAny_loadName_cell I.ok.kind hk hc hcell fin) hd
  .exact wpAny_Name (wpAny_loadName_free I.ok.kind hk hc hcell fin hcd) hd
def yB {i j pos}:PE X (.Constant (.int i) j pos) (tC (.int i)):=λ_ _ _ H _ I h=>wpAny_Constant_int ⟨.int i,H,I.tok _,⟨_,rfl⟩,h⟩
def B9 {b j pos}:PE X (.Constant (.bool b) j pos) (tC (.bl b)):=λ_ _ _ H _ I h=>Constant_bool ⟨.bl b,H,I,rfl,h⟩
def zE {j pos}:PE X (.Constant .none j pos) (tC .non):=λ_ _ _ H _ I h=>Constant_none ⟨.non,H,I,rfl,h⟩
def rN {x j pos}:PE X (.Constant (.str x) j pos) (tC (.str x)):=λ_ _ _ H _ I h=>Calls.Constant_str ⟨.str x,H,I.tok _,⟨_,rfl⟩,h⟩
abbrev Gl (X:Cx)(x:Str):Prop:=X.env.kindOf x=some .globalImplicit
def aO {pos:Pos}(I:Inv X Y U H s)(hg:Gl X x)(hm:X.mg x=some u)(h:Q u s)
  (hd:(x ==("__debug__":Str))=false:=by decide):wpAny (model X.prog X.w) X.A (eval (.Name x pos) X.env) Q E s:=
 Calls.Name_function_global I.ok.kind hg (Calls.loadGlobal_global (by rw[I.ok.glob];exact I.mod.glob.keeps I.bk) hm h) hd
def cP {pos:Pos}(I:Inv X Y U H s)(hg:Gl X x)(hm:X.mg x=none)(hv:bootBuiltins x=some u)(h:Q u s)
  (hn:x≠"__name__":=by decide) (hd:(x ==("__debug__":Str))=false:=by decide):wpAny (model X.prog X.w) X.A (eval (.Name x pos) X.env) Q E s:=by
 obtain⟨mb,h1,h2⟩:=I.mod.blt;exact Calls.Name_function_global I.ok.kind hg (Calls.loadGlobal_builtin (by rw[I.ok.glob];exact I.mod.glob.keeps I.bk) hm (by rw[I.ok.blt];exact h1.keeps I.bk) ((h2 x hn).trans hv) h) hd
def jq {pos:Pos}(hg:Gl X x)(hm:X.mg x=some u)(r:RelV v u)(hd:(x ==("__debug__":Str))=false:=by decide):PE X (.Name x pos) (tC v):=
 λ_ _ _ H _ I h=>aO I hg hm ⟨v,H,I,r,h⟩ hd
def uK {pos:Pos}(hg:Gl X x)(hm:X.mg x=none)(hv:bootBuiltins x=some u)(r:RelV v u)(hn:x≠"__name__":=by decide) (hd:(x ==("__debug__":Str))=false:=by decide):PE X (.Name x pos) (tC v):=
 λ_ _ _ H _ I h=>cP I hg hm hv ⟨v,H,I,r,h⟩ hn hd
variable {a b:Expr}{ta tb:TE}{pos:Pos}
variable {tA tB':TT}{rest:List Expr}
abbrev Dn (t u:TT):TT:=λU H Q=>t U H λc H1=>if c=true then u U H1 Q else Q false H1
abbrev Ep (t u:TT):TT:=λU H Q=>t U H λc H1=>if c=true then Q true H1 else u U H1 Q
abbrev CZ (t:TT):TT:=λU H Q=>t U H λc H1=>Q (!c) H1
def xb (ha:PT X a tA):PW X (.BoolOp .And [a] pos) tA:=by
 intro wh Y s U H Q I h;refine isTrue_and (au (ha Y s U H Q I h) λc s1 e=>?_);cases c with
 |true=>exact isTrue_and_nil e
 |false=>exact e
def AF (ha:PT X a tA):PW X (.BoolOp .Or [a] pos) tA:=by
 intro wh Y s U H Q I h;refine isTrue_or (au (ha Y s U H Q I h) λc s1 e=>?_);cases c with
 |false=>exact isTrue_or_nil e
 |true=>exact e
def Ar (ha:PT X a tA)(hb:PW X (.BoolOp .And (b::rest) pos) tB'):PW X (.BoolOp .And (a::b::rest) pos) (Dn tA tB'):=by
 intro wh Y s U H Q I h;refine isTrue_and (au (ha Y s U H _ I h) λc s1 ⟨H1,I1,q1⟩=>?_);cases c with
 |true=>exact hb wh Y s1 U H1 Q I1 q1
 |false=>exact⟨H1,I1,q1⟩
def Bz (ha:PT X a tA)(hb:PW X (.BoolOp .Or (b::rest) pos) tB'):PW X (.BoolOp .Or (a::b::rest) pos) (Ep tA tB'):=by
 intro wh Y s U H Q I h;refine isTrue_or (au (ha Y s U H _ I h) λc s1 ⟨H1,I1,q1⟩=>?_);cases c with
 |true=>exact⟨H1,I1,q1⟩
 |false=>exact hb wh Y s1 U H1 Q I1 q1
def Af (ha:PT X a tA):PT X (.UnaryOp .Not a pos) (CZ tA):=by
 intro Y s U H Q I h;exact isTrue_not (ha Y s U H (λc H1=>Q (!c) H1) I h)
abbrev BS (ta tb:TE):TE:=λU H Q=>ta U H λx H1=>∃ c,x=.bl c/\if c=true then tb U H1 Q else Q (.bl false) H1
abbrev CU (ta tb:TE):TE:=λU H Q=>ta U H λx H1=>∃ c,x=.bl c/\if c=true then Q (.bl true) H1 else tb U H1 Q
abbrev B5 (ta:TE):TE:=λU H Q=>ta U H λx H1=>∃ c,x=.bl c/\Q (.bl (!c)) H1
def r9 {op}{t:TE}(h:PE X a t):PE X (.BoolOp op [a] pos) t:=λY s U H Q I hw=>BoolOp_one (h Y s U H Q I hw)
def yH (ha:PE X a ta)(hb:PE X (.BoolOp .And (b::rest) pos) tb):PE X (.BoolOp .And (a::b::rest) pos) (BS ta tb):=by
 intro Y s U H Q I h;refine BoolOp_and (au (ha Y s U H _ I h) λv s1 ⟨x,H1,I1,r1,q1⟩=>?_);obtain⟨c,rfl,q1⟩:=q1;cases r1;refine bi ?_;cases c with
 |true=>exact hb Y s1 U H1 Q I1 q1
 |false=>exact⟨.bl false,H1,I1,rfl,q1⟩
def Cp (ha:PE X a ta)(hb:PE X (.BoolOp .Or (b::rest) pos) tb):PE X (.BoolOp .Or (a::b::rest) pos) (CU ta tb):=by
 intro Y s U H Q I h;refine BoolOp_or (au (ha Y s U H _ I h) λv s1 ⟨x,H1,I1,r1,q1⟩=>?_);obtain⟨c,rfl,q1⟩:=q1;cases r1;refine bi ?_;cases c with
 |false=>exact hb Y s1 U H1 Q I1 q1
 |true=>exact⟨.bl true,H1,I1,rfl,q1⟩
def Ak (ha:PE X a ta):PE X (.UnaryOp .Not a pos) (B5 ta):=by
 intro Y s U H Q I h;refine UnaryOp_ (au (ha Y s U H _ I h) λv s1 ⟨x,H1,I1,r1,q1⟩=>?_);obtain⟨c,rfl,q1⟩:=q1;cases r1;exact not_of (bi ⟨.bl (!c),H1,I1,rfl,q1⟩)
abbrev Eu (t:TT)(ta tb:TE):TE:=λU H Q=>t U H λc H1=>if c=true then ta U H1 Q else tb U H1 Q
def si {c:Expr}(hc:PT X c tA)(ha:PE X a ta)(hb:PE X b tb):PE X (.IfExp c a b pos) (Eu tA ta tb):=by
 intro Y s U H Q I h;refine wpAny_IfExp (au (hc Y s U H _ I h) λd s1 ⟨H1,I1,q1⟩=>?_);cases d with
 |true=>exact ha Y s1 U H1 Q I1 q1
 |false=>exact hb Y s1 U H1 Q I1 q1
end
abbrev aK (K:W.Frag)(H:Hp)(a:Addr)(xs:List V):Prop:=
 Rd H a (.lst xs)\/
  ∃ (o:Obj) (its:Array Value) (n:Nat),K.lookup a=some o/\o.cls=.type "list"/\o.dict=none/\o.data=.seq its n/\its.size<=bn/\Vals xs its.toList
abbrev bp (K:W.Frag)(H:Hp)(a:Addr)(xs:List V):Prop:=
 Rd H a (.tup xs)\/
  ∃ (o:Obj) (its:Array Value) (n:Nat),K.lookup a=some o/\o.cls=.type "tuple"/\o.data=.seq its n/\its.size<=bn/\Vals xs its.toList
abbrev Dm:Value->Option V
 | .none=>some .non
 | .bool b=>some (.bl b)
 | .int i _=>some (.int i)
 | .str x _=>some (.str x)
 | .bytes b _=>some (.byt b)
 | .float b _=>some (.flt b)
 | .ref a=>some (.ref a)
 | .type n=>some (.ty n)
 |_=>none
def RelV.abs {x:V}(r:RelV x u):Dm u=some x:=by
 cases x with
 |non=>cases r;rfl
 |bl _=>cases r;rfl
 |int _=>obtain⟨t,rfl⟩:=r;rfl
 |str _=>obtain⟨t,rfl⟩:=r;rfl
 |byt _=>obtain⟨t,rfl⟩:=r;rfl
 |flt _=>obtain⟨t,rfl⟩:=r;rfl
 |ref _=>cases r;rfl
 |ty _=>cases r;rfl
def RelV.inj {x y:V}(r:RelV x u)(q:RelV y u):x=y:=Option.some.inj (r.abs.symm.trans q.abs)
def Vals.inj:∀ {xs ys:List V}{us:List Value},Vals xs us->Vals ys us->xs=ys
 |_,_,_,.nil,.nil=>rfl
 |_,_,_,.cons r t,.cons r' t'=>by rw[r.inj r',Vals.inj t t']
variable {K:W.Frag}
section
variable {X:Cx}{Y:EM}{U:St}{H:Hp}{s:Shared}{a:Addr}{xs ys:List V}
def aK.of (h:H a=some (.lst xs)):aK K H a xs:=.inl (.inl h)
def bp.of (h:H a=some (.tup xs)):bp K H a xs:=.inl (.inl h)
def Inv.list (I:Inv X Y U H s)(h:aK X.K H a xs):∃ its:List Value,Vals xs its/\PlainL s.heap a its.toArray/\xs.length<=bn:=by
 rcases h with h|⟨o,its,n,hk,hc,hd,hs,hz,r⟩
 .obtain⟨z,its,n,r,e⟩:=h.ok I.hok;exact⟨its,r,⟨_,n,e,rfl,rfl,rfl⟩,z⟩
 .refine⟨its.toList,r,⟨o,n,I.aY a o hk,hc,hd,by simpa using hs⟩,?_⟩;have e:=r.length;simp only[Array.length_toList]at e
  omega
def Inv.tuple (I:Inv X Y U H s)(h:bp X.K H a xs):∃ its:List Value,Vals xs its/\IsTup s.heap a its.toArray/\xs.length<=bn:=by
 rcases h with h|⟨o,its,n,hk,hc,hs,hz,r⟩
 .obtain⟨z,its,r,p⟩:=h.ok I.hok;exact⟨its,r,p,z⟩
 .refine⟨its.toList,r,⟨o,I.aY a o hk,hc,n,by simpa using hs⟩,?_⟩;have e:=r.length;simp only[Array.length_toList]at e
  omega
def Inv.gR (I:Inv X Y U H s)(h:aK X.K H a xs)(h':aK X.K H a ys):xs=ys:=by
 obtain⟨its,r,⟨o,n,e,_,_,d⟩,_⟩:=I.list h;obtain⟨its',r',⟨o',n',e',_,_,d'⟩,_⟩:=I.list h';rw[e]at e';cases e';rw[d]at d'
 injection d' with d1 _
 have:its=its':=by simpa using congrArg Array.toList d1
 subst this;exact r.inj r'
def Inv.fK (I:Inv X Y U H s)(h:bp X.K H a xs)(h':bp X.K H a ys):xs=ys:=by
 obtain⟨its,r,⟨o,e,_,n,d⟩,_⟩:=I.tuple h;obtain⟨its',r',⟨o',e',_,n',d'⟩,_⟩:=I.tuple h';rw[e]at e';cases e';rw[d]at d'
 injection d' with d1 _
 have:its=its':=by simpa using congrArg Array.toList d1
 subst this;exact r.inj r'
end
section
variable {X:Cx}{Y:EM}{U:St}{H:Hp}{s:Shared}{E:EL}
end
section
variable {X:Cx}{st:Stmt}{rest:List Stmt}{t u:TS}{e:Expr}{te:TE}{pos:Pos}
abbrev AV:TS:=λD U H=>D.nx U H
abbrev DL (t u:TS):TS:=λD U H=>t { D with nx:=u D } U H
def vp:x6 X [] AV:=λ_ _ U H _ I h=>wpAny_execs_nil ⟨U,H,I,h⟩
def uE (h1:PS X st t)(h2:x6 X rest u):x6 X (st::rest) (DL t u):=by
 intro Y s U H D I h;refine wpAny_execs_cons (au (h1 Y s U H { D with nx:=u D } I h) λf s1 q=>?_);cases f with
 |next=>
  obtain⟨σ',H',I',q⟩:=q;exact h2 Y s1 σ' H' D I' q
 |ret v=>exact q
 |brk=>exact q
 |cont=>exact q
def Inv.quiet (I:Inv X Y U H s):interactive X.env=false:=by simp[interactive,I.ok.kind]
abbrev Cc (te:TE):TS:=λD U H=>te U H λ_ H1=>D.nx U H1
def vL (he:PE X e te)(hs:swapsWith e none pos.line X.env=pure false:=by rfl):PS X (.Expr e pos) (Cc te):=by
 intro Y s U H D I h;exact wpAny_Expr_any (au (he Y s U H _ I h) λv s1 ⟨x,H1,I1,r1,q1⟩=>⟨U,H1,I1,q1⟩) I.quiet hs
abbrev DO (te:TE):TS:=λD U H=>te U H D.rt
def zX (he:PE X e te):PS X (.Return (some e) pos) (DO te):=by
 intro Y s U H D I h;exact wpAny_Return_some (au (he Y s U H _ I h) λv s1 ⟨x,H1,I1,r1,q1⟩=>⟨x,U,H1,I1,r1,q1⟩)
abbrev DG (c:TT)(t u:TS):TS:=λD U H=>c U H λb H1=>if b=true then t D U H1 else u D U H1
def Be {c:Expr}{a b:List Stmt}{tc:TT}(hc:PT X c tc)(ha:x6 X a t)(hb:x6 X b u):PS X (.If c a b pos) (DG tc t u):=by
 intro Y s U H D I h;refine wpAny_If (au (hc Y s U H _ I h) λd s1 ⟨H1,I1,q1⟩=>?_);cases d with
 |true=>exact ha Y s1 U H1 D I1 q1
 |false=>exact hb Y s1 U H1 D I1 q1
end
@[reducible]def TG:=V->St->Hp->(St->Hp->Prop)->Prop
@[reducible]def vX:=List V->St->Hp->(St->Hp->Prop)->Prop
abbrev PG (X:Cx)(target:Expr)(t:TG):Prop:=
 ∀ (Y:EM) (s:Shared) (U:St) (H:Hp) (v:V) (u:Value) (Q:St->Hp->Prop),Inv X Y U H s->RelV v u->t v U H Q->
  wpAny (model X.prog X.w) X.A (assign target X.env u) (λ_ s'=>∃ σ' H',Inv X Y σ' H' s'/\Q σ' H') X.xe s
abbrev zc (X:Cx)(ts:List Expr)(t:vX):Prop:=
 ∀ (Y:EM) (s:Shared) (U:St) (H:Hp) (vs:List V) (us:List Value) (Q:St->Hp->Prop),Inv X Y U H s->Vals vs us->t vs U H Q->
  wpAny (model X.prog X.w) X.A (assignInOrder ((assignEach ts X.env).map (·.2)) us) (λ_ s'=>∃ σ' H',Inv X Y σ' H' s'/\Q σ' H') X.xe s
@[reducible]def qF:=V->V->V->Hp->(Hp->Prop)->Prop
abbrev xa (X:Cx)(t:qF):Prop:=
 ∀ (Y:EM) (s:Shared) (U:St) (H:Hp) (o i v:V) (ov iv u:Value) (Q:Hp->Prop),Inv X Y U H s->RelV o ov->RelV i iv->RelV v u->t o i v H Q->
  wpAny (model X.prog X.w) X.A (setItem ov iv u) (λ_ s'=>∃ H',Inv X Y U H' s'/\Q H') X.xe s
@[reducible]def CG:=V->V->Hp->VK->Prop
abbrev CL (X:Cx)(op:Operator)(t:CG):Prop:=
 ∀ (Y:EM) (s:Shared) (U:St) (H:Hp) (x y:V) (v u:Value) (Q:VK),Inv X Y U H s->RelV x v->RelV y u->t x y H Q->
  wpAny (model X.prog X.w) X.A (inplaceOp op v u) (EP X Y U Q) X.xe s
variable {es:List Expr}{k:Nat}{tg:Expr}{te:TE}
section
variable {X:Cx}{pos:Pos}
abbrev d7 (i:Nat):TG:=λv U H Q=>Q (U.set i (some v)) H
def fc (hN:X.N.Nodup)(hi:X.N[i]? =some x)(hx:Loc X.env.scope x)(hf:X.fn x=true\/X.env.scope.names.lookup x=some .local:=by first|exact .inl rfl|exact .inr rfl|assumption):PG X (.Name x pos) (d7 i):=by
 intro Y s U H v u Q I r h;exact wpAny_assign_Name (d8 I hN hi hx r (λs' I'=>⟨_,H,I',h⟩) hf)
abbrev DA:vX:=λvs U H Q=>vs=[]/\Q U H
abbrev BZ (t:TG)(u:vX):vX:=λvs U H Q=>∃ v r,vs=v::r/\t v U H λσ' H'=>u r σ' H' Q
def jc:zc X [] DA:=by
 intro Y s U H vs us Q I r h;obtain⟨e,h⟩:=h;subst e;cases r;exact assignInOrder_nil ⟨U,H,I,h⟩
def eP {t:TG}{u:vX}(h1:PG X e t)(h2:zc X es u)
  (hs:(assignEach (e::es) X.env).map (·.2)=assign e X.env::(assignEach es X.env).map (·.2):=by rfl):zc X (e::es) (BZ t u):=by
 intro Y s U H vs us Q I r h;obtain⟨v,vr,e1,h⟩:=h;subst e1;cases r with
 |cons r rr=>
  rw[hs];refine assignInOrder_cons (au (h1 Y s U H _ _ _ I r h) λ_ s1 ⟨σ1,H1,I1,q1⟩=>?_);exact h2 Y s1 σ1 H1 _ _ Q I1 rr q1
abbrev uR (K:W.Frag)(n:Nat)(t:vX):TG:=λv U H Q=>∃ a xs,v=.ref a/\bp K H a xs/\xs.length=n/\t xs U H Q
def jG {t:vX}{n:Nat}(hc:X.calm=true)(h:zc X es t)
  (hn:(assignEach es X.env).length=n:=by rfl) (hst:(assignEach es X.env).findIdx? (·.1)=none:=by rfl):PG X (.Tuple es k pos) (uR X.K n t):=by
 intro Y s U H v u Q I r hw;obtain⟨a,xs,e1,hq,hl,hw⟩:=hw;subst e1;cases r;obtain⟨its,rv,ht,hz⟩:=I.tuple hq;refine assign_Tuple_tuple (I.ok.hd hc) ht (by simp[hn,<-hl,rv.length]) hst λh' hx=>?_
 have I1:Inv X Y U H { s with heap:=h' }:=I.kept (t':=s.toks) λb o e=>hx b o (nw (ss e)) e
 exact h Y _ U H xs _ Q I1 (by simpa using rv) hw
abbrev DK (to ti:TE)(t:qF):TG:=λv U H Q=>to U H λo H1=>ti U H1 λi H2=>t o i v H2 λH3=>Q U H3
def zp {o i:Expr}{to ti:TE}{t:qF}(ho:PE X o to)(hi:PE X i ti)(hs:xa X t)
  (ha:∀ v,assign (.Subscript o i pos) X.env v=(do
   let ov <-holding [v] (eval o X.env)
   let iv <-holding [v,ov] (eval i X.env)
   standAt pos
   holding [v,ov,iv] (setItem ov iv v)
   release [v,ov,iv] []):=by intro _;rfl):PG X (.Subscript o i pos) (DK to ti t):=by
 intro Y s U H v u Q I r h;rw[ha];refine ad (bd (au (ho Y s U H _ I h) λov s1 ⟨x,H1,I1,r1,q1⟩=>?_));refine ad (bd (au (hi Y s1 U H1 _ I1 q1) λiv s2 ⟨y,H2,I2,r2,q2⟩=>?_));refine ad (wpAny_standAt (ad (bd (au (hs Y s2 U H2 x y v ov iv u _ I2 r1 r2 r q2) λ_ s3 ⟨H3,I3,q3⟩=>?_))));exact wpAny_release ⟨U,H3,I3,q3⟩
abbrev BI (te:TE)(g:TG):TS:=λD U H=>te U H λx H1=>g x U H1 D.nx
def yw {g:TG}(he:PE X e te)(hg:PG X tg g)(hs:swapsWithSole [tg] e pos.line X.env=pure false:=by rfl) (hw:swappedStores [tg] e X.env=pure none:=by rfl)
  (h1:(assignEach [tg] X.env).map (·.2)=[assign tg X.env]:=by rfl):PS X (.Assign [tg] e pos) (BI te g):=by
 intro Y s U H D I h;refine wpAny_Assign_stores (au (he Y s U H _ I h) λv s1 ⟨x,H1,I1,r1,q1⟩=>?_) hs hw;rw[h1];exact au (hg Y s1 U H1 x v _ I1 r1 q1) λ_ s2 q=>q
def ur {pos':Pos}(hN:X.N.Nodup)(hi:X.N[i]? =some x)(hx:Loc X.env.scope x)(he:PE X e te)(hs:swapsWith e (some (.Name x pos')) pos.line X.env=pure false:=by rfl) (hf:X.fn x=true\/X.env.scope.names.lookup x=some .local:=by first|exact .inl rfl|exact .inr rfl|assumption):
  PS X (.Assign [.Name x pos'] e pos) (BI te (d7 i)):=by
 intro Y s U H D I h;refine wpAny_Assign_Name (au (he Y s U H _ I h) λv s1 ⟨y,H1,I1,r1,q1⟩=>?_) hs;exact d8 I1 hN hi hx r1 (λs2 I2=>⟨_,H1,I2,q1⟩) hf
abbrev B4 (to ti te:TE)(tget:V->V->Hp->VK->Prop)(tip:CG)(tset:qF):TS:=λD U H=>to U H λo H1=>ti U H1 λi H2=>tget o i H2 λx H3=>te U H3 λy H4=>tip x y H4 λz H5=>tset o i z H5 λH6=>D.nx U H6
abbrev zU (X:Cx)(t:V->V->Hp->VK->Prop):Prop:=
 ∀ (Y:EM) (s:Shared) (U:St) (H:Hp) (o i:V) (ov iv:Value) (Q:VK),Inv X Y U H s->RelV o ov->RelV i iv->t o i H Q->
  wpAny (model X.prog X.w) X.A (getItem ov iv) (EP X Y U Q) X.xe s
def wq {o i:Expr}{to ti:TE}{tget:V->V->Hp->VK->Prop}{tip:CG}{tset:qF}{op:Operator}{tpos:Pos}(ho:PE X o to)(hi:PE X i ti)(hg:zU X tget)(he:PE X e te)(hp:CL X op tip)(hs:xa X tset)
  (ha:∀ ov iv new,augStore i ov iv new=(do holding [new,ov,iv] (setItem ov iv new);release [new,ov,iv] [];pure .next):=by intros;rfl):PS X (.AugAssign (.Subscript o i tpos) op e pos) (B4 to ti te tget tip tset):=by
 intro Y s U H D I h;refine wpAny_AugAssign_SubscriptAny (au (ho Y s U H _ I h) λov s1 ⟨x1,H1,I1,r1,q1⟩=>?_) ha;refine au (hi Y s1 U H1 _ I1 q1) λiv s2 ⟨x2,H2,I2,r2,q2⟩=>?_
 refine au (hg Y s2 U H2 x1 x2 ov iv _ I2 r1 r2 q2) λold s3 ⟨x3,H3,I3,r3,q3⟩=>?_
 refine au (he Y s3 U H3 _ I3 q3) λv s4 ⟨x4,H4,I4,r4,q4⟩=>?_
 refine au (hp Y s4 U H4 x3 x4 old v _ I4 r3 r4 q4) λnew s5 ⟨x5,H5,I5,r5,q5⟩=>?_
 exact au (hs Y s5 U H5 x1 x2 x5 ov iv new _ I5 r1 r2 r5 q5) λ_ s6 ⟨H6,I6,q6⟩=>⟨U,H6,I6,q6⟩
abbrev D7 (f:Int->Int->Int):CG:=λx y H Q=>∃ i j,x=.int i/\y=.int j/\Q (.int (f i j)) H
def zx:CL X .Add (D7 λi j=>i+j):=by
 intro Y s U H x y v u Q I r1 r2 h;obtain⟨i,j,e1,e2,q⟩:=h;subst e1;subst e2;obtain⟨t,rfl⟩:=r1;obtain⟨t',rfl⟩:=r2;exact iadd_int ⟨.int _,H,I.tok _,⟨_,rfl⟩,q⟩
def yW:CL X .Sub (D7 λi j=>i-j):=by
 intro Y s U H x y v u Q I r1 r2 h;obtain⟨i,j,e1,e2,q⟩:=h;subst e1;subst e2;obtain⟨t,rfl⟩:=r1;obtain⟨t',rfl⟩:=r2;exact isub_int ⟨.int _,H,I.tok _,⟨_,rfl⟩,q⟩
end
section
variable {X:Cx}{pos:Pos}
end
structure It where
 go:Nat->Hp->Prop
 yld:Nat->Hp->V->Hp->Prop
 stop:Nat->Hp->Prop
abbrev fH (X:Cx)(Y:EM)(H:Hp)(b:Addr):Prop:=
 H b=none/\b≠X.env.locals/\b ∉ X.fs/\(b ∈ X.ex\/X.s₀.heap.objs.size<=b)/\(∀ x c,X.env.cells.lookup x=some c->c≠b)/\∀ p ∈ X.pn++Y,p.1≠b
def Inv.p9 {X:Cx}{H':Hp}(I:Inv X Y U H s)(hb:s.heap.objs.size<=b)(hn:H' b=none):fH X Y H' b:=by
 refine⟨hn,Nat.ne_of_gt (mo I.lt hb),I.Dj hb,.inr (Nat.le_trans I.sz hb),λx c e z=>?_,λp hp z=>?_⟩
 .obtain⟨v,q⟩:=I.cell x c e;exact absurd (mo q.lt (by rw[z];exact hb)) (Nat.lt_irrefl _)
 .exact absurd (mo (ss (I.pin p hp).1) (by rw[z];exact hb)) (Nat.lt_irrefl _)
structure Turn (P:Program) (w:World) (K:W.Frag) (tg:Expr) (J:It) (fp:List Addr) (it:Addr) (tn:Nat->Heap->Prop):Prop where
 mem:it ∈ fp
 obj:∀ i h,tn i h->∀ b ∈ fp,∃ o,h.get? b=some o/\∀ v,o.data≠.cell v
 keep:∀ i h h',tn i h->(∀ b ∈ fp,∀ o,h.get? b=some o->h'.get? b=some o)->tn i h'
 item:∀ (X:Cx),X.prog=P->X.w=w->X.K=K->X.calm=true->∀ (i:Nat) (Y:EM) (s:Shared) (U:St) (H:Hp) (E:EL),Inv X Y U H s->(∀ b ∈ fp,fH X Y H b)->tn i s.heap->J.go i H->
  wpAny (model P w) X.A (pyNext (.ref it)) (λr s1=>∃ u,r=some u/\
   wpAny (model P w) X.A (letOwnedTupleGo tg (.ref it) u) (λ_ s2=>∃ x H',Inv X Y U H' s2/\RelV x u/\J.yld i H x H'/\tn (i+1) s2.heap/\∀ b ∈ fp,H' b=none) E s1) E s
 done:∀ (X:Cx),X.prog=P->X.w=w->X.K=K->X.calm=true->∀ (i:Nat) (Y:EM) (s:Shared) (U:St) (H:Hp) (E:EL),Inv X Y U H s->(∀ b ∈ fp,fH X Y H b)->tn i s.heap->J.stop i H->
  wpAny (model P w) X.A (pyNext (.ref it)) (λr s1=>r=none/\Inv X Y U H s1) E s
 self:∀ (A:Around) (i:Nat) (s:Shared) (Q:EL) (E:EL),tn i s.heap->Q (.ref it) s->wpAny (model P w) A (pyIter (.ref it)) Q E s
@[reducible]def TI:=St->Hp->(It->Hp->Prop)->Prop
abbrev BM (X:Cx)(Y:EM)(U:St)(tg:Expr)(R:It->Hp->Prop)(itv:Value)(s2:Shared):Prop:=
 ∃ (it:Addr) (fp:List Addr) (tn:Nat->Heap->Prop) (J:It) (H':Hp),itv=.ref it/\Inv X Y U H' s2/\Turn X.prog X.w X.K tg J fp it tn/\tn 0 s2.heap/\(∀ b ∈ fp,fH X Y H' b)/\R J H'
abbrev PI (X:Cx)(tg iter:Expr)(wi:TI):Prop:=
 ∀ (Y:EM) (s:Shared) (U:St) (H:Hp) (R:It->Hp->Prop),Inv X Y U H s->wi U H R->
  wpAny (model X.prog X.w) X.A (eval iter X.env) (λv s1=>wpAny (model X.prog X.w) X.A (pyIter v) (BM X Y U tg R) X.xe s1) X.xe s
def nO {it:Addr}{o:Obj}{n:String}{vs:Array Value}{Q:EK}(ho:s.heap.get? it=some o)(hc:o.cls=.type n)(hd:o.data=.fields vs)
  (hn:["enumerate","zip","dict_itemiterator","dict_reverseitemiterator","odict_iterator","itertools.zip_longest","itertools.pairwise"].contains n=false) (hQ:Q () s):wpAny M A (letOwnedTupleGo tg (.ref it) u) Q E s:=by
 unfold letOwnedTupleGo;cases tg<;>first
  |exact am hQ
  |(cases u<;>first
    |exact am hQ
    |(refine ad (wpAny_load ho ?_)
      rw[hc,hd];show wpAny M A (if(["enumerate","zip","dict_itemiterator","dict_reverseitemiterator","odict_iterator","itertools.zip_longest","itertools.pairwise"].contains n&&vs[0]? ==some (rawInt _))=true then _ else _) Q E s;rw[if_neg (by intro h;rw[hn,Bool.false_and]at h;cases h)];exact am hQ))
abbrev yb (K:W.Frag)(a:Addr):It:=
 ⟨λi H=>∃ xs x,aK K H a xs/\xs[i]? =some x,λi H x H'=>H'=H/\∀ xs,aK K H a xs->xs[i]? =some x,λi H=>∃ xs,aK K H a xs/\xs.length<=i⟩
abbrev C6 (K:W.Frag)(a:Addr):It:=
 ⟨λi H=>∃ xs x,bp K H a xs/\xs[i]? =some x,λi H x H'=>H'=H/\∀ xs,bp K H a xs->xs[i]? =some x,λi H=>∃ xs,bp K H a xs/\xs.length<=i⟩
abbrev AN (lo:Int)(n:Nat):It:=⟨λi _=>i<n,λi H x H'=>H'=H/\x=.int (lo+i),λi _=>n<=i⟩
def pB (a it:Addr):Turn P w K tg (yb K a) [it] it (λi h=>h.IsListIter it a i) where
 mem:=by simp
 obj:=λi h st b hb=>by
  have e:b=it:=by simpa using hb
  subst e;obtain⟨o,e,c,d⟩:=st;exact⟨o,e,λv z=>by rw[d]at z;cases z⟩
 keep:=λi h h' st k=>st.at λo e=>k it (by simp) o e
 item:=by
  intro X hP hw hK hc i Y s U H E I hf st hg;subst hP hw hK;obtain⟨xs,x,hq,hx⟩:=hg;obtain⟨its,rv,p,hz⟩:=I.list hq;obtain⟨u,hu,ru⟩:=rv.get hx;obtain⟨f0,f1,f2,f3,f4,f5⟩:=hf it (by simp);refine wpAny_pyNext_list_item st p.isList (x:=u) (by simpa using hu) λh' st' sb=>?_
  have I1:Inv X Y U H { s with heap:=h' }:=I.turned (t':=s.toks) (λb o hb e=>(sb.2 b hb).trans e) f0 f1 f3 f4 f5;obtain⟨o,e,c,d⟩:=id st';exact⟨u,rfl,nO (s:={ s with heap:=h' }) e c d (by decide) ⟨x,H,I1,ru,⟨rfl,λys hy=>by rw[I.gR hy hq];exact hx⟩,st',λb hb=>(hf b hb).1⟩⟩
 done:=by
  intro X hP hw hK hc i Y s U H E I hf st hg;subst hP hw hK;obtain⟨xs,hq,hx⟩:=hg;obtain⟨its,rv,p,hz⟩:=I.list hq;obtain⟨f0,f1,f2,f3,f4,f5⟩:=hf it (by simp);have hl:=rv.length;exact wpAny_pyNext_list_end (I.ok.hd hc) st p.isList (by simp;omega) λh' eb=>⟨rfl,I.turned (t':=s.toks) (λb o hb e=>eb b o hb e) f0 f1 f3 f4 f5⟩
 self:=λ_ _ _ _ _ st h=>wpAny_pyIter_listiter st h
def mD (a it:Addr):Turn P w K tg (C6 K a) [it] it (λi h=>h.IsTupleIter it a i) where
 mem:=by simp
 obj:=λi h st b hb=>by
  have e:b=it:=by simpa using hb
  subst e;obtain⟨o,e,c,d⟩:=st;exact⟨o,e,λv z=>by rw[d]at z;cases z⟩
 keep:=λi h h' st k=>st.at λo e=>k it (by simp) o e
 item:=by
  intro X hP hw hK hc i Y s U H E I hf st hg;subst hP hw hK;obtain⟨xs,x,hq,hx⟩:=hg;obtain⟨its,rv,p,hz⟩:=I.tuple hq;obtain⟨u,hu,ru⟩:=rv.get hx;obtain⟨f0,f1,f2,f3,f4,f5⟩:=hf it (by simp);refine wpAny_pyNext_tuple_item st (show s.heap.IsTuple a its.toArray from p) (x:=u) (by simpa using hu) λh' st' sb=>?_
  have I1:Inv X Y U H { s with heap:=h' }:=I.turned (t':=s.toks) (λb o hb e=>(sb.2 b hb).trans e) f0 f1 f3 f4 f5;obtain⟨o,e,c,d⟩:=id st';exact⟨u,rfl,nO (s:={ s with heap:=h' }) e c d (by decide) ⟨x,H,I1,ru,⟨rfl,λys hy=>by rw[I.fK hy hq];exact hx⟩,st',λb hb=>(hf b hb).1⟩⟩
 done:=by
  intro X hP hw hK hc i Y s U H E I hf st hg;subst hP hw hK;obtain⟨xs,hq,hx⟩:=hg;obtain⟨its,rv,p,hz⟩:=I.tuple hq;obtain⟨f0,f1,f2,f3,f4,f5⟩:=hf it (by simp);have hl:=rv.length;exact wpAny_pyNext_tuple_end (I.ok.hd hc) st (show s.heap.IsTuple a its.toArray from p) (by simp;omega) λh' eb=>⟨rfl,I.turned (t':=s.toks) (λb o hb e=>eb b o hb e) f0 f1 f3 f4 f5⟩
 self:=λ_ _ _ _ _ st h=>wpAny_pyIter_tupleiter st h
def mq (it:Addr)(lo:Int)(n:Nat):Turn P w K tg (AN lo n) [it] it (λi h=>IsRangeIter h it (lo+(i:Nat)*1) ((n:Int)-(i:Nat)) 1) where
 mem:=by simp
 obj:=λi h st b hb=>by
  have e:b=it:=by simpa using hb
  subst e;exact⟨_,st,λv z=>by
   have z':Data.fields _=Data.cell v:=z;cases z'⟩
 keep:=λi h h' st k=>k it (by simp) _ st
 item:=by
  intro X hP hw hK hc i Y s U H E I hf st hg;subst hP hw hK;obtain⟨f0,f1,f2,f3,f4,f5⟩:=hf it (by simp);have W:=Walks.range (prog:=X.prog) (w:=X.w) (I.ok.hd hc) it lo 1 n;refine W.item i s _ _ hg st λv h' tk hv st' kk=>?_
  obtain⟨t,rfl⟩:=hv;have I1:Inv X Y U H { s with heap:=h',toks:=tk }:=I.turned (λb o hb e=>kk b o (by simpa using hb) e) f0 f1 f3 f4 f5;refine⟨_,rfl,nO (s:={ s with heap:=h',toks:=tk }) (n:="range_iterator") st' rfl rfl (by decide) ⟨.int (lo+i),H,I1,⟨t,?_⟩,⟨rfl,rfl⟩,st',λb hb=>(hf b hb).1⟩⟩;rw[Int.mul_one]
 done:=by
  intro X hP hw hK hc i Y s U H E I hf st hg;subst hP hw hK;obtain⟨f0,f1,f2,f3,f4,f5⟩:=hf it (by simp);exact wpAny_pyNext_range_end (I.ok.hd hc) st (by have:n<=i:=hg;omega) λh' eb=>⟨rfl,I.turned (t':=s.toks) (λb o hb e=>eb b o hb e) f0 f1 f3 f4 f5⟩
 self:=λ_ _ _ _ _ st h=>wpAny_pyIter_rangeiter st h
variable {pos:Pos}{fp:List Addr}{body:List Stmt}
section
variable {X:Cx}{tg:Expr}
def tH {R:It->Hp->Prop}{lo hi:Int}{t u v:Tok}{tk:Nat}(I:Inv X Y U H s)(h1: -(2 ^ 62)<=lo)(h2:lo<2 ^ 62)(h3: -(2 ^ 62)<=hi)(h4:hi<2 ^ 62)
  (q:R (AN lo (hi-lo).toNat) H):wpAny (model X.prog X.w) X.A (pyIter (.ref s.heap.objs.size)) (BM X Y U tg R) E { s with heap:=s.heap.push { cls:=.type "range",data:=.fields #[.int lo t,.int hi u,.int 1 v] },toks:=tk }:=by
 refine wpAny_pyIter_range (IsRange.new ..) (small_one h1 h2 h3 h4) ?_;have I1:Inv X Y U H { s with heap:=s.heap.push { cls:=.type "range",data:=.fields #[.int lo t,.int hi u,.int 1 v] },toks:=tk }:=I.kept λb o e=>sn _ e
 refine⟨(s.heap.push { cls:=.type "range",data:=.fields #[.int lo t,.int hi u,.int 1 v] }).objs.size,[(s.heap.push { cls:=.type "range",data:=.fields #[.int lo t,.int hi u,.int 1 v] }).objs.size],_,_,H,rfl,
  I1.kept (t':=tk) λb o e=>sn _ e,mq _ lo (hi-lo).toNat,?_,λb hb=>?_,q⟩
 .have e1:lo+((0:Nat):Int)*1=lo:=by simp
  have e2:(((hi-lo).toNat:Nat):Int)-((0:Nat):Int)=Builtin.Range.rangeSize lo hi 1:=by rw[rangeSize_one];split<;>omega
  show IsRangeIter _ _ (lo+((0:Nat):Int)*1) ((((hi-lo).toNat:Nat):Int)-((0:Nat):Int)) 1;rw[e1,e2];exact sw _ rfl
 .have e:b=(s.heap.push { cls:=.type "range",data:=.fields #[.int lo t,.int hi u,.int 1 v] }).objs.size:=by simpa using hb
  subst e;exact I1.p9 (pc _) (I1.hok.fresh (pc _))
abbrev Ca (ta:TA):TI:=λU H R=>ta U H λvs H1=>∃ j:Int,vs=[.int j]/\ -(2 ^ 62)<=j/\j<2 ^ 62/\R (AN 0 j.toNat) H1
def pj {a:Expr}{ta:TA}{p:Pos}(hg:Gl X "range") (hm:X.mg "range"=none) (ha:PA X [a] ta) (hs:bm [a] X.env=[(false,eval a X.env)]:=by rfl):PI X tg (.Call (.Name "range" p) [a] [] pos) (Ca ta):=by
 intro Y s U H R I h;refine Call_ (cP I hg hm boot_range (PyProof.Rows.callWith_type1 (au (ha pos Y s U H _ I h) λus s1 ⟨vs,H1,I1,r1,q1⟩=>?_) hs rfl));obtain⟨j,e,q1,q2,q⟩:=q1;subst e;cases r1 with
 |cons r rr=>
  cases rr;obtain⟨t,rfl⟩:=r;exact call_range_1 (tH I1 nofun nofun q1 q2 (by simpa using q))
abbrev Df (wi:TI)(g:TG)(tb:TS):TS:=λD U H=>wi U H λJ H1=>∃ W:Nat->Nat->St->Hp->Prop,(∃ m,W 0 m U H1)/\∀ i m U H,W i m U H->
 (J.stop i H/\D.nx U H)\/(J.go i H/\∃ N:St->Hp->Prop,(∀ σ' H',N σ' H'->∃ m',m'<m/\W (i+1) m' σ' H')/\∀ x H',J.yld i H x H'->g x U H' λσ2 H2=>tb { D with nx:=N,ct:=N,bk:=D.nx } σ2 H2)
abbrev jE (fp:List Addr)(h:Heap):List (Addr×Obj):=fp.filterMap λb=>(h.get? b).map λo=>(b,o)
def a9 {o:Obj}(hb:b ∈ fp)(e:h.get? b=some o):(b,o) ∈ jE fp h:=List.mem_filterMap.mpr ⟨b,hb,by rw[e];rfl⟩
def qj {p:Addr×Obj}(hp:p ∈ jE fp h):p.1 ∈ fp/\h.get? p.1=some p.2:=by
 obtain⟨b,hb,e⟩:=List.mem_filterMap.mp hp;cases q:h.get? b with
 |none=>rw[q]at e;cases e
 |some o=>
  rw[q]at e;have e':(b,o)=p:=Option.some.inj e;subst e';exact⟨hb,q⟩
def Inv.pinned (I:Inv X Y U H s)(hf:∀ b ∈ fp,fH X Y H b) (ho:∀ b ∈ fp,∃ o,s.heap.get? b=some o/\∀ v,o.data≠.cell v):Inv X (Y++jE fp s.heap) U H s:=
 I.jk λp hp=>(mem_append.mp hp).elim (λz=>I.pin p (gt _ z)) λz=>by
  obtain⟨hb,e⟩:=qj z;obtain⟨f0,f1,f2,_⟩:=hf p.1 hb;obtain⟨o,e',d⟩:=ho p.1 hb;rw[e]at e';cases e';exact⟨e,f0,f1,f2,d⟩
def Inv.cM {pl:EM}(I:Inv X (Y++pl) U H s):Inv X Y U H s:=I.jk λp hp=>I.pin p (gt _ (mem_append_left _ hp))
def yV {iter:Expr}{wi:TI}{g:TG}{tb:TS}(hp:PassesOwn (model X.prog X.w) X.A X.env X.xe)(hc:X.calm=true)(hi:PI X tg iter wi)(hg:PG X tg g)(hb:x6 X body tb)
  (hs:∀ x,foldedSetIterable iter X.env x=pure x:=by intro _;rfl):PS X (.For tg iter body [] pos) (Df wi g tb):=by
 intro Y s U H D I h;refine wpAny_For (au (hi Y s U H _ I h) λv s1 h1=>au h1 λitv s2 h2=>?_) hs;obtain⟨it,fp,tn,J,H2,e,I2,T,jV,f2,W,⟨m0,w0⟩,turn⟩:=h2;subst e;have stat:∀ {H':Hp},(∀ b ∈ fp,H' b=none)->∀ b ∈ fp,fH X Y H' b:=λhn b hb=>⟨hn b hb,(f2 b hb).2⟩
 refine codeAny_forLoop_any (λn s'=>∃ i σ' H',Inv X Y σ' H' s'/\tn i s'.heap/\(∀ b ∈ fp,H' b=none)/\W i n σ' H') ?_ m0 ⟨0,U,H2,I2,jV,λb hb=>(f2 b hb).1,w0⟩;rintro n s3 ⟨i,σ3,H3,I3,st3,fr3,w3⟩;rcases turn i n σ3 H3 w3 with⟨stop,qn⟩|⟨go,N,hN,step⟩
 .refine wpAny_passesOwn hp (au (T.done X rfl rfl rfl hc i Y s3 σ3 H3 X.xe I3 (stat fr3) st3 stop) λr s4 ⟨hr,I4⟩=>?_);subst hr;exact wpAny_execs_nil ⟨σ3,H3,I4,qn⟩
 .refine wpAny_passesOwn hp (au (T.item X rfl rfl rfl hc i Y s3 σ3 H3 X.xe I3 (stat fr3) st3 go) λr s4 ⟨u,hr,h4⟩=>?_);subst hr;refine wpAny_passesOwn hp (au h4 λ_ s5 ⟨x,H5,I5,r5,y5,st5,fr5⟩=>?_);have I5':=I5.pinned (stat fr5) (T.obj _ _ st5);refine wpAny_passesOwn hp (au (hg _ s5 σ3 H5 x u _ I5' r5 (step x H5 y5)) λ_ s6 ⟨σ6,H6,I6,q6⟩=>?_);refine wpAny_passesOwn hp (au (hb _ s6 σ6 H6 _ I6 q6) λf s7 q7=>?_);have again:∀ {σ7:St}{H7:Hp},Inv X (Y++jE fp s5.heap) σ7 H7 s7->N σ7 H7->∃ m,m<n/\∃ i σ' H',Inv X Y σ' H' s7/\tn i s7.heap/\(∀ b ∈ fp,H' b=none)/\W i m σ' H':=λ{σ7 H7} I7 n7=>by
   obtain⟨m',hm,w7⟩:=hN σ7 H7 n7;refine⟨m',hm,i+1,σ7,H7,I7.cM,T.keep _ _ _ st5 λb hb o e=>(I7.pin (b,o) (gt _ (gt _ (a9 hb e)))).1,λb hb=>?_,w7⟩;obtain⟨o,e,d⟩:=T.obj _ _ st5 b hb;exact(I7.pin (b,o) (gt _ (gt _ (a9 hb e)))).2.1
  cases f with
  |next=>obtain⟨σ7,H7,I7,n7⟩:=q7;exact again I7 n7
  |cont=>obtain⟨σ7,H7,I7,n7⟩:=q7;exact again I7 n7
  |brk=>obtain⟨σ7,H7,I7,q7⟩:=q7;exact⟨σ7,H7,I7.cM,q7⟩
  |ret v=>obtain⟨x7,σ7,H7,I7,r7,q7⟩:=q7;exact⟨x7,σ7,H7,I7.cM,r7,q7⟩
end
@[reducible]def R2:=V->V->Hp->VK->Prop
abbrev bS (X:Cx)(f:Value->Value->Sem Value)(r:R2):Prop:=
 ∀ (Y:EM) (s:Shared) (U:St) (H:Hp) (x y:V) (v u:Value) (Q:VK),Inv X Y U H s->RelV x v->RelV y u->r x y H Q->
  wpAny (model X.prog X.w) X.A (f v u) (EP X Y U Q) X.xe s
abbrev CA (X:Cx)(f:Value->Sem Value)(r:V->Hp->VK->Prop):Prop:=
 ∀ (Y:EM) (s:Shared) (U:St) (H:Hp) (x:V) (v:Value) (Q:VK),Inv X Y U H s->RelV x v->r x H Q->
  wpAny (model X.prog X.w) X.A (f v) (EP X Y U Q) X.xe s
abbrev bz (X:Cx)(f:Value)(r:List V->Hp->VK->Prop):Prop:=
 ∀ (Y:EM) (s:Shared) (U:St) (H:Hp) (xs:List V) (us:List Value) (Q:VK),Inv X Y U H s->Vals xs us->r xs H Q->
  wpAny (model X.prog X.w) X.A (call f us) (EP X Y U Q) X.xe s
abbrev Dt (X:Cx)(r:V->Hp->(Bool->Hp->Prop)->Prop):Prop:=
 ∀ (Y:EM) (s:Shared) (U:St) (H:Hp) (x:V) (v:Value) (Q:Bool->Hp->Prop),Inv X Y U H s->RelV x v->r x H Q->
  wpAny (model X.prog X.w) X.A (truthy v) (TP X Y U Q) X.xe s
abbrev CJ (r:R2)(ta tb:TE):TE:=λU H Q=>ta U H λx H1=>tb U H1 λy H2=>r x y H2 Q
abbrev Er (r:V->Hp->VK->Prop)(ta:TE):TE:=λU H Q=>ta U H λx H1=>r x H1 Q
abbrev rI (C:Int->Int->Prop)(g:Int->Int->V):R2:=λx y H Q=>∃ i j,x=.int i/\y=.int j/\C i j/\Q (g i j) H
abbrev vE (g:Int->Int->V):R2:=λx y H Q=>∃ i j,x=.int i/\y=.int j/\Q (g i j) H
abbrev rU (g:Int->V):V->Hp->VK->Prop:=λx H Q=>∃ i,x=.int i/\Q (g i) H
variable {f:Value->Value->Sem Value}{r:R2}{g:Int->Int->Int}
section
variable {X:Cx}{a b c:Expr}{ta tb tc:TE}{pos:Pos}
def yr (ha:PE X a ta)(hb:PE X b tb){R:V->V->Hp->Prop}(I:Inv X Y U H s)
  (h:ta U H λx H1=>tb U H1 λy H2=>R x y H2)
  (hf:∀ v u s2 x y H2,Inv X Y U H2 s2->RelV x v->RelV y u->R x y H2->wpAny (model X.prog X.w) X.A (f v u) Q X.xe s2):
  wpAny (model X.prog X.w) X.A (eval a X.env) (λv s₁=>wpAny (model X.prog X.w) X.A (eval b X.env) (λu s₂=>wpAny (model X.prog X.w) X.A (f v u) Q X.xe s₂) X.xe s₁) X.xe s:=by
 refine au (ha Y s U H _ I h) λv s1 ⟨x,H1,I1,r1,q1⟩=>?_
 refine au (hb Y s1 U H1 _ I1 q1) λu s2 ⟨y,H2,I2,r2,q2⟩=>?_
 exact hf v u s2 x y H2 I2 r1 r2 q2
def Cj {op:Operator}(ho:bS X (binaryOp op) r)(ha:PE X a ta)(hb:PE X b tb):PE X (.BinOp a op b pos) (CJ r ta tb):=by
 intro Y s U H Q I h;exact wpAny_BinOp (yr ha hb I h λv u s2 x y H2 I2 rx ry q=>ho Y s2 U H2 x y v u Q I2 rx ry q)
def B0 {op:UnaryOp}{r:V->Hp->VK->Prop}(ho:CA X (unaryOp op) r)(ha:PE X a ta):PE X (.UnaryOp op a pos) (Er r ta):=by
 intro Y s U H Q I h;exact UnaryOp_ (au (ha Y s U H _ I h) λv s1 ⟨x,H1,I1,r1,q1⟩=>ho Y s1 U H1 x v Q I1 r1 q1)
def Cv {C:Int->Int->Prop}
  (rule:∀ (i j:Int) (t u:Tok) (s:Shared) (Q:EL) (E:EL),C i j->Q (.int (g i j) s.toks) { s with toks:=s.toks+1 }->wpAny (model X.prog X.w) X.A (f (.int i t) (.int j u)) Q E s):
  bS X f (rI C λi j=>.int (g i j)):=by
 intro Y s U H x y v u Q I rx ry h;obtain⟨i,j,rfl,rfl,hc,q⟩:=h;obtain⟨t,rfl⟩:=rx;obtain⟨t',rfl⟩:=ry;exact rule i j t t' s _ _ hc ⟨.int (g i j),H,I.tok _,⟨_,rfl⟩,q⟩
def Bj 
  (rule:∀ (i j:Int) (t u:Tok) (s:Shared) (Q:EL) (E:EL),Q (.int (g i j) s.toks) { s with toks:=s.toks+1 }->wpAny (model X.prog X.w) X.A (f (.int i t) (.int j u)) Q E s):
  bS X f (vE λi j=>.int (g i j)):=by
 intro Y s U H x y v u Q I rx ry h;obtain⟨i,j,rfl,rfl,q⟩:=h;obtain⟨t,rfl⟩:=rx;obtain⟨t',rfl⟩:=ry;exact rule i j t t' s _ _ ⟨.int (g i j),H,I.tok _,⟨_,rfl⟩,q⟩
def wX {g:Int->Int->Bool}
  (rule:∀ (i j:Int) (t u:Tok) (s:Shared) (Q:EL) (E:EL),Q (.bool (g i j)) s->wpAny (model X.prog X.w) X.A (f (.int i t) (.int j u)) Q E s):
  bS X f (vE λi j=>.bl (g i j)):=by
 intro Y s U H x y v u Q I rx ry h;obtain⟨i,j,rfl,rfl,q⟩:=h;obtain⟨t,rfl⟩:=rx;obtain⟨t',rfl⟩:=ry;exact rule i j t t' s _ _ ⟨.bl (g i j),H,I,rfl,q⟩
abbrev DI (i j:Int):Prop:=0<j/\j<1073741824
abbrev wb (i j:Int):Prop:=0<=j/\j<=1000000/\i.natAbs<2 ^ 64
abbrev pR (i j:Int):Prop:=(-(2 ^ 64)<i/\i<2 ^ 64)\/(-(2 ^ 64)<j/\j<2 ^ 64)
def pR.ok {i j:Int}(h:pR i j):IntMulOk i j:=by
 rcases h with⟨h1,h2⟩|⟨h1,h2⟩
 .exact .of_left (intBits_le_64 h1 h2)
 .exact .of_right (intBits_le_64 h1 h2)
def yp:bS X (binaryOp .Add) (vE λi j=>.int (i+j)):=Bj λ_ _ _ _ _ _ _ q=>add_int q
def y9:bS X (binaryOp .Sub) (vE λi j=>.int (i-j)):=Bj λ_ _ _ _ _ _ _ q=>sub_int q
def yS:bS X (binaryOp .Mult) (rI pR λi j=>.int (i*j)):=Cv λ_ _ _ _ _ _ _ hc q=>mul_int q hc.ok
def wy:bS X (binaryOp .FloorDiv) (rI DI λi j=>.int (i / j)):=Cv λi j _ _ _ _ _ hc q=>by
 have h1:(0:Int)<j:=hc.1;have h2:j<1073741824:=hc.2;exact floordiv_int nofun (by rw[Int.fdiv_eq_ediv_of_nonneg i nofun];exact q) (.inl (PyProof.noPylong_small nofun))
def zB:bS X (binaryOp .Mod) (rI (λ_ j=>0<j) λi j=>.int (i % j)):=Cv λi j _ _ _ _ _ hc q=>by
 have h1:(0:Int)<j:=hc;exact mod_int' nofun (by rw[Int.fmod_eq_emod_of_nonneg i nofun];exact q)
def yv:bS X (binaryOp .Pow) (rI wb λi j=>.int (i ^ j.toNat)):=Cv λ_ _ _ _ _ _ _ hc q=>pow_int_small hc.1 hc.2.1 hc.2.2 q
def Eo {f:Value->Sem Value}{g:Int->Int}
  (rule:∀ (i:Int) (t:Tok) (s:Shared) (Q:EL) (E:EL),Q (.int (g i) s.toks) { s with toks:=s.toks+1 }->wpAny (model X.prog X.w) X.A (f (.int i t)) Q E s):
  CA X f (rU λi=>.int (g i)):=by
 intro Y s U H x v Q I rx h;obtain⟨i,rfl,q⟩:=h;obtain⟨t,rfl⟩:=rx;exact rule i t s _ _ ⟨.int (g i),H,I.tok _,⟨_,rfl⟩,q⟩
def Aq:CA X (unaryOp .USub) (rU λi=>.int (-i)):=Eo λ_ _ _ _ _ q=>neg_int q
end
variable {op:CmpOp}
section
variable {X:Cx}{a b c:Expr}{ta tb tc:TE}{pos:Pos}
def mX {Q:VK}{k k':Bool}(I:Inv X Y U H s)(q:Q (.bl k) H)(e:k=k'):EP X Y U Q (.bool k') s:=by
 subst e;exact⟨.bl k,H,I,rfl,q⟩
def AZ:bS X (compareOp .Lt) (vE λi j=>.bl (decide (i<j))):=wX λ_ _ _ _ _ _ _ q=>lt_int q
def AQ:bS X (compareOp .LtE) (vE λi j=>.bl (decide (i<=j))):=wX λ_ _ _ _ _ _ _ q=>le_int q
def Bv:bS X (compareOp .Gt) (vE λi j=>.bl (decide (j<i))):=wX λ_ _ _ _ _ _ _ q=>gt_int q
def B1:bS X (compareOp .GtE) (vE λi j=>.bl (decide (j<=i))):=wX λ_ _ _ _ _ _ _ q=>ge_int q
def qk:bS X (compareOp .In) (λx y H Q=>∃ i j,x=.str i/\y=.str j/\Q (.bl (!(Builtin.Str.occurrences j i 0 j.length 1).isEmpty)) H):=by
 intro Y s U H x y v u Q I rx ry h;obtain⟨i,j,rfl,rfl,q⟩:=h;obtain⟨t,rfl⟩:=rx;obtain⟨t',rfl⟩:=ry;exact in_str (mX I q rfl)
def yh:bS X (compareOp .Is) (λx y H Q=>y=.non/\Q (.bl (decide (x=.non))) H):=by
 intro Y s U H x y v u Q I rx ry h;obtain⟨rfl,q⟩:=h;cases ry;refine is_none_gen (mX I q ?_);cases x<;>first
  |(cases rx;rfl)
  |(obtain⟨t,rfl⟩:=rx;rfl)
def vH:bS X (compareOp .IsNot) (λx y H Q=>y=.non/\Q (.bl (!decide (x=.non))) H):=by
 intro Y s U H x y v u Q I rx ry h;obtain⟨rfl,q⟩:=h;cases ry;refine isnot_none_gen (mX I q ?_);cases x<;>first
  |(cases rx;rfl)
  |(obtain⟨t,rfl⟩:=rx;rfl)
def uJ (ho:bS X (compareOp op) r)(ha:PE X a ta)(hb:PE X b tb)(hm:behindInMarks op b=false):PE X (.Compare a [op] [b] pos) (CJ r ta tb):=by
 intro Y s U H Q I h;exact wpAny_Compare1 (yr ha hb I h λv u s2 x y H2 I2 rx ry q=>ho Y s2 U H2 x y v u Q I2 rx ry q) hm
abbrev xt (t:TE):TT:=λU H Q=>t U H λx H'=>∃ k,x=.bl k/\Q k H'
def u0 (ho:bS X (compareOp op) r)(ha:PE X a ta)(hb:PE X b tb)(hm:behindInMarks op b=false):PT X (.Compare a [op] [b] pos) (xt (CJ r ta tb)):=by
 intro Y s U H Q I h;refine wpAny_isTrue_Compare1 (au (ha Y s U H _ I h) λv s1 ⟨x,H1,I1,r1,q1⟩=>au (hb Y s1 U H1 _ I1 q1) λu s2 ⟨y,H2,I2,r2,q2⟩=>
  au (ho Y s2 U H2 x y v u _ I2 r1 r2 q2) λc s3 ⟨z,H3,I3,r3,k,e,q3⟩=>?_) hm
 subst e;cases r3;exact bi ⟨H3,I3,q3⟩
abbrev uq (r r':R2)(ta tb tc:TE):TE:=λU H Q=>ta U H λx H1=>tb U H1 λy H2=>r x y H2 λz H3=>∃ k,z=.bl k/\
 (if k=true then tc U H3 λw' H4=>r' y w' H4 Q else Q (.bl false) H3)
def tG {op':CmpOp}{r':R2}(ho:bS X (compareOp op) r)(ho':bS X (compareOp op') r')(ha:PE X a ta)(hb:PE X b tb)(hc:PE X c tc)
  (hm:lastMarks [op,op'] [b,c]=false:=by with_unfolding_all rfl):PE X (.Compare a [op,op'] [b,c] pos) (uq r r' ta tb tc):=by
 intro Y s U H Q I h;refine Compare_chain (au (ha Y s U H _ I h) λv s1 ⟨x,H1,I1,r1,q1⟩=>chain_link (au (hb Y s1 U H1 _ I1 q1) λu s2 ⟨y,H2,I2,r2,q2⟩=>
  au (ho Y s2 U H2 x y v u _ I2 r1 r2 q2) λd s3 ⟨z,H3,I3,r3,k,e,q3⟩=>?_)) hm
 subst e;cases r3;refine bi ?_;cases k with
 |false=>exact ite_ff ⟨.bl false,H3,I3,rfl,q3⟩
 |true=>exact ite_tt (chain_last (au (hc Y s3 U H3 _ I3 q3) λw' s4 ⟨z',H4,I4,r4,q4⟩=>ho' Y s4 U H4 y z' u w' Q I4 r2 r4 q4))
def uC {op':CmpOp}{r':R2}(ho:bS X (compareOp op) r)(ho':bS X (compareOp op') r')(ha:PE X a ta)(hb:PE X b tb)(hc:PE X c tc)
  (hm:lastMarks [op,op'] [b,c]=false:=by with_unfolding_all rfl):PT X (.Compare a [op,op'] [b,c] pos) (xt (uq r r' ta tb tc)):=by
 intro Y s U H Q I h;refine isTrue_chain (au (ha Y s U H _ I h) λv s1 ⟨x,H1,I1,r1,q1⟩=>test_link (au (hb Y s1 U H1 _ I1 q1) λu s2 ⟨y,H2,I2,r2,q2⟩=>
  au (ho Y s2 U H2 x y v u _ I2 r1 r2 q2) λd s3 ⟨z,H3,I3,r3,k,e,q3⟩=>?_)) hm
 subst e;cases r3;refine bi ?_;cases k with
 |false=>
  obtain⟨k',e',q'⟩:=q3;cases e';exact ite_ff ⟨H3,I3,q'⟩
 |true=>
  refine ite_tt (test_last (au (hc Y s3 U H3 _ I3 q3) λw' s4 ⟨z',H4,I4,r4,q4⟩=>au (ho' Y s4 U H4 y z' u w' _ I4 r2 r4 q4) λd' s5 ⟨z2,H5,I5,r5,k2,e2,q5⟩=>?_));subst e2;cases r5;exact bi ⟨H5,I5,q5⟩
abbrev wN (K:W.Frag)(x:V)(H:Hp)(k:Bool):Prop:=
 match x with
 | .non=>k=false
 | .bl b=>k=b
 | .int i=>k=(i != 0)
 | .str y=>y.length<=bn/\k=((y.length:Int) != 0)
 | .byt y=>y.size<=bn/\k=((y.size:Int) != 0)
 | .ref p=>(∃ xs,aK K H p xs/\k= !xs.isEmpty)\/(∃ xs,bp K H p xs/\k= !xs.isEmpty)\/∃ kvs,H p=some (.dK kvs)/\k= !kvs.isEmpty
 |_=>False
def lM {κ:Type}{kvs:List (κ×V)}{vs:List (κ×Value)}(r:KV kvs vs):(!vs.isEmpty)= !kvs.isEmpty:=by
 cases r<;>rfl
def gJ {its:List Value}(r:Vals xs its):(!its.toArray.isEmpty)= !xs.isEmpty:=by
 cases r<;>simp
def dY:(bn:Nat)<2 ^ 63:=by rw[sizeLine_eq];decide
def zA:Dt X (λx H Q=>∃ k,wN X.K x H k/\Q k H):=by
 intro Y s U H x v Q I rx h;obtain⟨k,e,q⟩:=h;have hl:=dY;have hs:bn=16777216:=sizeLine_eq;cases x with
 |non=>
  cases rx;have e':k=false:=e;subst e';exact truthy_none ⟨H,I,q⟩
 |bl b=>
  cases rx;have e':k=b:=e;subst e';exact bi ⟨H,I,q⟩
 |int i=>
  obtain⟨t,rfl⟩:=rx;have e':k=(i != 0):=e;subst e';exact PySem.P.truthy_int ⟨H,I,q⟩
 |str y=>
  obtain⟨t,rfl⟩:=rx;obtain⟨hy,e'⟩:y.length<=bn/\k=((y.length:Int) != 0):=e;subst e';exact PySem.P.truthy_str nofun ⟨H,I.tok _,q⟩
 |byt y=>
  obtain⟨t,rfl⟩:=rx;obtain⟨hy,e'⟩:y.size<=bn/\k=((y.size:Int) != 0):=e;subst e';exact W.truthy_bytes nofun ⟨H,I.tok _,q⟩
 |ref p=>
  cases rx;have e':(∃ xs,aK X.K H p xs/\k= !xs.isEmpty)\/(∃ xs,bp X.K H p xs/\k= !xs.isEmpty)\/∃ kvs,H p=some (.dK kvs)/\k= !kvs.isEmpty:=e;rcases e' with⟨xs,hx,e'⟩|⟨xs,hx,e'⟩|⟨kvs,hx,e'⟩
  .subst e';obtain⟨its,r,pl,hz⟩:=I.list hx;have hlen:=r.length;exact wpAny_truthy_list pl.isList (by simp only[ge];omega) ⟨H,I.tok _,by rw[gJ r];exact q⟩
  .subst e';obtain⟨its,r,pl,hz⟩:=I.tuple hx;have hlen:=r.length;exact truthy_tuple pl (by simp only[ge];omega) ⟨H,I.tok _,by rw[gJ r];exact q⟩
  .subst e';obtain⟨hz,hS,vs,r,m⟩:kvs.length<=bn/\(p ==sysModules)=false/\∃ vs,KV kvs vs/\s.heap.DictOf (az X.prog X.w) p vs:=I.hok p _ hx;have hlen:kvs.length=vs.length:=Paired.length r;exact wpAny_truthy_dict hS m nofun ⟨H,I.tok _,by rw[lM r];exact q⟩
 |_=>exact(show False from e).elim
def tM (ha:PE X a ta)(he:∀ whole,isTrue a X.env whole=(do let v <-whole;standAt a.pos;holding [v] (truthy v))):
  PT X a (λU H Q=>ta U H λx H'=>∃ k,wN X.K x H' k/\Q k H'):=by
 intro Y s U H Q I h;exact isTrue_plain (au (ha Y s U H _ I h) λv s1 ⟨x,H1,I1,r1,q1⟩=>zA Y s1 U H1 x v Q I1 r1 q1) (he _)
def mF:bS X (binaryOp .Add) (λx y H Q=>∃ i j,x=.str i/\y=.str j/\i.length+j.length<=bn/\Q (.str (i++j)) H):=by
 intro Y s U H x y v u Q I rx ry h;obtain⟨i,j,rfl,rfl,hz,q⟩:=h;obtain⟨t,rfl⟩:=rx;obtain⟨t',rfl⟩:=ry;exact add_str (λt' tk=>⟨.str (i++j),H,I.tok _,⟨_,rfl⟩,q⟩) hz
def vals1 {x:V}(r:Vals [x] us):∃ u,us=[u]/\RelV x u:=by
 cases r with
 |cons r1 r2=>cases r2;exact⟨_,rfl,r1⟩
def vals2 {x y:V}(r:Vals [x,y] us):∃ u w',us=[u,w']/\RelV x u/\RelV y w':=by
 cases r with
 |cons r1 r2=>
  cases r2 with
  |cons r3 r4=>cases r4;exact⟨_,_,rfl,r1,r3⟩
def pQ (hc:X.calm=true):bz X (.builtin "min") (λxs H Q=>∃ i j,xs=[.int i,.int j]/\Q (.int (if j<i then j else i)) H):=by
 intro Y s U H xs us Q I r h;obtain⟨i,j,rfl,q⟩:=h;obtain⟨u,w',rfl,⟨t,rfl⟩,⟨t',rfl⟩⟩:=vals2 r;refine min_two_ints (I.ok.hd hc) λh' tk k=>⟨_,H,I.kept k,?_,q⟩
 by_cases hj:j<i
 .rw[if_pos hj,if_pos hj];exact⟨_,rfl⟩
 .rw[if_neg hj,if_neg hj];exact⟨_,rfl⟩
def ji:bz X (.type "str") (λxs H Q=>∃ i,xs=[.int i]/\i.natAbs.log2<1920/\Q (.str (toString i)) H):=by
 intro Y s U H xs us Q I r h;obtain⟨i,rfl,hz,q⟩:=h;obtain⟨u,rfl,t,rfl⟩:=vals1 r;exact PySem.P.str_of_int hz ⟨.str _,H,I.tok _,⟨_,rfl⟩,q⟩
abbrev BQ (K:W.Frag)(x:V)(H:Hp)(n:Nat):Prop:=
 match x with
 | .str y=>y.length<=bn/\n=y.length
 | .byt y=>y.size<=bn/\n=y.size
 | .ref p=>(∃ xs,aK K H p xs/\n=xs.length)\/∃ xs,bp K H p xs/\n=xs.length
 |_=>False
def tR:bz X (.builtin "len") (λxs H Q=>∃ x n,xs=[x]/\BQ X.K x H n/\Q (.int n) H):=by
 intro Y s U H xs us Q I r h;obtain⟨x,n,rfl,e,q⟩:=h;obtain⟨u,rfl,rx⟩:=vals1 r;have hl:=dY;have hs:bn=16777216:=sizeLine_eq;cases x with
 |str y=>
  obtain⟨t,rfl⟩:=rx;obtain⟨hy,e'⟩:y.length<=bn/\n=y.length:=e;subst e';exact len_str nofun ⟨.int _,H,I.tok _,⟨_,rfl⟩,q⟩
 |byt y=>
  obtain⟨t,rfl⟩:=rx;obtain⟨hy,e'⟩:y.size<=bn/\n=y.size:=e;subst e';exact W.len_bytes nofun ⟨.int _,H,I.tok _,⟨_,rfl⟩,q⟩
 |ref p=>
  cases rx;have e':(∃ xs,aK X.K H p xs/\n=xs.length)\/∃ xs,bp X.K H p xs/\n=xs.length:=e;rcases e' with⟨xs,hx,e'⟩|⟨xs,hx,e'⟩
  .subst e';obtain⟨its,r',pl,hz⟩:=I.list hx;have hlen:=r'.length;exact Calls.call_len_list pl.isList (by simp only[ge];omega) ⟨.int xs.length,H,I.tok _,⟨_,by simp only[ge];rw[hlen]⟩,q⟩
  .subst e';obtain⟨its,r',pl,hz⟩:=I.tuple hx;have hlen:=r'.length;exact len_tuple pl (by simp only[ge];omega) ⟨.int xs.length,H,I.tok _,⟨_,by simp only[ge];rw[hlen]⟩,q⟩
 |_=>exact(show False from e).elim
end
structure mQ (h:Heap) (x dx C:Addr) (mA:EN):Prop where
 obj:h.get? x=some (W.instObj C dx)
 ns:h.Ns1 dx mA
 ne:dx≠x
variable {mA:EN}
def fB {dx:Addr}(n:h.Ns1 dx mA):∃ od,h.get? dx=some od/\∀ name,W.lookIn name od=some (mA name):=by
 obtain⟨o,es,ep,ho,hd,hk,_,hm⟩:=n;refine⟨o,ho,λname=>?_⟩;have e:=hm name;unfold nsFind findBy at e;rw[<-Array.find?_toList]at e;unfold W.lookIn;rw[hd];dsimp only
 split
 .rename_i y q;rw[q]at e;exact congrArg some e
 .rename_i q;rw[q]at e;have a:es.toList.any (·.refKey)=false:=by
   rw[any_eq_false];intro y hy;obtain⟨z,t,hkey⟩:=hk y (Array.mem_toList_iff.mp hy);simp[DictEntry.refKey,hkey]
  have a':¬ es.toList.any (·.refKey)=true:=by rw[a];exact Bool.false_ne_true
  rw[if_neg a'];exact congrArg some e
variable {C:Addr}
def mQ.look {x dx:Addr}(I:mQ h x dx C mA):∃ od,W.InstAt h x (W.instObj C dx) C (some od)/\∀ name,W.lookIn name od=some (mA name):=
 let⟨od,ho,hl⟩:=fB I.ns
 ⟨od,⟨I.obj,rfl,rfl,ho⟩,hl⟩
variable {pl:Sem Bool}{kw:List (Str×Value)}
section
variable {prog:Program}{w:World}{A:Around}{E:EL}{s:Shared}{K:W.Frag}{x dx C f:Addr}{mA:EN}{name:Str}{v:Value}
def get_map {expr:Bool}(X:K.In s.heap)(I:mQ s.heap x dx C mA)(hg:W.plainGet K C name=true)(hh:W.hasDictIn K C=true)
  (ha:W.findIn K (.ref C) name=some none) (hv:mA name=some v) (hv':W.handedIn v=true) (h:Q v { s with toks:=s.toks+1 }):
  wpAny (model prog w) A (getAttr (.ref x) name expr) Q E s:=by
 obtain⟨od,J,hl⟩:=I.look;exact W.get_value X J (W.plainGet_of hg).1 (W.findObj_own hh ha rfl (by rw[hl,hv])) hv' h
def rZ {Q:Value×List Value->Shared->Prop}(X:K.In s.heap)(I:mQ s.heap x dx C mA)(hg:W.plainGet K C name=true)
  (hf:W.findIn K (.ref C) name=some (some (.ref f))) (ht:W.isFn K (.ref f)=true) (hv:mA name=none) (h:Q (.ref f,[.ref x]) s):
  wpAny (model prog w) A (getMethod (.ref x) name pl) Q E s:=by
 obtain⟨od,J,hl⟩:=I.look;exact W.method_fn X J (W.plainGet_of hg).1 (W.plainGet_of hg).2 hf (beq_iff_eq.mp ht) (by show(W.lookIn name od).map (·.isSome)=some false;rw[hl,hv];rfl) h
def wF {ns:List Str}{Q:EK}(X:K.In s.heap)(I:mQ s.heap x dx C mA)
  (hs:W.findIn K (.ref C) "__setattr__"=some (some (.builtin "object.__setattr__"))) (hp:W.plainOver K C=true) (ht:W.takerIn K C name=some none) (hh:W.hasDictIn K C=true)
  (hw:PySem.Within mA ns) (hsz:ns.length<=bn)
  (h:∀ h',mQ h' x dx C (λy=>if y=name then some v else mA y)->Heap.SameBut dx s.heap h'->Q () { s with heap:=h',toks:=s.toks+2 }):
  wpAny (model prog w) A (setAttr (.ref x) name v) Q E s:=by
 obtain⟨od,J,hl⟩:=I.look;refine W.set_plain X J hs (W.osa_open (s:={ s with toks:=s.toks+1 }) (r:=none) X J hp ht λb=>?_);obtain⟨cd,hc,hd'⟩:=W.any_some hh;have hx:s.heap.get? x=some ⟨.ref C,some dx,.plain,#[]⟩:=I.obj;refine ad (am (ad (ad (wpAny_loadPart hx (ad (W.Looks.here (s:={ s with toks:=s.toks+1 }) (W.looks_clsIn X hc) ?_))))));rw[hd'];refine am (a:=some dx) (ad (am (ad ?_)));refine wpAny_nsSet1 (s:={ s with toks:=s.toks+1 }) I.ns λh' hn2 hs2=>?_
 obtain⟨oD,esD,epD,hoD,hdD,hcD⟩:=hn2.count (PySem.Within.cons name v hw);refine ad (wpAny_lookBehind hoD (by rw[hdD];exact pastItsLine_dict (Nat.le_trans hcD (by rw[length_cons];omega))) ?_);exact am (h _ ⟨(hs2.2 _ (Ne.symm I.ne)).trans I.obj,hn2,I.ne⟩ hs2)
def qM {R:Result->Shared->Prop}{vs:List Value}(X:K.In s.heap)(hm:W.makesIn K C=true)
  (hi:W.findIn K (.ref C) "__init__"=some (some (.ref f))) (hf:W.typeIn K (.ref f)=some (.type "function"))
  (h:codeAny (model prog w) (A.under (.builtin "type.__call__" ⟨.ref C::vs,kw⟩)) (.call (.ref f) ⟨.ref (s.heap.objs.size+1)::vs,kw⟩) (W.InitBack (s.heap.objs.size+1) R)
   { s with heap:=(s.heap.push W.emptyDict).push (W.instObj C s.heap.objs.size) }):
  codeAny (model prog w) A (.call (.ref C) ⟨vs,kw⟩) R s:=by
 obtain⟨hh,g,d,t,os⟩:=s;exact W.make_core (W.makes_of X hm) (W.looks_findIn X hi) (λself=>W.bind_fn X self hf) (.inl rfl) h
end
abbrev bT (f:Str)(v:V):List (Str×V)->List (Str×V)
 | []=>[(f,v)]
 |(g,x)::r=>if g=f then(g,v)::r else(g,x)::bT f v r
def c4 (f g:Str)(v:V):∀ fs:List (Str×V),(bT f v fs).lookup g=if g=f then some v else fs.lookup g
 | []=>by
  show List.lookup g [(f,v)]=_
  by_cases h:g=f
  .have hb:(g ==f)=true:=beq_iff_eq.mpr h;simp only[List.lookup,hb,if_pos h]
  .have hb:(g ==f)=false:=beq_eq_false_iff_ne.mpr h;simp only[List.lookup,hb,if_neg h]
 |(k,x)::r=>by
  have ih:=c4 f g v r;rw[show bT f v ((k,x)::r)=(if k=f then(k,v)::r else(k,x)::bT f v r) from rfl]
  by_cases hk:k=f
  .rw[if_pos hk]
   by_cases h:g=k
   .have hb:(g ==k)=true:=beq_iff_eq.mpr h;simp only[List.lookup,hb,if_pos (h.trans hk)]
   .have hb:(g ==k)=false:=beq_eq_false_iff_ne.mpr h;simp only[List.lookup,hb,if_neg (λe:g=f=>h (e.trans hk.symm))]
  .rw[if_neg hk]
   by_cases h:g=k
   .have hb:(g ==k)=true:=beq_iff_eq.mpr h;simp only[List.lookup,hb,if_neg (λe:g=f=>hk (h.symm.trans e))]
   .have hb:(g ==k)=false:=beq_eq_false_iff_ne.mpr h;simp only[List.lookup,hb];exact ih
def bY (f:Str)(v:V):∀ fs:List (Str×V),f ∈ (bT f v fs).map (·.1)/\∀ g,g ∈ fs.map (·.1)->g ∈ (bT f v fs).map (·.1)
 | []=>⟨by simp[bT],λg h=>by simp at h⟩
 |(k,x)::r=>by
  obtain⟨i1,i2⟩:=bY f v r;rw[show bT f v ((k,x)::r)=(if k=f then(k,v)::r else(k,x)::bT f v r) from rfl]
  by_cases hk:k=f
  .rw[if_pos hk];subst hk;exact⟨by simp,λg h=>by simpa using h⟩
  .rw[if_neg hk];refine⟨?_,λg h=>?_⟩
   .rw[map_cons];exact dl _ i1
   .rw[map_cons]at h⊢;rcases li.mp h with e|e
    .exact li.mpr (.inl e)
    .exact dl _ (i2 g e)
def cN (f:Str)(v:V):∀ fs:List (Str×V),(bT f v fs).length<=fs.length+1
 | []=>by simp[bT]
 |(k,x)::r=>by
  have ih:=cN f v r;rw[show bT f v ((k,x)::r)=(if k=f then(k,v)::r else(k,x)::bT f v r) from rfl]
  by_cases hk:k=f
  .rw[if_pos hk,length_cons,length_cons];omega
  .rw[if_neg hk,length_cons,length_cons];omega
def b9.some_of {o:Option Value}(r:b9 (some v) o):∃ u,o=some u/\RelV v u:=by
 cases o with
 |none=>exact(show False from r).elim
 |some u=>exact⟨u,rfl,r⟩
def b9.none_of {o:Option Value}(r:b9 none o):o=none:=by
 cases o with
 |none=>rfl
 |some u=>exact(show False from r).elim
def iB (r:RelV v u):W.handedIn u=true:=by
 cases v with
 |non=>cases(show u=Value.none from r);rfl
 |bl b=>cases(show u=Value.bool b from r);rfl
 |int i=>obtain⟨t,e⟩:=(show ∃ t,u=Value.int i t from r);cases e;rfl
 |str x=>obtain⟨t,e⟩:=(show ∃ t,u=Value.str x t from r);cases e;rfl
 |byt b=>obtain⟨t,e⟩:=(show ∃ t,u=Value.bytes b t from r);cases e;rfl
 |flt b=>obtain⟨t,e⟩:=(show ∃ t,u=Value.float b t from r);cases e;rfl
 |ref a=>cases(show u=Value.ref a from r);rfl
 |ty n=>cases(show u=Value.type n from r);rfl
section
variable {P:Program}{w:World}{H H':Hp}{h h':Heap}{a C dx:Addr}{fs fs':List (Str×V)}
def dm (hok:dN P w H h)(e:H a=some (.ins C dx fs)):∃ mA,mQ h a dx C mA/\(∀ f,b9 (fs.lookup f) (mA f))/\PySem.Within mA (fs.map (·.1))/\fs.length<=1000/\H dx=some (.own a):=by
 obtain⟨d,z,ne,ob,mA,n,r,q⟩:=(show ao P w H h a (.ins C dx fs) from hok a _ e);exact⟨mA,⟨ob,n,ne⟩,r,q,z,d⟩
end
structure vJ (K:W.Frag) (C:Addr):Prop where
 pg:W.plainGet K C Str.empty=true
 hd:W.hasDictIn K C=true
 po:W.plainOver K C=true
 sa:W.findIn K (.ref C) "__setattr__"=some (some (.builtin "object.__setattr__"))
def vJ.get (c:vJ K C)(f:Str):W.plainGet K C f=true:=c.pg
abbrev cV (K:W.Frag)(C:Addr)(f:Str):Prop:=W.findIn K (.ref C) f=some none
def cV.Cf {f:Str}(n:cV K C f):W.takerIn K C f=some none:=by
 unfold W.takerIn;rw[show W.findIn K (.ref C) f=some none from n]
 rfl
structure Meth (K:W.Frag) (C:Addr) (m:Str) (f:Addr):Prop where
 at_:W.findIn K (.ref C) m=some (some (.ref f))
 fn:W.isFn K (.ref f)=true
 kp:W.keepIn K (.ref f)=true
section
variable {X:Cx}{Y:EM}{U:St}{H:Hp}{s:Shared}{a C dx:Addr}{fs:List (Str×V)}{f:Str}{v:V}{A:Around}{E:EL}
def nh {b:Bool}(I:Inv X Y U H s)(e:H a=some (.ins C dx fs))(c:vJ X.K C)(n:cV X.K C f)(l:fs.lookup f=some v)
  (h:∀ u s',Inv X Y U H s'->RelV v u->Q u s'):wpAny (model X.prog X.w) A (getAttr (.ref a) f b) Q E s:=by
 obtain⟨mA,O,r,_,_,_⟩:=dm I.hok e;obtain⟨u,hu,ru⟩:=b9.some_of (v:=v) (o:=mA f) (by rw[<-l];exact r f);exact get_map I.aY O (c.get f) c.hd n hu (iB ru) (h u _ (I.tok _) ru)
def l7 {m:Str}{g:Addr}{Q:Value×List Value->Shared->Prop}(I:Inv X Y U H s)(e:H a=some (.ins C dx fs))(c:vJ X.K C)(k:Meth X.K C m g)(l:fs.lookup m=none)
  (h:Q (.ref g,[.ref a]) s):wpAny (model X.prog X.w) A (getMethod (.ref a) m pl) Q E s:=by
 obtain⟨mA,O,r,_,_,_⟩:=dm I.hok e;have hn:mA m=none:=b9.none_of (by rw[<-l];exact r m);exact rZ I.aY O (c.get m) k.at_ k.fn hn h
def mw {y:V}{Q:EK}(I:Inv X Y U H s)(e:H a=some (.ins C dx fs))(c:vJ X.K C)(n:cV X.K C f)(hl:fs.length<1000)(ry:RelV y u)
  (h:∀ s',Inv X Y U (upd H a (.ins C dx (bT f y fs))) s'->Q () s'):wpAny (model X.prog X.w) A (setAttr (.ref a) f u) Q E s:=by
 obtain⟨mA,O,r,wi,_,ho⟩:=dm I.hok e;have hz:(fs.map (·.1)).length<=bn:=by rw[ce,sizeLine_eq];omega
 refine wF I.aY O c.sa c.po n.Cf c.hd wi hz λh' O' sb=>h _ ?_
 have hd:∃ o,h'.get? dx=some o:=let⟨o,_,_,e',_⟩:=O'.ns;⟨o,e'⟩;refine I.write (x:=a) (e:=dx) (by rw[e];exact True.intro) (.inr ho) (λb q hb z=>(sb.2 b hb).trans z) hd ?_;refine⟨by rw[af O.ne];exact ho,?_,O.ne,O'.obj,_,O'.ns,λg=>?_,λg hg=>?_⟩
 .have:=cN f y fs;omega
 .show b9 ((bT f y fs).lookup g) (if g=f then some u else mA g);rw[c4]
  by_cases q:g=f
  .rw[if_pos q,if_pos q];exact ry
  .rw[if_neg q,if_neg q];exact r g
 .by_cases q:g=f
  .rw[q];exact(bY f y fs).1
  .refine(bY f y fs).2 g (wi g λz=>hg ?_);show(if g=f then some u else mA g)=none;rw[if_neg q];exact z
def Inv.made (I:Inv X Y U H s):Inv X Y U (upd (upd H s.heap.objs.size (.own (s.heap.objs.size+1))) (s.heap.objs.size+1) (.ins C s.heap.objs.size []))
  { s with heap:=(s.heap.push W.emptyDict).push (W.instObj C s.heap.objs.size) }:=by
 have e1:(s.heap.push W.emptyDict).get? s.heap.objs.size=some W.emptyDict:=sw s.heap rfl;have e2:((s.heap.push W.emptyDict).push (W.instObj C s.heap.objs.size)).get? (s.heap.objs.size+1)=some (W.instObj C s.heap.objs.size):=by
  have:=sw (s.heap.push W.emptyDict) (o:=W.instObj C s.heap.objs.size) rfl
  rwa [Heap.size_push]at this
 have e3:(s.heap.push W.emptyDict).Ns s.heap.objs.size (λ_=>none):=⟨W.emptyDict,#[],_,e1,rfl,(λe he=>absurd he (by simp)),λ_=>rfl⟩;have I1:=I.laid (a:=s.heap.objs.size) (o:=.own (s.heap.objs.size+1)) (h':=s.heap.push W.emptyDict) (t':=s.toks) (λb u q=>sn _ q) (pc _) ⟨_,e1⟩;refine I1.laid (a:=s.heap.objs.size+1) (o:=.ins C s.heap.objs.size []) (t':=s.toks) (λb u q=>sn _ q) (Nat.le_of_eq (Heap.size_push _ _)) ?_;have ne:s.heap.objs.size≠s.heap.objs.size+1:=nw (Nat.lt_succ_self _);refine⟨by rw[af ne,aj],Nat.zero_le _,ne,e2,λ_=>none,(Heap.Ns1.of_empty e3).at λo q=>sn _ q,λ_=>True.intro,λy hy=>absurd rfl hy⟩
def uM {prog:Program}{env:Env}(hb:attributeBase e f env (eval e env)=eval e env)
  (h:wpAny (model prog w) A (eval e env) (λo s₁=>wpAny (model prog w) A (getAttr o f true) Q E s₁) E s):wpAny (model prog w) A (eval (.Attribute e f pos) env) Q E s:=
 Attribute_any_ h (by rw[arm_eval_Attribute,hb])
end
section
variable {X:Cx}{o e value:Expr}{f:Str}{pos pos' tpos:Pos}{ta tv:TE}
end
section
variable {X:Cx}{Y:EM}{U:St}{H:Hp}{s:Shared}{A:Around}{E:EL}{Q:EL}{c:Value}{b:Bool}
inductive eO (K:W.Frag) (H:Hp):V->Value->Prop where
 |non:eO K H .non (.type "NoneType")
 |bl (x:Bool):eO K H (.bl x) (.type "bool")
 |int (i:Int):eO K H (.int i) (.type "int")
 |str (x:Str):eO K H (.str x) (.type "str")
 |flt (x:UInt64):eO K H (.flt x) (.type "float")
 |lst {a:Addr}{xs:List V}(e:H a=some (.lst xs)):eO K H (.ref a) (.type "list")
 |fZ {a:Addr}{o:Obj}{xs:List V}(e:H a=some (.fZ o (.lst xs))):eO K H (.ref a) (.type "list")
 |tup {a:Addr}{xs:List V}(e:H a=some (.tup xs)):eO K H (.ref a) (.type "tuple")
 |dK {a:Addr}{kvs:List (Key×V)}(e:Rd H a (.dK kvs)):eO K H (.ref a) (.type "dict")
 |dT {a:Addr}{kvs:List (List Key×V)}(e:H a=some (.dT kvs)):eO K H (.ref a) (.type "dict")
 |ins {a C dx:Addr}{fs:List (Str×V)}(e:H a=some (.ins C dx fs)) (cl:vJ K C) (ha:W.findIn K (.ref C) "__class__"=some (some (.builtin "object.__class__")))
   (hn:W.specialIn K (.builtin "object.__class__") "__get__"=some (some (.builtin "getset_descriptor.__get__"))) (htk:W.takesIn K (.builtin "object.__class__")=some true)
   (hm:W.mroIn K C (.type "object")=some true):eO K H (.ref a) (.ref C)
def fu {x:V}{t:Value}(I:Inv X Y U H s)(rx:RelV x u)(ty:eO X.K H x t)(e:W.kitOne X.K t c=some b)(h:∀ tk,Q (.bool b) { s with toks:=tk }):
  wpAny (model X.prog X.w) A (call (.builtin "isinstance") [u,c]) Q E s:=by
 cases ty with
 |non=>cases(show u=Value.none from rx);exact W.kia_one W.kitx_none I.aY True.intro e (λz=>nomatch z) h
 |bl y=>cases(show u=Value.bool y from rx);exact W.kia_one W.kitx_bool I.aY True.intro e (λz=>nomatch z) h
 |int i=>obtain⟨t,q⟩:=(show ∃ t,u=Value.int i t from rx);cases q;exact W.kia_one W.kitx_int I.aY True.intro e (λz=>nomatch z) h
 |str y=>obtain⟨t,q⟩:=(show ∃ t,u=Value.str y t from rx);cases q;exact W.kia_one W.kitx_str I.aY True.intro e (λz=>nomatch z) h
 |flt y=>obtain⟨t,q⟩:=(show ∃ t,u=Value.float y t from rx);cases q;exact W.kia_one W.kitx_float I.aY True.intro e (λz=>nomatch z) h
 | @lst a xs ea=>
  cases(show u=Value.ref a from rx);obtain⟨_,_,n,_,h1⟩:=(show ao X.prog X.w H s.heap a (.lst xs) from I.hok a _ ea);exact W.kia_one W.kitx_list I.aY ⟨_,h1,rfl⟩ e (λz=>nomatch z) h
 | @fZ a ob xs ea=>
  cases(show u=Value.ref a from rx);obtain⟨_,_,_,n,_,h1⟩:=(show ao X.prog X.w H s.heap a (.fZ ob (.lst xs)) from I.hok a _ ea);exact W.kia_one W.kitx_list I.aY ⟨_,h1,rfl⟩ e (λz=>nomatch z) h
 | @tup a xs ea=>
  cases(show u=Value.ref a from rx);obtain⟨_,_,_,p⟩:=(show ao X.prog X.w H s.heap a (.tup xs) from I.hok a _ ea);obtain⟨o,h1,h2,_⟩:=p;exact W.kia_one W.kitx_tuple I.aY ⟨o,h1,h2⟩ e (λz=>nomatch z) h
 | @dK a kvs ea=>
  cases(show u=Value.ref a from rx);obtain⟨_,_,vs,_,p⟩:=(show ao X.prog X.w H s.heap a (.dK kvs) from ea.ok I.hok);obtain⟨o,es,ep,h1,h2,_⟩:=p;exact W.kia_one W.kitx_dict I.aY ⟨o,h1,h2.1⟩ e (λz=>nomatch z) h
 | @dT a kvs ea=>
  cases(show u=Value.ref a from rx);obtain⟨_,_,xs,_,o,es,ep,h1,h2,_⟩:=(show ao X.prog X.w H s.heap a (.dT kvs) from I.hok a _ ea);exact W.kia_one W.kitx_dict I.aY ⟨o,h1,h2.1⟩ e (λz=>nomatch z) h
 | @ins a C dx fs ea cl ha hn htk hm=>
  cases(show u=Value.ref a from rx);obtain⟨mA,O,_⟩:=dm I.hok ea;obtain⟨od,J,_⟩:=O.look;exact W.kia_one (W.kitx_own (cl.get _) cl.hd ha hn htk hm) I.aY J e (λz=>nomatch z) h
end
structure aX (k:Nat) (A:Around):Prop where
 hd:A.handled=none
 dp:A.depth+3*k+5<recursionLimit
 un:A.units+16*k+200<cLine
def aX.mono {j:Nat}(r:aX k A)(h:j<=k):aX j A:=⟨r.hd,by have:=r.dp;omega,by have:=r.un;omega⟩
def aX.deeper (r:aX (k+1) A)(env:Env):aX k (A.deeper env):=
 ⟨r.hd,by have:=r.dp;show A.depth+1+3*k+5<_;omega,by have:=r.un;show A.units+3+16*k+200<_;omega⟩
def l6:(A.under (.builtin "type.__call__" ⟨.ref C::us,kw⟩)).depth=A.depth+1:=by
 first|rfl|simp[Around.under,Code.weight,Code.isCreation,Code.isGuard,Code.isCaller,Code.frames,Code.isFrame,guardIds]
def mY:(A.under (.builtin "type.__call__" ⟨.ref C::us,kw⟩)).units=A.units+1:=by
 first|rfl|simp[Around.under,Code.cUnits,Code.frames,Code.isFrame]
def aX.make (r:aX (k+1) A)(C:Addr)(us:List Value)(kw:List (Str×Value)):aX k (A.under (.builtin "type.__call__" ⟨.ref C::us,kw⟩)):=
 ⟨r.hd,by have:=r.dp;rw[l6];omega,by have:=r.un;rw[mY];omega⟩
def aX.depth (r:aX k A):A.depth<recursionLimit:=by have:=r.dp;omega
abbrev wm:TA:=λ_ H Q=>Q [] H
abbrev xA (ta:TE)(tr:TA):TA:=λU H Q=>ta U H λx H1=>tr U H1 λxs H2=>Q (x::xs) H2
section
variable {X:Cx}{e:Expr}{es:List Expr}{te:TE}{t:TA}{pos:Pos}
def cX:PA X [] wm:=λ_ _ _ _ H Q I h=>Calls.spliced_nil ⟨[],H,I,.nil,h⟩
def xh (ha:PE X e te)(hr:PA X es t)(hs:bm (e::es) X.env=(false,eval e X.env)::bm es X.env:=by rfl):PA X (e::es) (xA te t):=by
 intro pos Y s U H Q I h;rw[hs];show wpAny _ _ (spliced ((false,eval e X.env)::backTo pos (bm es X.env))) _ _ s;refine Calls.spliced_cons (au (ha Y s U H _ I h) λu s1 ⟨x,H1,I1,r1,q1⟩=>?_);exact au (hr pos Y s1 U H1 _ I1 q1) λus s2 ⟨xs,H2,I2,r2,q2⟩=>⟨x::xs,H2,I2,.cons r1 r2,q2⟩
abbrev C3 (t:TA):TE:=λU H Q=>t U H λxs H1=>xs.length<=bn/\∀ p,H1 p=none->Q (.ref p) (upd H1 p (.tup xs))
abbrev Du (t:TA):TE:=λU H Q=>t U H λxs H1=>xs.length<=bn/\∀ p,H1 p=none->Q (.ref p) (upd H1 p (.lst xs))
def rM {x1} (h:PA X es t):PE X (.Tuple es x1 pos) (C3 t):=by
 intro Y s U H Q I hq;refine wpAny_Tuple_spliced (au (h pos Y s U H _ I hq) λus s1 ⟨xs,H1,I1,r,z,q⟩=>⟨by rw[<-r.length];exact z,?_⟩);have hf:H1 s1.heap.objs.size=none:=I1.hok.fresh (pc _);refine⟨.ref s1.heap.objs.size,upd H1 s1.heap.objs.size (.tup xs),I1.laid (t':=s1.toks) (λb u e=>sn _ e) (pc _) ?_,rfl,q _ hf⟩;exact⟨z,us,r,⟨_,sw _ rfl,rfl,_,rfl⟩⟩
def zq (h:PA X es t):PE X (.List es pos) (Du t):=by
 intro Y s U H Q I hq;refine wpAny_List_spliced (au (h pos Y s U H _ I hq) λus s1 ⟨xs,H1,I1,r,z,q⟩=>⟨by rw[<-r.length];exact z,?_⟩);have hf:H1 s1.heap.objs.size=none:=I1.hok.fresh (pc _);refine⟨.ref s1.heap.objs.size,upd H1 s1.heap.objs.size (.lst xs),I1.laid (t':=s1.toks) (λb u e=>sn _ e) (pc _) ?_,rfl,q _ hf⟩;exact⟨z,us,0,r,sw _ rfl⟩
end
@[reducible]def Sp:=List V->Hp->VK->XK->Prop
@[reducible]def mf:=List Env->Hp->Shared->XK->Value->Shared->Prop
structure lX (P:Program) (w:World) (K:W.Frag) (mg:EN) (base:Heap) (A:Around) (outer:List Env) (s:Shared) (H:Hp):Prop where
 frames:A.frames=some outer
 mod:Mod K mg base
 bs:∀ b o,base.get? b=some o->s.heap.get? b=some o/\H b=none
 bsz:base.objs.size<=s.heap.objs.size
 gf:s.heap.FunFrames base outer
 frf:∀ b ∈ jh outer,H b=none
 hok:dN P w H s.heap
 bare:AllBare s.gens
abbrev CE (outer:List Env)(P:Program)(w:World)(H:Hp)(s:Shared)(Q:VK)(u:Value)(s':Shared):Prop:=
 ∃ v H',s'.os=s.os/\AllBare s'.gens/\Un (jh outer) [] H H' s.heap s'.heap/\dN P w H' s'.heap/\RelV v u/\Q v H'
abbrev CR (CX:mf)(outer:List Env)(P:Program)(w:World)(H:Hp)(s:Shared)(Q:VK)(E:XK)(r:Result)(s':Shared):Prop:=
 match r with
 | .ok (.ret u)=>CE outer P w H s Q u s'
 | .ok _=>False
 | .error e=>CX outer H s E e s'
structure bV (P:Program) (w:World) (K:W.Frag) (mg:EN) (base:Heap) (CX:mf) (k:Nat) (f:Addr) (fd:FuncData) (ps:List Str) (sp:Sp):Prop where
 len:∀ vs H Q E,sp vs H Q E->vs.length=ps.length
 run:∀ (A:Around) (outer:List Env) (s:Shared) (H:Hp) (args:Args) (us:List Value) (vs:List V) (Q:VK) (E:XK),aX k A->lX P w K mg base A outer s H->BindsTo s fd args (ps.zip us)->Vals vs us->sp vs H Q E->
  codeAny (model P w) A (.call (.ref f) args) (CR CX outer P w H s Q E) s
variable {mg:EN}{base:Heap}{CX:mf}{fd:FuncData}{ps:List Str}
def bV.imp {f:Addr}{sp sp':Sp}(F:bV P w K mg base CX k f fd ps sp)
  (h:∀ vs H Q E,sp' vs H Q E->sp vs H Q E):bV P w K mg base CX k f fd ps sp':=
 ⟨λvs H Q E q=>F.len vs H Q E (h _ _ _ _ q),λA outer s H args us vs Q E hr he hb hv hs=>F.run A outer s H args us vs Q E hr he hb hv (h _ _ _ _ hs)⟩
variable {outer:List Env}
def lX.make (e:lX P w K mg base A outer s H)(C:Addr)(us:List Value)(kw:List (Str×Value)):
  lX P w K mg base (A.under (.builtin "type.__call__" ⟨.ref C::us,kw⟩)) outer s H:=⟨by first|exact e.frames|(simpa[Around.under,Code.envs,Code.isFrame,pushEnvs] using e.frames),e.mod,e.bs,e.bsz,e.gf,e.frf,e.hok,e.bare⟩
section
variable {X:Cx}{Y:EM}{U:St}{H:Hp}{s s':Shared}
def Inv.fg (I:Inv X Y U H s):lX X.prog X.w X.K X.mg X.base X.A X.stack s H:=
 ⟨I.ok.frames,I.ok.mod,I.bs,Nat.le_trans I.ok.bsz I.sz,I.stack,I.jt,I.hok,I.bare⟩
def Inv.after {Q:VK}(I:Inv X Y U H s)(h:CE X.stack X.prog X.w H s Q u s'):EP X Y U Q u s':=by
 obtain⟨v,H',os,bare,un,hok,r,q⟩:=h;obtain⟨hh,g,d,t,os'⟩:=s';obtain rfl:os'=s.os:=os;exact⟨v,H',I.call (h':=hh) (g':=g) (d':=d) (t':=t) (ch:=[]) un hok bare (λb z=>absurd z (by simp)),r,q⟩
end
abbrev tP (sp:Sp)(dvs:List V)(E:St->XK)(t:TA):TE:=λU H Q=>t U H λvs H1=>sp (vs++dvs) H1 Q (E U)
abbrev xN (C:Addr)(sp:Sp)(dvs:List V)(E:St->XK)(t:TA):TE:=λU H Q=>t U H λvs H1=>∀ x dx,H1 x=none->H1 dx=none->dx≠x->
 sp (.ref x::(vs++dvs)) (upd (upd H1 dx (.own x)) x (.ins C dx [])) (λv H2=>v=.non/\Q (.ref x) H2) (E U)
abbrev Binds (K:W.Frag)(fd:FuncData)(ps:List Str)(ds:List Value):Prop:=
 ∀ (s:Shared) (us:List Value),K.In s.heap->(us++ds).length=ps.length->BindsTo s fd ⟨us,[]⟩ (ps.zip (us++ds))
def Binds.all (h:∀ us:List Value,us.length=ps.length->bindArgs fd ⟨us,[]⟩=pure (ps.zip us)):Binds K fd ps []:=λs us _ hl=>by
 rw[append_nil]at hl⊢;exact .of_eq (h us hl)
abbrev Passes (CX:mf)(X:Cx)(E:St->XK):Prop:=∀ (Y:EM) (U:St) (H:Hp) (s:Shared) (e:Value) (s':Shared),Inv X Y U H s->CX X.stack H s (E U) e s'->X.xe e s'
variable {vs:List V}
section
variable {X:Cx}{CX:mf}{k:Nat}{f C:Addr}{fd:FuncData}{ps:List Str}{sp:Sp}{dvs:List V}{ds:List Value}{E:St->XK}{x m:Str}{p pos apos:Pos}{e o:Expr}{es:List Expr}{ta:TE}{t:TA}
def gT {Q:VK}(F:bV X.prog X.w X.K X.mg X.base CX k f fd ps sp)(hr:aX k X.A)(hb:Binds X.K fd ps ds)(hd:Vals dvs ds)(hx:Passes CX X E)
  (I:Inv X Y U H s) (r:Vals vs us) (h:sp (vs++dvs) H Q (E U)):wpAny (model X.prog X.w) X.A (call (.ref f) us) (EP X Y U Q) X.xe s:=by
 have r2:Vals (vs++dvs) (us++ds):=r.append hd;have hl:(us++ds).length=ps.length:=by rw[<-r2.length];exact F.len _ _ _ _ h
 refine wpAny_call (codeAny_mono (F.run X.A X.stack s H ⟨us,[]⟩ (us++ds) (vs++dvs) Q (E U) hr I.fg (hb s us I.aY hl) r2 h) λr s' hq=>?_);cases r with
 |error e=>exact hx Y U H s e s' I hq
 |ok fl=>
  cases fl with
  |ret u=>exact I.after hq
  |next=>exact False.elim hq
  |brk=>exact False.elim hq
  |cont=>exact False.elim hq
def vK (F:bV X.prog X.w X.K X.mg X.base CX k f fd ps sp)(hr:aX k X.A)(hg:Gl X x)(hm:X.mg x=some (.ref f))(hk:W.keepIn X.K (.ref f)=true)(hb:Binds X.K fd ps ds)(hd:Vals dvs ds)(hx:Passes CX X E)
  (ha:PA X (e::es) t) (hdb:(x ==("__debug__":Str))=false:=by decide) (he:bm (e::es) X.env=(false,eval e X.env)::bm es X.env:=by rfl) (hpl:(backTo pos (bm es X.env)).any (·.1)=false:=by rfl):
  PE X (.Call (.Name x p) (e::es) [] pos) (tP sp dvs E t):=by
 intro Y s U H Q I h;refine bv (aO I hg hm ?_ hdb);refine W.callWith_K (h₀:=X.base) I.ok.mod.kin hk (au (ha pos Y s U H _ I h) λus s1 ⟨vs,H1,I1,r,q⟩=>⟨I1.aY,?_⟩) he hpl;exact gT F hr hb hd hx I1 r q
def so (F:bV X.prog X.w X.K X.mg X.base CX k f fd ps sp)(hr:aX k X.A)(hg:Gl X x)(hm:X.mg x=some (.ref f))(hk:W.keepIn X.K (.ref f)=true)(hb:Binds X.K fd ps ds)(hd:Vals dvs ds)(hx:Passes CX X E)
  (hdb:(x ==("__debug__":Str))=false:=by decide):PE X (.Call (.Name x p) [] [] pos) (tP sp dvs E wm):=by
 intro Y s U H Q I h;refine bv (aO I hg hm ?_ hdb);exact W.callWith_K0 I.aY hk (gT (us:=[]) F hr hb hd hx I .nil h)
structure Mk (K:W.Frag) (C f:Addr):Prop where
 makes:W.makesIn K C=true
 init:W.findIn K (.ref C) "__init__"=some (some (.ref f))
 fn:W.isFn K (.ref f)=true
 kp:W.keepIn K (.ref C)=true
def k7 {Q:VK}(M:Mk X.K C f)(F:bV X.prog X.w X.K X.mg X.base CX k f fd ps sp)(hr:aX (k+1) X.A)(hb:Binds X.K fd ps ds)(hd:Vals dvs ds)
  (hx:Passes CX X E) (I:Inv X Y U H s) (r:Vals vs us)
  (h:∀ x dx,H x=none->H dx=none->dx≠x->sp (.ref x::(vs++dvs)) (upd (upd H dx (.own x)) x (.ins C dx [])) (λv H2=>v=.non/\Q (.ref x) H2) (E U)):
  wpAny (model X.prog X.w) X.A (call (.ref C) us) (EP X Y U Q) X.xe s:=by
 have hq:=h (s.heap.objs.size+1) s.heap.objs.size (I.hok.fresh (Nat.le_succ _)) (I.hok.fresh (pc _)) (nw (Nat.lt_succ_self _));have I2:=Inv.made (C:=C) I;have r2:Vals (V.ref (s.heap.objs.size+1)::(vs++dvs)) (Value.ref (s.heap.objs.size+1)::(us++ds)):=.cons rfl (r.append hd);have hl:(Value.ref (s.heap.objs.size+1)::us++ds).length=ps.length:=by
  have e:=r2.length;rw[F.len _ _ _ _ hq]at e;exact e.symm
 refine wpAny_call (qM (f:=f) I.aY M.makes M.init (beq_iff_eq.mp M.fn) (codeAny_mono (F.run _ X.stack _ _ ⟨Value.ref (s.heap.objs.size+1)::us,[]⟩ (Value.ref (s.heap.objs.size+1)::(us++ds)) _ _ (E U) (hr.make C us [])
  (I2.fg.make C us []) (hb _ (Value.ref (s.heap.objs.size+1)::us) I2.aY hl) r2 hq) λr s' hq'=>?_))
 cases r with
 |error e=>exact hx Y U _ _ e s' I2 hq'
 |ok fl=>
  cases fl with
  |ret u=>
   obtain⟨v,H',I3,rv,ev,q3⟩:=I2.after hq';subst ev;exact⟨rv,⟨V.ref (s.heap.objs.size+1),H',I3,rfl,q3⟩⟩
  |next=>exact False.elim hq'
  |brk=>exact False.elim hq'
  |cont=>exact False.elim hq'
def w8 (M:Mk X.K C f)(F:bV X.prog X.w X.K X.mg X.base CX k f fd ps sp)(hr:aX (k+1) X.A)(hg:Gl X x)(hm:X.mg x=some (.ref C))(hb:Binds X.K fd ps ds)(hd:Vals dvs ds)(hx:Passes CX X E)
  (ha:PA X (e::es) t) (hdb:(x ==("__debug__":Str))=false:=by decide) (he:bm (e::es) X.env=(false,eval e X.env)::bm es X.env:=by rfl) (hpl:(backTo pos (bm es X.env)).any (·.1)=false:=by rfl):
  PE X (.Call (.Name x p) (e::es) [] pos) (xN C sp dvs E t):=by
 intro Y s U H Q I h;refine bv (aO I hg hm ?_ hdb);refine W.callWith_K (h₀:=X.base) I.ok.mod.kin M.kp (au (ha pos Y s U H _ I h) λus s1 ⟨vs,H1,I1,r,q⟩=>⟨I1.aY,?_⟩) he hpl;exact k7 M F hr hb hd hx I1 r q
def se (M:Mk X.K C f)(F:bV X.prog X.w X.K X.mg X.base CX k f fd ps sp)(hr:aX (k+1) X.A)(hg:Gl X x)(hm:X.mg x=some (.ref C))(hb:Binds X.K fd ps ds)(hd:Vals dvs ds)(hx:Passes CX X E)
  (hdb:(x ==("__debug__":Str))=false:=by decide):PE X (.Call (.Name x p) [] [] pos) (xN C sp dvs E wm):=by
 intro Y s U H Q I h;refine bv (aO I hg hm ?_ hdb);exact W.callWith_K0 I.aY M.kp (k7 (us:=[]) M F hr hb hd hx I .nil h)
end
section
variable {X:Cx}{CX:mf}{k:Nat}{f C:Addr}{fd:FuncData}{ps ks:List Str}{sp:Sp}{E:St->XK}{x m:Str}{p pos apos kpos:Pos}{e o:Expr}{es:List Expr}{kws:List Keyword}{te ta:TE}{t tk:TA}{nm:Option Str}
variable {g:List Value->List Value->List Value}{gV:List V->List V->List V}
end
structure gi (N P:List Str) (sc:Scope):Prop where
 kind:sc.kind=.function
 co:sc.isCoroutine=false
 gen:sc.isGenerator=false
 nd:N.Nodup
 pre:N.take P.length=P
 par:∀ x ∈ P,sc.names.lookup x=some .local\/sc.names.lookup x=some .cell
 nofree:∀ y ∈ sc.names,y.2≠.free
def iY {kindOf:Str->Option NameKind}{x:Str}:∀ {binds:List (Str×Value)}{m:EN},(∀ v,(x,v) ∉ binds)->bindL kindOf binds m x=m x
 | [],_,_=>rfl
 |(n,v)::r,m,h=>by
  unfold bindL;rw[iY λw hw=>h w (dl _ hw)]
  split
  .have:x≠n:=by rintro rfl;exact h v lf
   simp[this]
  .rfl
def i7 {kindOf:Str->Option NameKind}{x:Str}:∀ {binds:List (Str×Value)}{m:EN},(∀ v,(x,v) ∉ binds)->bindC kindOf binds m x=m x
 | [],_,_=>rfl
 |(n,v)::r,m,h=>by
  unfold bindC;rw[i7 λw hw=>h w (dl _ hw)]
  split
  .rfl
  .have:x≠n:=by rintro rfl;exact h v lf
   simp[this]
def iM {kindOf:Str->Option NameKind}{x:Str}{v:Value}:∀ {P:List Str}{vs:List Value}{i:Nat}{m:EN},P.Nodup->P[i]? =some x->vs[i]? =some v->kindOf x=some .local->
  bindL kindOf (P.zip vs) m x=some v
 | [],_,_,_,_,h,_,_=>by simp at h
 |_::_,[],_,_,_,_,h,_=>by simp at h
 |p::P,w::vs,0,m,nd,h1,h2,hk=>by
  simp at h1 h2;subst h1;subst h2;show bindL kindOf ((p,w)::P.zip vs) m p=_;unfold bindL;rw[iY λv hv=>(nodup_cons.mp nd).1 (of_mem_zip hv).1,if_pos hk];simp
 |p::P,w::vs,i+1,m,nd,h1,h2,hk=>by
  show bindL kindOf ((p,w)::P.zip vs) m x=_;unfold bindL;exact iM (i:=i) (nodup_cons.mp nd).2 (by simpa using h1) (by simpa using h2) hk
def iN {kindOf:Str->Option NameKind}{x:Str}{v:Value}:∀ {P:List Str}{vs:List Value}{i:Nat}{m:EN},P.Nodup->P[i]? =some x->vs[i]? =some v->kindOf x≠some .local->
  bindC kindOf (P.zip vs) m x=some v
 | [],_,_,_,_,h,_,_=>by simp at h
 |_::_,[],_,_,_,_,h,_=>by simp at h
 |p::P,w::vs,0,m,nd,h1,h2,hk=>by
  simp at h1 h2;subst h1;subst h2;show bindC kindOf ((p,w)::P.zip vs) m p=_;unfold bindC;rw[i7 λv hv=>(nodup_cons.mp nd).1 (of_mem_zip hv).1,if_neg hk];simp
 |p::P,w::vs,i+1,m,nd,h1,h2,hk=>by
  show bindC kindOf ((p,w)::P.zip vs) m x=_;unfold bindC;exact iN (i:=i) (nodup_cons.mp nd).2 (by simpa using h1) (by simpa using h2) hk
abbrev start (N:List Str)(vs:List V):St:=vs.map some++re (N.length-vs.length) none
abbrev pZ (CX:mf)(P:Program)(w:World)(K:W.Frag)(mg:EN)(base:Heap)(N:List Str)(qual:Str)(scope:Scope)(f:Addr)(cd:Value)(A:Around)(outer:List Env)(s:Shared)(H:Hp)(E:XK):Cx where
 prog:=P
 w:=w
 K:=K
 mg:=mg
 base:=base
 A:=A.deeper (envOfC qual scope s.heap.objs.size f cd)
 N:=N
 s₀:=s
 H₀:=H
 env:=envOfC qual scope s.heap.objs.size f cd
 outer:=outer
 stack:=envOfC qual scope s.heap.objs.size f cd::outer
 ex:=[]
 calm:=true
 fn:=λ_=>true
 pn:=[]
 xe:=λe s'=>wpAny (model P w) (A.deeper (envOfC qual scope s.heap.objs.size f cd)) (leaving (envOfC qual scope s.heap.objs.size f cd) e) (λ_ s''=>CX outer H s E e s'') (λe' s''=>CX outer H s E e' s'') s'
def lp {sc:Scope}{n:Nat}(h:sc.names.lookup x=some .cell):∃ c,(cellsFrom n sc.names []).lookup x=some c:=by
 have q:=W.cellsFrom_some sc.names n [] (.inl h);exact Option.isSome_iff_exists.mp q
variable {scope:Scope}
def pJ {N:List Str}{qual:Str}{f:Addr}{cd:Value}{s1:Shared}{E:XK}
  (S:gi N ps scope) (hd:A.handled=none) (e0:lX P w K mg base A outer s H) (hl:vs.length=ps.length) (r:Vals vs us)
  (x:InCallC s s.heap.objs.size (bindL (envOfC qual scope s.heap.objs.size f cd).kindOf (ps.zip us) λ_=>none) (cellsFrom (s.heap.objs.size+1) scope.names []) (bindC (envOfC qual scope s.heap.objs.size f cd).kindOf (ps.zip us) λ_=>none) s1):
  Inv (pZ CX P w K mg base N qual scope f cd A outer s H E) [] (start N vs) H s1:=by
 have hpl:ps.length<=N.length:=by have:=congrArg List.length S.pre;rw[db]at this;omega
 obtain⟨h1,tk,rfl,hk⟩:=x.done;have noA:∀ b:Addr,b ∉ (pZ CX P w K mg base N qual scope f cd A outer s H E).ex:=λb z=>absurd (show b ∈ ([]:List Addr) from z) (by simp)
 refine⟨⟨e0.mod,S.kind,rfl,rfl,pc _,λy z c h1 h2=>?_,λy hy=>?_,λy c _ h=>?_,λ_=>hd,Around.frames_deeper e0.frames,.inr ⟨rfl,rfl⟩,λb z=>absurd z (noA b),e0.bs,e0.bsz,λb _ _=>noA b,λb z=>absurd z (noA b),e0.gf,e0.frf⟩,
  rfl,e0.bare,Un.kept hk,⟨_,x.toInCall.ns,λi y v h1 h2 h3=>?_⟩,λy c h=>⟨_,x.cell y c h⟩,e0.hok.fresh (pc _),λy c h=>?_,λp hp=>absurd (show p ∈ ([]:EM) from hp) (by simp),e0.hok.kept hk,?_⟩
 .exact name_of_addr x.apart (PySem.mem_of_lookup h1) (PySem.mem_of_lookup h2)
 .have hy:scope.names.lookup y=some .cell\/scope.names.lookup y=some .free:=hy;rcases hy with hy|hy
  .exact lp hy
  .exact absurd rfl (S.nofree _ (PySem.mem_of_lookup hy))
 .exact Nat.le_of_lt (x.above y c (PySem.mem_of_lookup h))
 .have hi:i<vs.length:=by
   unfold start at h2
   by_cases hi:i<vs.length
   .exact hi
   .rw[getElem?_append_right (by simpa using hi)]at h2;rw[List.getElem?_replicate]at h2
    split at h2<;>cases h2
  have ha:vs[i]? =some v:=by
   unfold start at h2;rw[getElem?_append_left (by simpa using hi),ii]at h2;cases e:vs[i]? with
   |none=>rw[e]at h2;cases h2
   |some a=>rw[e]at h2;cases h2;rfl
  obtain⟨u,hu,rv⟩:=r.get ha;have hp:ps[i]? =some y:=by
   rw[<-S.pre,List.getElem?_take_of_lt nofun];exact h1
  have ndP:ps.Nodup:=by rw[<-S.pre];exact S.nd.sublist (take_sublist _ _)
  refine⟨u,rv,?_⟩;rcases S.par y (cr hp) with k|k
  .exact .inl ⟨k,iM ndP hp hu k⟩
  .obtain⟨c,e⟩:=lp (n:=s.heap.objs.size+1) k;refine .inr ⟨.inl k,c,e,?_⟩;have q:=x.cell y c e;rw[iN ndP hp hu (by show scope.names.lookup y≠_;rw[k];decide)]at q;exact q
 .exact e0.hok.fresh (Nat.le_of_lt (x.above y c (PySem.mem_of_lookup h)))
 .unfold start;show _=N.length;rw[ci,ce,length_replicate]
  omega
def BR {f:Addr}{name qual:Str}{params:Arguments}{dV kV doc pm cdv ct oc:Value}{an od:Option Addr}
  {osl:Array (Option Value)}{N:List Str}{sp:Sp}(lk:K.lookup f=some ⟨oc,od,.func (W.fnOf name qual params body scope dV kV doc pm an cdv ct),osl⟩) (hcd:W.codeIn K cdv qual=true) (S:gi N ps scope)
  (len:∀ vs H Q E,sp vs H Q E->vs.length=ps.length)
  (hbody:∀ (A:Around) (outer:List Env) (s:Shared) (H:Hp) (vs:List V) (Q:VK) (E:XK),aX k (A.deeper (envOfC qual scope s.heap.objs.size f cdv))->sp vs H Q E->
   ∃ t,x6 (pZ CX P w K mg base N qual scope f cdv A outer s H E) body t/\t { nx:=λ_ H'=>Q .non H',rt:=Q } (start N vs) H):
  bV P w K mg base CX (k+1) f (W.fnOf name qual params body scope dV kV doc pm an cdv ct) ps sp:=by
 refine⟨len,λA outer s H args us vs Q E hr e0 hb r hsp=>?_⟩;have hl:=len _ _ _ _ hsp;have KX:K.In s.heap:=e0.mod.kin.keeps λb o e=>(e0.bs b o e).1
 have lim:s.heap.NoLimit:=e0.mod.nolimit.keeps λb o e=>(e0.bs b o e).1
 have hkind:∀ y ∈ ps.zip us,scope.names.lookup y.1=some .local\/(scope.names.lookup y.1=some .cell/\((cellsFrom (s.heap.objs.size+1) scope.names []).lookup y.1).isSome=true):=λ⟨n,v⟩ hy=>by
  rcases S.par n (of_mem_zip hy).1 with q|q
  .exact .inl q
  .exact .inr ⟨q,W.cellsFrom_some _ _ _ (.inl q)⟩
 refine codeAny_call_function hr.depth (KX _ _ lk) rfl S.co S.gen rfl (W.codeRec_of KX hcd) (hb _ _ _ _ ?_);refine wpAny_newFunctionEnv_cells S.kind hkind λenv he s1 x=>?_
 subst he;refine⟨lim.keeps x.toInCall.keep,codeAny_func ?_⟩;obtain⟨t,ht,hq⟩:=hbody A outer s H vs Q E (hr.deeper _) hsp;have I:Inv (pZ CX P w K mg base N qual scope f cdv A outer s H E) [] (start N vs) H s1:=pJ S hr.hd e0 hl r x;refine wpAny_mono (ht [] s1 (start N vs) H _ I hq) (λfl s' hs=>?_) λe s' hs=>hs
 have fin:∀ {σ':St}{H':Hp}{v:V}{u:Value},Inv (pZ CX P w K mg base N qual scope f cdv A outer s H E) [] σ' H' s'->RelV v u->Q v H'->CE outer P w H s Q u s':=
  λ{σ' H' v u} J rv q=>⟨v,H',J.os,J.bare,J.base,J.hok,rv,q⟩
 cases fl with
 |ret u=>
  obtain⟨v,σ',H',J,rv,q⟩:=hs;exact fin J rv q
 |next=>
  obtain⟨σ',H',J,q⟩:=hs;exact fin (v:=V.non) (u:=Value.none) J rfl q
 |brk=>
  obtain⟨_,_,_,q⟩:=hs;exact False.elim q
 |cont=>
  obtain⟨_,_,_,q⟩:=hs;exact False.elim q
section
variable {X:Cx}{x:Str}{p pos:Pos}{e:Expr}{es:List Expr}{t:TA}{id T:String}{r:List V->Hp->VK->Prop}
abbrev DU (r:List V->Hp->VK->Prop)(t:TA):TE:=λU H Q=>t U H λvs H1=>r vs H1 Q
def gC (hc:bz X (.builtin id) r)(hg:Gl X x)(hm:X.mg x=none)(hv:bootBuiltins x=some (.builtin id))(ha:PA X (e::es) t)(hn:x≠"__name__":=by decide) (hdb:(x ==("__debug__":Str))=false:=by decide)
  (he:bm (e::es) X.env=(false,eval e X.env)::bm es X.env:=by rfl) (hpl:(backTo pos (bm es X.env)).any (·.1)=false:=by rfl):PE X (.Call (.Name x p) (e::es) [] pos) (DU r t):=by
 intro Y s U H Q I h;refine bv (cP I hg hm hv ?_ hn hdb);exact PyProof.Rows.callWith_builtin1 (au (ha pos Y s U H _ I h) λus s1 ⟨vs,H1,I1,r1,q1⟩=>hc Y s1 U H1 vs us Q I1 r1 q1) he hpl
def pM (hc:bz X (.type T) r)(hg:Gl X x)(hm:X.mg x=none)(hv:bootBuiltins x=some (.type T))(ha:PA X (e::es) t)(hn:x≠"__name__":=by decide) (hdb:(x ==("__debug__":Str))=false:=by decide)
  (he:bm (e::es) X.env=(false,eval e X.env)::bm es X.env:=by rfl) (hpl:(backTo pos (bm es X.env)).any (·.1)=false:=by rfl):PE X (.Call (.Name x p) (e::es) [] pos) (DU r t):=by
 intro Y s U H Q I h;refine bv (cP I hg hm hv ?_ hn hdb);exact PyProof.Rows.callWith_type1 (au (ha pos Y s U H _ I h) λus s1 ⟨vs,H1,I1,r1,q1⟩=>hc Y s1 U H1 vs us Q I1 r1 q1) he hpl
end
end L2
namespace HT
open PySem PyProof.Rows
section
open PySem.SeqAt
open PySem.AutoSeq1 (wpAny_loadPart')
open PySem.MeetsSeq PySem.MeetsSeq2 PySem.MeetsSeq3
end
section
variable {prog:Program}{w:World}{A:Around}{E:EL}{s:Shared}
def uY {t b:Addr}{vs ws:List Value}{Q:EL}(ht:IsTup s.heap t vs.toArray)(hb:IsTup s.heap b ws.toArray)(hv:vs≠[])
  (h1:ws=[]->Q (.ref t) s) (h2:ws≠[]->Q (.ref s.heap.objs.size) { s with heap:=s.heap.push { cls:=.type "tuple",data:=.seq (vs++ws).toArray } })
  (hsz:vs.length+ws.length<=bn):wpAny (model prog w) A (binaryOp .Add (.ref t) (.ref b)) Q E s:=by
 obtain⟨⟨cls,dd,data,sl⟩,ho,hc,n,hd⟩:=id ht;obtain⟨⟨cls2,dd2,data2,sl2⟩,ho2,hc2,n2,hd2⟩:=id hb;simp only at hc hd hc2 hd2;subst hc hd hc2 hd2;have e:vs.toArray++ws.toArray=(vs++ws).toArray:=by simp
 by_cases hw:ws=[]
 .exact concat_meets ⟨_,ho,rfl⟩ ⟨_,ho2,rfl⟩ noFill_tuple_add seq_tuple_add PySem.F.slot_tuple_add PySem.F.entry_tuple_add (PySem.F.args_tuple_add_2 _ _)
   (tuple_addW1 t b vs.toArray ws.toArray n n2 dd dd2 sl sl2 (by simpa using hv) (by simp[hw])) ⟨ho,ho2,h1 hw⟩
 .refine concat_meets ⟨_,ho,rfl⟩ ⟨_,ho2,rfl⟩ noFill_tuple_add seq_tuple_add PySem.F.slot_tuple_add PySem.F.entry_tuple_add (PySem.F.args_tuple_add_2 _ _)
   (tuple_addW2 t b vs.toArray ws.toArray n n2 dd dd2 sl sl2 (by simpa using hv) (by simpa using hw) (by rw[ge,ge];exact hsz)) ⟨ho,ho2,?_⟩
  rw[e];exact h2 hw
abbrev kY (n d:Nat):Option Int->Nat
 |none=>d
 |some v=>if v<0 then(v+(n:Int)).toNat else min v.toNat n
end
end HT
namespace L2
open PySem PySem.Spec PyProof.Rows
@[reducible]def TO:=St->Hp->(Option Int->Hp->Prop)->Prop
abbrev PO (X:Cx)(e:Option Expr)(t:TO):Prop:=
 ∀ (Y:EM) (s:Shared) (U:St) (H:Hp) (Q:Option Int->Hp->Prop),Inv X Y U H s->t U H Q->
  wpAny (model X.prog X.w) X.A (evalPart e X.env) (λu s'=>∃ o H',Inv X Y U H' s'/\IsPart u o/\Q o H') X.xe s
abbrev vF:TO:=λ_ H Q=>Q none H
abbrev BB (t:TE):TO:=λU H Q=>t U H λx H1=>∃ i,x=.int i/\Q (some i) H1
variable {us:List Value}
section
variable {X:Cx}{e:Expr}{te:TE}{lo hi:Option Expr}{tl th:TO}{pos p2:Pos}
def uZ:PO X none vF:=by
 intro Y s U H Q I h;rw[evalPart_none];exact am ⟨none,H,I,.none,h⟩
def wR (h:PE X e te):PO X (some e) (BB te):=by
 intro Y s U H Q I hw;rw[evalPart_some];refine au (h Y s U H _ I hw) λu s1 ⟨x,H1,I1,r1,q1⟩=>?_
 obtain⟨i,rfl,q⟩:=q1;obtain⟨t,rfl⟩:=r1;exact⟨some i,H1,I1,.int i t,q⟩
abbrev CI (X:Cx)(r:V->Option Int->Option Int->Hp->VK->Prop):Prop:=
 ∀ (Y:EM) (s:Shared) (U:St) (H:Hp) (x:V) (v vl vu:Value) (lo hi:Option Int) (sl:Addr) (Q:VK),Inv X Y U H s->RelV x v->s.heap.IsSliceOf sl vl vu .none->IsPart vl lo->IsPart vu hi->r x lo hi H Q->
  ∃ T id,typeLookup (.type T) "__getitem__"=pure (some (.builtin id))/\s.TypeIs v T/\wpAny (model X.prog X.w) X.A (getItem v (.ref sl)) (EP X Y U Q) X.xe s
abbrev Ey (r:V->Option Int->Option Int->Hp->VK->Prop)(te:TE)(tl th:TO):TE:=λU H Q=>te U H λx H1=>tl U H1 λl H2=>th U H2 λu H3=>r x l u H3 Q
def tm {r:V->Option Int->Option Int->Hp->VK->Prop}(hr:CI X r)(he:PE X e te)(hl:PO X lo tl)(hu:PO X hi th):PE X (.Subscript e (.Slice lo hi none p2) pos) (Ey r te tl th):=by
 intro Y s U H Q I h;refine Subscript_ (au (he Y s U H _ I h) λv s1 ⟨x,H1,I1,r1,q1⟩=>?_);refine wpAny_Slice (au (hl Y s1 U H1 _ I1 q1) λvl s2 ⟨l,H2,I2,pl,q2⟩=>au (hu Y s2 U H2 _ I2 q2) λvu s3 ⟨u,H3,I3,pu,q3⟩=>?_);rw[evalPart_none];refine am ?_;have I4:Inv X Y U H3 { s3 with heap:=s3.heap.push { cls:=.type "slice",data:=.fields #[vl,vu,.none] } }:=I3.kept (t':=s3.toks) λb ob q=>sn _ q
 obtain⟨T,id,hT,ht,hg⟩:=hr Y { s3 with heap:=s3.heap.push { cls:=.type "slice",data:=.fields #[vl,vu,.none] } } U H3 x v vl vu l u s3.heap.objs.size Q I4 r1 (Heap.IsSliceOf.new ..) pl pu q3;show wpAny (model X.prog X.w) X.A (subscriptTail e (.Slice lo hi none p2) v (.ref s3.heap.objs.size)) (EP X Y U Q) X.xe { s3 with heap:=s3.heap.push { cls:=.type "slice",data:=.fields #[vl,vu,.none] } };exact tail_any (ops:=[.ref s3.heap.objs.size,v]) ht hT hg (by with_unfolding_all rfl)
abbrev dq (xs:List V)(lo hi:Option Int):List V:=(xs.drop (HT.kY xs.length 0 lo)).take (HT.kY xs.length xs.length hi-HT.kY xs.length 0 lo)
def k8 (xs:List V)(lo hi:Option Int):(dq xs lo hi).length<=xs.length:=by
 unfold dq;rw[db,io]
 omega
abbrev sR (K:W.Frag):R2:=λx y H Q=>∃ a b xs ys,x=.ref a/\y=.ref b/\bp K H a xs/\bp K H b ys/\xs≠[]/\xs.length+ys.length<=bn/\
 (ys=[]->Q (.ref a) H)/\(ys≠[]->∀ p,H p=none->Q (.ref p) (upd H p (.tup (xs++ys))))
def Vals.jQ {xs:List V}(r:Vals xs us):us=[] ↔ xs=[]:=by
 cases r with
 |nil=>simp
 |cons _ _=>simp
def vI:bS X (binaryOp .Add) (sR X.K):=by
 intro Y s U H x y v u Q I rx ry h;obtain⟨a,b,xs,ys,rfl,rfl,ha,hb,hx,hz,q1,q2⟩:=h;cases rx;cases ry;obtain⟨its,r1,p1,_⟩:=I.tuple ha;obtain⟨gL,r2,p2,_⟩:=I.tuple hb;refine HT.uY p1 p2 (λz=>hx (r1.jQ.mp z)) (λz=>⟨.ref a,H,I,rfl,q1 (r2.jQ.mp z)⟩) (λz=>?_) (by rw[<-r1.length,<-r2.length];exact hz);refine⟨.ref s.heap.objs.size,_,I.laid (t':=s.toks) (o:=.tup (xs++ys)) (λb ob q=>sn _ q) (pc _) ?_,rfl,q2 (λw=>z (r2.jQ.mpr w)) _ (I.hok.fresh (pc _))⟩;exact⟨by rw[ci];exact hz,_,r1.append r2,IsTup.new _ _⟩
end
abbrev uO (n:Nat)(i:Int):Option Nat:=if 0<=i then(if i<n then some i.toNat else none) else if -(n:Int)<=i then some (i+n).toNat else none
variable {α:Type}
abbrev qH (xs:List α)(i:Int):Option α:=(uO xs.length i).bind λj=>xs[j]?
variable {n:Nat}
def og {i:Int}{j:Nat}(h:uO n i=some j):seqIndex? i n=some j/\j<n/\ -(n:Int)<=i/\i<n:=by
 unfold uO at h
 by_cases h0:0<=i
 .rw[if_pos h0]at h
  by_cases h1:i<n
  .rw[if_pos h1]at h;have e:i.toNat=j:=Option.some.inj h;exact⟨by rw[seqIndex_of h0 h1,e],by omega,by omega,h1⟩
  .rw[if_neg h1]at h;cases h
 .rw[if_neg h0]at h
  by_cases h1: -(n:Int)<=i
  .rw[if_pos h1]at h;have e:(i+n).toNat=j:=Option.some.inj h;exact⟨by rw[seqIndex_neg nofun h1,e],by omega,h1,by omega⟩
  .rw[if_neg h1]at h;cases h
def nN {xs:List α}{i:Int}{v:α}(h:qH xs i=some v):∃ j,seqIndex? i xs.length=some j/\xs[j]? =some v/\j<xs.length/\ -(xs.length:Int)<=i/\i<xs.length:=by
 unfold qH at h;cases e:uO xs.length i with
 |none=>rw[e]at h;cases h
 |some j=>
  rw[e]at h;obtain⟨h1,h2,h3,h4⟩:=og e;exact⟨j,h1,h,h2,h3,h4⟩
def n6 {xs:List α}{j:Nat}{v:α}(h:xs[j]? =some v):qH xs (j:Int)=some v:=by
 have hj:j<xs.length:=(s0.mp h).1;have e:uO xs.length (j:Int)=some j:=by
  unfold uO;rw[if_pos nofun,if_pos nofun];simp
 unfold qH;rw[e];exact h
abbrev nA (b:Expr):Prop:=∀ o i,subscripted b false o i=operate [o,i] (getItem o i)
abbrev BD (X:Cx)(r:R2):Prop:=
 ∀ (value slice:Expr) (Y:EM) (s:Shared) (U:St) (H:Hp) (x y:V) (v u:Value) (Q:VK),Inv X Y U H s->RelV x v->RelV y u->r x y H Q->
  subscripted slice false v u=operate [v,u] (getItem v u)->wpAny (model X.prog X.w) X.A (subscriptTail value slice v u) (EP X Y U Q) X.xe s
abbrev CM (X:Cx)(id:String)(r:V->List V->Hp->VK->Prop):Prop:=
 ∀ (Y:EM) (s:Shared) (U:St) (H:Hp) (x:V) (xs:List V) (v:Value) (us:List Value) (Q:VK),Inv X Y U H s->RelV x v->Vals xs us->r x xs H Q->
  wpAny (model X.prog X.w) X.A (call (.builtin id) (v::us)) (EP X Y U Q) X.xe s
variable {Y:EM}{U:St}{H:Hp}{s:Shared}{y:V}{u:Value}
section
variable {X:Cx}{a b:Expr}{ta tb:TE}{pos:Pos}
def A4 {r:R2}(hr:BD X r)(ha:PE X a ta)(hb:PE X b tb)(hs:nA b):PE X (.Subscript a b pos) (CJ r ta tb):=by
 intro Y s U H Q I h;exact Subscript_ (yr ha hb I h λv u s2 x y H2 I2 rx ry q=>hr a b Y s2 U H2 x y v u Q I2 rx ry q (hs _ _))
abbrev CQ (K:W.Frag):R2:=λx y H Q=>∃ p xs i v,x=.ref p/\y=.int i/\aK K H p xs/\qH xs i=some v/\Q v H
abbrev CY (K:W.Frag):R2:=λx y H Q=>∃ p xs i v,x=.ref p/\y=.int i/\bp K H p xs/\qH xs i=some v/\Q v H
def vD:BD X (CQ X.K):=by
 intro value slice Y s U H x y v u Q I rx ry h hs;obtain⟨p,xs,i,z,rfl,rfl,hq,he,q⟩:=h;cases rx;obtain⟨t,rfl⟩:=ry;obtain⟨its,r,pl,hz⟩:=I.list hq;obtain⟨j,h1,h2,h3,h4,h5⟩:=nN he;obtain⟨w,ew,rw'⟩:=r.get h2;have hl:=r.length;have hn:=dY;have fin:EP X Y U Q w s:=⟨z,H,I,rw',q⟩
 by_cases h0:0<=i
 .have hj:i.toNat=j:=by
   rw[seqIndex_of h0 h5]at h1;exact Option.some.inj h1
  exact item_listR pl.isList h0 nofun (by rw[hj];simpa using ew) fin hs
 .have hj:(i+(its.toArray.size:Int)).toNat=j:=by
   rw[seqIndex_neg nofun h4]at h1;rw[ge,<-hl];exact Option.some.inj h1
  exact subscriptTail_builtinR (x:=w) pl.isList.typeIs slot_list_getitem.lookup
   (wpAny_getItem_list_neg (Q:=λr s'=>r=w/\EP X Y U Q r s') pl.isList nofun (by rw[ge]<;>omega) nofun (by rw[hj];simpa using ew) ⟨rfl,fin⟩) hs
def yt:BD X (CY X.K):=by
 intro value slice Y s U H x y v u Q I rx ry h hs;obtain⟨p,xs,i,z,rfl,rfl,hq,he,q⟩:=h;cases rx;obtain⟨t,rfl⟩:=ry;obtain⟨its,r,pl,hz⟩:=I.tuple hq;obtain⟨j,h1,h2,h3,h4,h5⟩:=nN he;obtain⟨w,ew,rw'⟩:=r.get h2;have hl:=r.length;have hn:=dY;have fin:EP X Y U Q w s:=⟨z,H,I,rw',q⟩;exact subscriptTail_builtinR (x:=w) pl.typeIs slot_tuple_getitem.lookup
  (getItem_tuple (j:=j) (Q:=λr s'=>r=w/\EP X Y U Q r s') pl nofun nofun (by rw[ge,<-hl];exact h1) (by simpa using ew) ⟨rfl,fin⟩) hs
def l8 (its:List Value)(n j:Nat)(u:Value):Obj.mapSeq (·.setIfInBounds j u) { cls:=.type "list",data:=.seq its.toArray n }={ cls:=.type "list",data:=.seq (its.set j u).toArray n }:=by
 simp[Obj.mapSeq]
def Inv.lst {Y:EM}{U:St}{H:Hp}{s:Shared}{p:Addr}{xs:List V}(I:Inv X Y U H s)(h:H p=some (.lst xs)):
  ∃ (its:List Value) (n:Nat),Vals xs its/\s.heap.get? p=some { cls:=.type "list",data:=.seq its.toArray n }/\xs.length<=bn:=by
 obtain⟨z,its,n,r,e⟩:=I.hok p _ h;exact⟨its,n,r,e,z⟩
def Inv.An {p:Addr}{xs ys:List V}{its its':List Value}{n':Nat}{f:Obj->Obj}(I:Inv X Y U H s)(h:H p=some (.lst xs))
  (ho:s.heap.get? p=some { cls:=.type "list",data:=.seq its.toArray n }) (hf:f { cls:=.type "list",data:=.seq its.toArray n }={ cls:=.type "list",data:=.seq its'.toArray n' }) (r:Vals ys its') (hz:ys.length<=bn) (t:Nat):
  Inv X Y U (upd H p (.lst ys)) { s with heap:=s.heap.update p f,toks:=t }:=by
 have e:(s.heap.update p f).get? p=some { cls:=.type "list",data:=.seq its'.toArray n' }:=by
  rw[Heap.get?_update_self f ho (by rw[hf]<;>rfl),hf]
 refine I.write (x:=p) (e:=p) (by rw[h];trivial) (.inl rfl) (λb u hb q=>(Heap.get?_update_other _ _ (Ne.symm hb)).trans q) ⟨_,e⟩ ?_;exact⟨hz,its',n',r,e⟩
abbrev Bl:V->V->V->Hp->(Hp->Prop)->Prop:=λo i v H Q=>∃ p xs k j,o=.ref p/\i=.int k/\H p=some (.lst xs)/\uO xs.length k=some j/\Q (upd H p (.lst (xs.set j v)))
def set_list:xa X Bl:=by
 intro Y s U H o i v ov iv u Q I ro ri rv h;obtain⟨p,xs,k,j,rfl,rfl,hp,hj,q⟩:=h;cases ro;obtain⟨t,rfl⟩:=ri;obtain⟨its,n,r,ho,hz⟩:=I.lst hp;obtain⟨h1,h2,h3,h4⟩:=og hj;have hl:=r.length;have hn:=dY;have I':Inv X Y U (upd H p (.lst (xs.set j v))) { s with heap:=s.heap.update p (Obj.mapSeq (·.setIfInBounds j u)) }:=
  I.An hp ho (l8 its n j u) (r.set rv j) (by rw[length_set];exact hz) s.toks
 by_cases h0:0<=k
 .have hk:k.toNat=j:=by
   rw[seqIndex_of h0 h4]at h1;exact Option.some.inj h1
  exact W.ki_setAt ho h0 nofun (by rw[ge,<-hl];exact h4) (by rw[hk];exact⟨_,I',q⟩)
 .have hk:(k+(its.toArray.size:Int)).toNat=j:=by
   rw[seqIndex_neg nofun h3]at h1;rw[ge,<-hl];exact Option.some.inj h1
  exact W.ki_setBack ho nofun (by rw[ge,<-hl];exact h3) nofun (by rw[hk];exact⟨_,I',q⟩)
def jP (lo hi:Option Int)(n:Nat):(sliceBounds lo hi none n).1=((HT.kY n 0 lo:Nat):Int)/\(sliceBounds lo hi none n).2.1=((HT.kY n n hi:Nat):Int)/\(sliceBounds lo hi none n).2.2=1:=by
 refine⟨?_,?_,rfl⟩
 .cases lo with
  |none=>simp[sliceBounds,HT.kY]
  |some i=>
   simp only[sliceBounds,HT.kY,Option.getD_none,show(1:Int)>0 by decide,if_true]
   by_cases h:i<0
   .simp only[h,if_true]<;>omega
   .simp only[h,if_false]<;>omega
 .cases hi with
  |none=>simp[sliceBounds,HT.kY]
  |some i=>
   simp only[sliceBounds,HT.kY,Option.getD_none,show(1:Int)>0 by decide,if_true]
   by_cases h:i<0
   .simp only[h,if_true]<;>omega
   .simp only[h,if_false]<;>omega
def iw (its:List Value)(lo hi:Option Int):slicePick its.toArray lo hi none=((its.drop (HT.kY its.length 0 lo)).take (HT.kY its.length its.length hi-HT.kY its.length 0 lo)).toArray:=by
 obtain⟨h1,h2,h3⟩:=jP lo hi its.toArray.size;unfold slicePick;rw[h1,h2,h3];simp only[sliceRange_one,pick_run,ge]<;>rfl
abbrev DB (K:W.Frag):V->Option Int->Option Int->Hp->VK->Prop:=λx lo hi H Q=>∃ a xs,x=.ref a/\aK K H a xs/\∀ p,H p=none->Q (.ref p) (upd H p (.lst (dq xs lo hi)))
def uQ:CI X (DB X.K):=by
 intro Y s U H x v vl vu lo hi sl Q I rx hs pl pu h;obtain⟨a,xs,rfl,hx,q⟩:=h;cases rx;obtain⟨its,r,ht,hz⟩:=I.list hx;have hlen:=r.length;refine⟨"list",_,slot_list_getitem.lookup,ht.isList.typeIs,?_⟩;refine wpAny_getItem_list_slice ht.isList hs pl pu .none (by simp) ?_ (by rw[ge]<;>omega);rw[iw,<-hlen];refine⟨.ref s.heap.objs.size,_,I.laid (t':=s.toks) (o:=.lst (dq xs lo hi)) (λb ob q=>sn _ q) (pc _) ?_,rfl,q _ (I.hok.fresh (pc _))⟩;exact⟨Nat.le_trans (k8 xs lo hi) hz,_,0,(r.drop (HT.kY xs.length 0 lo)).take (HT.kY xs.length xs.length hi-HT.kY xs.length 0 lo),sw _ rfl⟩
abbrev aH:V->Bool
 | .non=>true
 | .bl _=>true
 | .int _=>true
 | .str _=>true
 |_=>false
abbrev lG:V->V->Bool
 | .non,.non=>true
 | .bl a,.bl b=>a ==b
 | .bl a,.int b=>(if a then 1 else 0) ==b
 | .int a,.bl b=>a ==(if b then 1 else 0)
 | .int a,.int b=>a ==b
 | .str a,.str b=>a ==b
 |_,_=>false
def tS {A:Around}{x:V}{v:Value}(ry:RelV y u)(rx:RelV x v)(fy:aH y=true)(fx:aH x=true):SeqAt.EqAt A s u v (lG y x):=by
 cases y with
 |non=>
  cases ry;cases x with
  |non=>cases rx;exact SeqAt.EqAt.same _
  |bl b=>cases rx;exact SeqAt.EqAt.none_bool b
  |int b=>obtain⟨t,rfl⟩:=rx;exact SeqAt.EqAt.none_int b t
  |str b=>obtain⟨t,rfl⟩:=rx;exact SeqAt.EqAt.none_str b t
  |_=>exact absurd (show false=true from fx) Bool.false_ne_true
 |bl a=>
  cases ry;cases x with
  |non=>cases rx;exact SeqAt.EqAt.bool_none a
  |bl b=>cases rx;exact SeqAt.EqAt.bool_bool a b
  |int b=>obtain⟨t,rfl⟩:=rx;exact SeqAt.EqAt.bool_int a b t
  |str b=>obtain⟨t,rfl⟩:=rx;exact SeqAt.EqAt.bool_str a b t
  |_=>exact absurd (show false=true from fx) Bool.false_ne_true
 |int a=>
  obtain⟨t',rfl⟩:=ry;cases x with
  |non=>cases rx;exact SeqAt.EqAt.int_none a t'
  |bl b=>cases rx;exact SeqAt.EqAt.int_bool a t' b
  |int b=>obtain⟨t,rfl⟩:=rx;exact SeqAt.EqAt.int_int a t' b t
  |str b=>obtain⟨t,rfl⟩:=rx;exact SeqAt.EqAt.int_str a t' b t
  |_=>exact absurd (show false=true from fx) Bool.false_ne_true
 |str a=>
  obtain⟨t',rfl⟩:=ry;cases x with
  |non=>cases rx;exact SeqAt.EqAt.str_none a t'
  |bl b=>cases rx;exact SeqAt.EqAt.str_bool a t' b
  |int b=>obtain⟨t,rfl⟩:=rx;exact SeqAt.EqAt.str_int a t' b t
  |str b=>obtain⟨t,rfl⟩:=rx;exact SeqAt.EqAt.str_str a t' b t
  |_=>exact absurd (show false=true from fx) Bool.false_ne_true
 |_=>exact absurd (show false=true from fy) Bool.false_ne_true
abbrev vV (x:V)(u:Value):Bool:=match u with
 | .none=>lG .non x
 | .bool b=>lG (.bl b) x
 | .int i _=>lG (.int i) x
 | .str z _=>lG (.str z) x
 |_=>false
def sC {x:V}(r:RelV y u)(f:aH y=true):vV x u=lG y x:=by
 cases y with
 |non=>cases r;rfl
 |bl b=>cases r;rfl
 |int i=>obtain⟨t,rfl⟩:=r;rfl
 |str z=>obtain⟨t,rfl⟩:=r;rfl
 |_=>exact absurd (show false=true from f) Bool.false_ne_true
def ja {x:V}:∀ {xs:List V}{us:List Value},Vals xs us->xs.all aH=true->us.any (vV x)=xs.any λy=>lG y x
 |_,_,.nil,_=>rfl
 |y::xs,u::us,.cons r t,f=>by
  rw[all_cons,lv]at f;rw[any_cons,any_cons,sC r f.1,ja t f.2]
def hJ {A:Around}{s:Shared}{x:V}{v:Value}(rx:RelV x v)(fx:aH x=true):∀ {xs:List V}{us:List Value},Vals xs us->xs.all aH=true->∀ u ∈ us,SeqAt.EqAt A s u v (vV x u)
 |_,_,.nil,_=>λu hu=>by cases hu
 |y::xs,u::us,.cons r t,f=>λu' hu=>by
  rw[all_cons,lv]at f;rcases li.mp hu with rfl|hu
  .rw[sC r f.1];exact tS r rx f.1 fx
  .exact hJ rx fx t f.2 u' hu
abbrev AG (x:V)(xs:List V):Bool:=xs.any λy=>lG y x
abbrev Em (K:W.Frag)(neg:Bool):R2:=λx y H Q=>∃ p xs,y=.ref p/\(aK K H p xs\/bp K H p xs)/\aH x=true/\xs.all aH=true/\Q (.bl (if neg then !AG x xs else AG x xs)) H
def qr:bS X (compareOp .In) (Em X.K false):=by
 intro Y s U H x y v u Q I rx ry h;obtain⟨p,xs,rfl,hq,fx,fs,q⟩:=h;cases ry;rcases hq with hq|hq
 .obtain⟨its,r,pl,hz⟩:=I.list hq;refine SeqAt.in_listAt (vV x) pl.isList (λw hw=>hJ rx fx r fs w (by simpa using hw)) ⟨.bl _,H,I,rfl,?_⟩;rw[show its.toArray.any (vV x)=its.any (vV x) by simp,ja r fs];exact q
 .obtain⟨its,r,pl,hz⟩:=I.tuple hq;refine SeqAt.in_tupleAt (vV x) pl (λw hw=>hJ rx fx r fs w (by simpa using hw)) ⟨.bl _,H,I,rfl,?_⟩;rw[show its.toArray.any (vV x)=its.any (vV x) by simp,ja r fs];exact q
def jS:bz X (.type "list") (λxs H Q=>∃ p ys,xs=[.ref p]/\(aK X.K H p ys\/bp X.K H p ys)/\∀ l,H l=none->Q (.ref l) (upd H l (.lst ys))):=by
 intro Y s U H xs us Q I r h;obtain⟨p,ys,rfl,hq,q⟩:=h;obtain⟨u,rfl,rx⟩:=vals1 r;cases rx;have fin:∀ (its:List Value),Vals ys its->ys.length<=bn->∀ (h':Heap) (c':Nat),(∀ b o',s.heap.get? b=some o'->h'.get? b=some o')->
   h'.get? s.heap.objs.size=some { cls:=.type "list",dict:=none,data:=.seq its.toArray c',slots:=#[] }->EP X Y U Q (.ref s.heap.objs.size) { s with heap:=h' }:=λits r' hz h' c' kp e=>
  ⟨.ref s.heap.objs.size,_,I.laid (t':=s.toks) kp (pc _) (show ao X.prog X.w _ h' _ (.lst ys) from⟨hz,its,c',r',e⟩),rfl,q _ (I.hok.fresh (pc _))⟩
 rcases hq with hq|hq
 .obtain⟨its,r',pl,hz⟩:=I.list hq;have hlen:=r'.length;obtain⟨o,ho,hc,n,hd⟩:=pl.isList;exact call_list_seq p (.inl rfl) ho hc hd (λh' c' kp e=>fin its r' hz h' c' kp e) (by simp only[ge]<;>omega)
 .obtain⟨its,r',pl,hz⟩:=I.tuple hq;have hlen:=r'.length;obtain⟨o,ho,hc,n,hd⟩:=pl;exact call_list_seq p (.inr rfl) ho hc hd (λh' c' kp e=>fin its r' hz h' c' kp e) (by simp only[ge]<;>omega)
def iz:bz X (.type "tuple") (λxs H Q=>∃ p ys,xs=[.ref p]/\((aK X.K H p ys/\∀ l,H l=none->Q (.ref l) (upd H l (.tup ys)))\/(bp X.K H p ys/\Q (.ref p) H))):=by
 intro Y s U H xs us Q I r h;obtain⟨p,ys,rfl,h⟩:=h;obtain⟨u,rfl,rx⟩:=vals1 r;cases rx;rcases h with⟨hq,q⟩|⟨hq,q⟩
 .obtain⟨its,r',pl,hz⟩:=I.list hq;have hlen:=r'.length;refine call_tuple_list pl.isList (λh' kp=>?_) (by simp only[ge]<;>omega);have I1:Inv X Y U H { s with heap:=h' }:=I.kept (t':=s.toks) kp;have I2:Inv X Y U (upd H h'.objs.size (.tup ys)) { s with heap:=h'.push { cls:=.type "tuple",data:=.seq its.toArray } }:=
   I1.laid (t':=s.toks) (λb o e=>sn _ e) (pc _) (show ao X.prog X.w _ _ _ (.tup ys) from⟨hz,its,r',IsTup.new _ _⟩)
  exact⟨.ref h'.objs.size,_,I2,rfl,q _ (I1.hok.fresh (pc _))⟩
 .obtain⟨its,r',pl,hz⟩:=I.tuple hq;exact call_tuple_same pl ⟨.ref p,H,I,rfl,q⟩
abbrev Dx (K:W.Frag)(T:String)(x:V)(H:Hp):Prop:=match x with
 | .str _=>T="str"
 | .int _=>T="int"
 | .ref p=>(T="list"/\∃ xs,aK K H p xs)\/(T="tuple"/\∃ o,K.lookup p=some o/\o.cls=.type "tuple"/\o.dict=none)\/
   (T="dict"/\((∃ kvs,H p=some (.dK kvs))\/∃ kvs,H p=some (.dT kvs)))\/(T="set"/\∃ S n,H p=some (.set S n))
 |_=>False
def tN {T:String}{x:V}{v:Value}(I:Inv X Y U H s)(r:RelV x v)(ty:Dx X.K T x H):
  s.TypeIs v T/\∀ a,v=.ref a->∃ ob,s.heap.get? a=some ob/\ob.dict=none:=by
 cases x with
 |str z=>
  obtain⟨t,rfl⟩:=r;cases(show T="str" from ty);exact⟨typeIs_str s z t,λ_ e=>nomatch e⟩
 |int i=>
  obtain⟨t,rfl⟩:=r;cases(show T="int" from ty);exact⟨typeIs_int s i t,λ_ e=>nomatch e⟩
 |ref p=>
  cases r;rcases ty with⟨rfl,xs,hq⟩|⟨rfl,o,hk,hc,hd⟩|⟨rfl,hk⟩|⟨rfl,S,n,hk⟩
  .obtain⟨its,_,pl,_⟩:=I.list hq;refine⟨pl.isList.typeIs,λa e=>?_⟩;cases e;obtain⟨o,n,e,c,hd,_⟩:=pl;exact⟨o,e,hd⟩
  .refine⟨⟨o,I.aY p o hk,hc⟩,λa e=>?_⟩;cases e;exact⟨o,I.aY _ o hk,hd⟩
  .have z:∃ o,s.heap.get? p=some o/\o.ExactDict:=by
    rcases hk with⟨kvs,hk⟩|⟨kvs,hk⟩
    .obtain⟨_,_,_,_,o,_,_,e,ex,_⟩:=I.hok p _ hk;exact⟨o,e,ex⟩
    .obtain⟨_,_,_,_,o,_,_,e,ex,_⟩:=I.hok p _ hk;exact⟨o,e,ex⟩
   obtain⟨o,e,ex⟩:=z;refine⟨⟨o,e,ex.1⟩,λa e2=>?_⟩;cases e2;exact⟨o,e,ex.2.1⟩
  .obtain⟨o,_,_,_,e,ex,_⟩:=I.hok p _ hk;refine⟨⟨o,e,ex.1⟩,λa e2=>?_⟩;cases e2;exact⟨o,e,ex.2.1⟩
 |_=>exact False.elim ty
abbrev C5 (K:W.Frag)(T:String)(r:V->List V->Hp->VK->Prop)(to:TE):TE:=λU H Q=>to U H λx H1=>Dx K T x H1/\r x [] H1 Q
abbrev Es (K:W.Frag)(T:String)(r:V->List V->Hp->VK->Prop)(to:TE)(t:TA):TE:=λU H Q=>to U H λx H1=>Dx K T x H1/\t U H1 λxs H2=>r x xs H2 Q
variable {o e:Expr}{es:List Expr}{to:TE}{t:TA}{name:Str}{apos cpos:Pos}{T id:String}{r:V->List V->Hp->VK->Prop}
def zT (pa:PlainAttrs T)(slot:Slot T name id)(hty:typeOf (.builtin id)=pure (.type "method_descriptor")) (hm:CM X id r) (ho:PE X o to)
  (hbase:attributeBase o name X.env (eval o X.env)=eval o X.env:=by rfl) (hline:(apos.endLine ==cpos.line)=true:=by rfl):PE X (.Call (.Attribute o name apos) [] [] cpos) (C5 X.K T r to):=by
 intro Y s U H Q I h;refine wpAny_Call_method0_late hbase hline (au (ho Y s U H _ I h) λv s1 ⟨x,H1,I1,r1,ty,q1⟩=>?_);obtain⟨h1,h2⟩:=tN I1 r1 ty;exact⟨T,id,pa,slot,hty,h1,h2,Calls.callWith_builtin rfl (PySem.evalArgs_none (hm Y s1 U H1 x [] v [] Q I1 r1 .nil q1))⟩
def Bm (pa:PlainAttrs T)(slot:Slot T name id)(hty:typeOf (.builtin id)=pure (.type "method_descriptor")) (hm:CM X id r) (ho:PE X o to) (ha:PA X (e::es) t)
  (hbase:attributeBase o name X.env (eval o X.env)=eval o X.env:=by rfl)
  (hfew:((backTo cpos (bm (e::es) X.env)).all (λx=>!x.1)&&(backToKw cpos (keywordEach [] X.env)).all (λx=>x.1.isSome)
   &&decide ((e::es).length+([]:List Keyword).length+(if([]:List Keyword).isEmpty then 0 else 1)<30))=true:=by rfl)
  (hline:(apos.endLine ==cpos.line)=true:=by rfl) (hs:bm (e::es) X.env=(false,eval e X.env)::bm es X.env:=by rfl) (hplain:(backTo cpos (bm es X.env)).any (·.1)=false:=by rfl):
  PE X (.Call (.Attribute o name apos) (e::es) [] cpos) (Es X.K T r to t):=by
 intro Y s U H Q I h;refine wpAny_Call_method_late hbase hfew hline rfl (au (ho Y s U H _ I h) λv s1 ⟨x,H1,I1,r1,ty,q1⟩=>?_);obtain⟨h1,h2⟩:=tN I1 r1 ty;refine⟨T,id,pa,slot,hty,h1,h2,?_⟩;have hA:=ha cpos Y s1 U H1 _ I1 q1;rw[hs]at hA⊢;refine Calls.callWith_builtin (by show(false||(backTo cpos (bm es X.env)).any (·.1))=false;rw[hplain]<;>rfl) (Calls.evalArgs_plain ?_);exact au hA λus s2 ⟨vs,H2,I2,r2,q2⟩=>hm Y s2 U H2 x vs v us Q I2 r1 r2 q2
/- xs.append(e),list.index on a module's tuple .. are CM facts of 06m -/
end
abbrev DF (X:Cx)(id:String)(r:V->List V->Hp->VK->Prop):Prop:=
 ∀ (Y:EM) (s:Shared) (U:St) (H:Hp) (x:V) (xs:List V) (v:Value) (us:List Value) (Q:VK),Inv X Y U H s->RelV x v->Vals xs us->r x xs H Q->
  wpAny (model X.prog X.w) X.A (call (.builtin id) (v::us)) (EP X Y U Q) X.xe s
def Vals.one:∀ {x:V}{us:List Value},Vals [x] us->∃ u,us=[u]/\RelV x u
 |_,_,.cons r .nil=>⟨_,rfl,r⟩
def Vals.zero:∀ {us:List Value},Vals [] us->us=[]
 |_,.nil=>rfl
def Vals.reverse {xs:List V}(h:Vals xs us):Vals xs.reverse us.reverse:=by
 induction h with
 |nil=>exact .nil
 |cons r t ih=>rw[List.reverse_cons,List.reverse_cons];exact Vals.append ih (.cons r .nil)
def Vals.rep {xs:List V}(h:Vals xs us):∀ k:Nat,Vals (re k xs).flatten (re k us).flatten
 |0=>.nil
 |k+1=>by
  rw[replicate_succ,replicate_succ,flatten_cons,flatten_cons];exact Vals.append h (Vals.rep h k)
def foldl_rep (its:List Value):∀ (k:Nat) (acc:List Value),
  List.foldl (λx1 x2=>x1++x2) acc.toArray (re k its.toArray)=(acc++(re k its).flatten).toArray
 |0,acc=>by simp
 |k+1,acc=>by
  have e:acc.toArray++its.toArray=(acc++its).toArray:=by simp
  have e2:(acc++its)++(re k its).flatten=acc++(re (k+1) its).flatten:=by
   rw[replicate_succ,flatten_cons,jp]
  rw[<-e2,<-foldl_rep its k (acc++its),<-e,replicate_succ,foldl_cons]
section
variable {X:Cx}{Y:EM}{U:St}{H:Hp}{s:Shared}{l b:Addr}{xs ys zs:List V}
def Inv.yi {its its':List Value}{f:Array Value->Array Value}{t':Nat}(I:Inv X Y U H s)(hH:H l=some (.lst xs))
  (e:s.heap.get? l=some { cls:=.type "list",data:=.seq its.toArray n }) (hf:f its.toArray=its'.toArray) (hv:Vals ys its') (hz:ys.length<=bn):
  Inv X Y U (upd H l (.lst ys)) { s with heap:=s.heap.update l (Obj.mapSeq f),toks:=t' }:=by
 have q:=PySem.IsL.update e f;rw[hf]at q;refine I.write (x:=l) (e:=l) (by rw[hH];exact trivial) (.inl rfl) (λb' u hb hu=>(Heap.get?_update_other s.heap (Obj.mapSeq f) (Ne.symm hb)).trans hu) ⟨_,q⟩ ?_;exact⟨hz,its',_,hv,q⟩
def Inv.A6 {its:List Value}{t':Nat}(I:Inv X Y U H s)(hv:Vals ys its)(hz:ys.length<=bn):
  Inv X Y U (upd H s.heap.objs.size (.lst ys)) { s with heap:=s.heap.push { cls:=.type "list",data:=.seq its.toArray },toks:=t' }:=
 I.laid (λ_ _ q=>sn _ q) (pc _) ⟨hz,its,0,hv,sw _ rfl⟩
def Inv.fresh (I:Inv X Y U H s):H s.heap.objs.size=none:=I.hok.fresh (pc _)
def Inv.kH (I:Inv X Y U H s)(hH:H l=some (.lst xs)):xs.length<=bn/\∃ (its:List Value) (n:Nat),Vals xs its/\xs.length=its.length/\s.heap.get? l=some { cls:=.type "list",data:=.seq its.toArray n }:=by
 obtain⟨z,its,n,r,e⟩:=I.hok l _ hH;exact⟨z,its,n,r,r.length,e⟩
def lD (h:n<=bn):Builtin.List.listTooLong n=false:=by
 unfold Builtin.List.listTooLong;exact decide_eq_false nofun
end
section
variable {X:Cx}
abbrev vz:V->List V->Hp->VK->Prop:=λx vs H Q=>∃ l xs y,x=.ref l/\vs=[y]/\H l=some (.lst xs)/\xs.length<bn/\Q .non (upd H l (.lst (xs++[y])))
def iS:DF X "list.append" vz:=by
 intro Y s U H x vs v us Q I rx rv h;obtain⟨l,xs,y,rfl,rfl,hH,hz,q⟩:=h;cases rx;obtain⟨u,rfl,ru⟩:=rv.one;obtain⟨z,its,n,r,hl,e⟩:=I.kH hH;refine call_meets F.slot_list_append ⟨_,e,rfl⟩ F.entry_list_append (F.args_list_append_2 _ _) (PySem.list_append l its.toArray n u (by rw[ge];omega)) ⟨e,?_⟩;refine⟨.non,_,I.yi (its':=its++[u]) hH e (by simp) (r.append (.cons ru .nil)) ?_,rfl,q⟩;rw[ci,f8]
 omega
abbrev uT:V->List V->Hp->VK->Prop:=λx vs H Q=>∃ l b xs zs,x=.ref l/\vs=[.ref b]/\H l=some (.lst xs)/\H b=some (.lst zs)/\xs.length+zs.length<=bn/\Q .non (upd H l (.lst (xs++zs)))
def qt:DF X "list.extend" uT:=by
 intro Y s U H x vs v us Q I rx rv h;obtain⟨l,b,xs,zs,rfl,rfl,hH,hB,hz,q⟩:=h;cases rx;obtain⟨u,rfl,ru⟩:=rv.one;cases ru;obtain⟨z,its,n,r,hl,e⟩:=I.kH hH;obtain⟨z2,gL,n2,r2,hl2,e2⟩:=I.kH hB;have hsz:its.toArray.size+gL.toArray.size<=bn:=by rw[ge,ge];omega
 have hlong:¬ (!its.toArray.isEmpty&&Builtin.List.listTooLong (its.toArray.size+gL.toArray.size))=true:=by
  rw[lD hsz,Bool.and_false];exact Bool.false_ne_true
 refine call_meets F.slot_list_extend ⟨_,e,rfl⟩ F.entry_list_extend (F.args_list_extend_2 _ _)
  (AutoSeq1.list_extend_list_list_0 l its.toArray n b gL.toArray n2 hlong (by rw[ge];omega) nofun) ⟨e,e2,?_⟩
 refine⟨.non,_,I.yi (its':=its++gL) hH e (by simp) (r.append r2) ?_,rfl,q⟩;rw[ci]
 omega
abbrev DM:R2:=λx y H Q=>∃ l b xs zs,x=.ref l/\y=.ref b/\H l=some (.lst xs)/\H b=some (.lst zs)/\xs.length+zs.length<=bn/\∀ p,H p=none->Q (.ref p) (upd H p (.lst (xs++zs)))
def yR:bS X (binaryOp .Add) DM:=by
 intro Y s U H x y v u Q I rx ry h;obtain⟨l,b,xs,zs,rfl,rfl,hH,hB,hz,q⟩:=h;cases rx;cases ry;obtain⟨z,its,n,r,hl,e⟩:=I.kH hH;obtain⟨z2,gL,n2,r2,hl2,e2⟩:=I.kH hB;refine PySem.P.add_list e e2 ?_ (by rw[ge,ge];omega);have ea:its.toArray++gL.toArray=(its++gL).toArray:=by simp
 rw[ea];exact⟨.ref _,_,I.A6 (t':=s.toks) (r.append r2) (by rw[ci];omega),rfl,q _ I.fresh⟩
abbrev Dd:R2:=λx y H Q=>∃ l k xs,x=.ref l/\y=.int k/\H l=some (.lst xs)/\ -(2 ^ 63)<=k/\k<2 ^ 63/\xs.length*k.toNat<=bn/\
 ∀ p,H p=none->Q (.ref p) (upd H p (.lst (re k.toNat xs).flatten))
def len_rep (xs:List α)(k:Nat):(re k xs).flatten.length=k*xs.length:=by
 induction k with
 |zero=>simp
 |succ k ih=>rw[replicate_succ,flatten_cons,ci,ih,Nat.succ_mul,Nat.add_comm]
def yK:bS X (binaryOp .Mult) Dd:=by
 intro Y s U H x y v u Q I rx ry h;obtain⟨l,k,xs,rfl,rfl,hH,h1,h2,hz,q⟩:=h;cases rx;obtain⟨t,rfl⟩:=ry;obtain⟨z,its,n,r,hl,e⟩:=I.kH hH;have hlen:its.toArray.size*k.toNat<=bn:=by rw[ge,<-hl];exact hz
 have hcap:¬ its.toArray.size*k.toNat>(2 ^ 63-1) / 8:=by
  have:(bn:Nat)<=(2 ^ 63-1) / 8:=by decide
  omega
 have hfit:¬ (!Builtin.List.listFitsIndex k)=true:=by
  rw[fitsIndex_both h1 h2];exact Bool.false_ne_true
 have hlong:¬ Builtin.List.listTooLong (its.toArray.size*k.toNat)=true:=by
  rw[lD hlen];exact Bool.false_ne_true
 have hnew:List.foldl (λx1 x2=>x1++x2) #[] (re (if its.toArray.isEmpty=true then 0 else k.toNat) its.toArray)=(re k.toNat its).flatten.toArray:=by
  have f0:∀ m:Nat,List.foldl (λx1 x2=>x1++x2) #[] (re m its.toArray)=(re m its).flatten.toArray:=λm=>by
   have:=foldl_rep its m [];rw[nil_append]at this;exact this
  rw[f0];cases its with
  |nil=>simp
  |cons a r'=>rw[if_neg (by simp)]
 refine wpAny_binaryOp_repeat_ref (T:="list") (U:="int") (by decide) ⟨_,e,rfl⟩ (λs'=>typeIs_int s' k t) noFill_list_mul F.fills_int_mul F.slot_int_rmul repeat_list F.slot_int_index.lookup
  (call_meets F.slot_int_rmul (typeIs_int s k t) F.entry_int_rmul (F.args_int_rmul_2 _ _) (int___rmul___int_list k t l its.toArray n)
   ⟨e,rfl,⟨_,e,rfl⟩,call_meets F.slot_list_mul ⟨_,e,rfl⟩ F.entry_list_mul (F.args_list_mul_2 _ _) (AutoListH.list___mul___list_int_3 l its.toArray n k t hfit hcap hlong) ⟨e,?_⟩⟩)
 rw[hnew];exact⟨.ref _,_,I.A6 (t':=s.toks) (r.rep k.toNat) (by rw[len_rep,Nat.mul_comm];exact hz),rfl,q _ I.fresh⟩
end
section
variable {prog:Program}{w:World}{A:Around}{E:EL}{s:Shared}
set_option maxRecDepth 100000 in
end
section
variable {X:Cx}
end
variable {o:Option V}
section
variable {κ:Type} [DecidableEq κ]
abbrev cz (kvs:List (κ×V))(k:κ):Option V:=(kvs.find? λkv=>decide (kv.1=k)).map (·.2)
abbrev putK (kvs:List (κ×V))(k:κ)(v:V):List (κ×V):=
 if(kvs.any λkv=>decide (kv.1=k))=true then kvs.map (λkv=>if kv.1=k then(kv.1,v) else kv) else kvs++[(k,v)]
def ff {p:κ×V}{r:List (κ×V)}{k:κ}(e:p.1=k):cz (p::r) k=some p.2:=by simp[cz,find?_cons,e]
def eW {p:κ×V}{r:List (κ×V)}{k:κ}(e:¬ p.1=k):cz (p::r) k=cz r k:=by simp[cz,find?_cons,e]
def eg (k:κ):∀ kvs:List (κ×V),(kvs.any λkv=>decide (kv.1=k))=(cz kvs k).isSome
 | []=>rfl
 |p::r=>by
  rw[any_cons]
  by_cases e:p.1=k
  .simp only[ff e,decide_eq_true e,Bool.true_or,Option.isSome_some]
  .rw[eW e,decide_eq_false e,Bool.false_or];exact eg k r
def fQ (kvs:List (κ×V))(k:κ)(v:V):(putK kvs k v).length<=kvs.length+1:=by
 unfold putK
 split
 .rw[ce];omega
 .rw[ci,length_cons,List.length_nil];omega
def b9.fJ {u:Option Value}(r:b9 o u):o.isSome=u.isSome:=by
 cases o with
 |none=>cases u with
  |none=>rfl
  |some _=>exact(show False from r).elim
 |some _=>cases u with
  |none=>exact(show False from r).elim
  |some _=>rfl
def KV.val {kvs:List (κ×V)}{vs:List (κ×Value)}(r:KV kvs vs)(k:κ):b9 (cz kvs k) (valueAt vs k):=by
 unfold KV at r
 induction r with
 |nil=>exact True.intro
 | @cons p q ps qs h t ih=>
  obtain⟨h1,h2⟩:=h
  by_cases e:p.1=k
  .have e':q.1=k:=h1.symm.trans e;have b:valueAt (q::qs) k=some q.2:=by simp[valueAt,find?_cons,e']
   rw[ff e,b];exact h2
  .have e':¬ q.1=k:=λz=>e (h1.trans z)
   have b:valueAt (q::qs) k=valueAt qs k:=by simp[valueAt,find?_cons,e']
   rw[eW e,b];exact ih
def KV.any {kvs:List (κ×V)}{vs:List (κ×Value)}(r:KV kvs vs)(k:κ):(kvs.any λkv=>decide (kv.1=k))=vs.any λkv=>decide (kv.1=k):=by
 unfold KV at r
 induction r with
 |nil=>rfl
 |cons h t ih=>rw[any_cons,any_cons,ih,h.1]
def KV.yF {kvs:List (κ×V)}{vs:List (κ×Value)}(r:KV kvs vs)(k:κ)(ry:RelV y u):
  KV (kvs.map λkv=>if kv.1=k then(kv.1,y) else kv) (vs.map λkv=>if kv.1=k then(kv.1,u) else kv):=by
 unfold KV at r⊢
 induction r with
 |nil=>exact .nil
 | @cons p q ps qs h t ih=>
  rw[map_cons,map_cons];refine .cons ?_ ih;obtain⟨h1,h2⟩:=h
  by_cases e:p.1=k
  .rw[if_pos e,if_pos (h1.symm.trans e)];exact⟨h1,ry⟩
  .rw[if_neg e,if_neg (λz=>e (h1.trans z))];exact⟨h1,h2⟩
def KV.put {kvs:List (κ×V)}{vs:List (κ×Value)}(r:KV kvs vs)(k:κ)(ry:RelV y u):KV (putK kvs k y) (stored vs k u):=by
 unfold putK stored;rw[r.any k]
 by_cases e:(vs.any λkv=>decide (kv.1=k))=true
 .rw[if_pos e,if_pos e];exact r.yF k ry
 .rw[if_neg e,if_neg e];exact Paired.snoc r ⟨rfl,ry⟩
def KV.length {kvs:List (κ×V)}{vs:List (κ×Value)}(r:KV kvs vs):kvs.length=vs.length:=Paired.length r
end
variable {P:Program}{w:World}
def k9 {k:Key}(r:RelV (kV k) u):(az P w).is k u=true:=by
 cases k with
 |inl i=>obtain⟨t,e⟩:=(show ∃ t,u=Value.int i t from r);subst e;exact j8 P w i t
 |inr x=>obtain⟨t,e⟩:=(show ∃ t,u=Value.str x t from r);subst e;exact lu P w x t
def i8 {P:Program}{w:World}:∀ {ks:List Key}{us:List Value},Vals (ks.map kV) us->ItemsAre (az P w) ks us
 | [],_,r=>by rw[List.map_nil]at r;cases r;exact .nil
 |k::ks,_,r=>by
  rw[map_cons]at r;cases r with
  |cons h t=>exact .cons (k9 h) (i8 t)
@[reducible]def KT (H:Hp):List (List Key×V)->List (List Key×Addr×Value)->Prop:=Paired λp q=>p.1=q.1/\H q.2.1=some (.tup (p.1.map kV))/\RelV p.2 q.2.2
variable {xs:List (List Key×Addr×Value)}{kvs:List (List Key×V)}
def KT.val (r:KT H kvs xs)(k:List Key):b9 (cz kvs k) ((atKey xs k).map (·.2)):=by
 induction r with
 |nil=>exact True.intro
 | @cons p q ps qs h t ih=>
  obtain⟨h1,_,h2⟩:=h
  by_cases e:p.1=k
  .have e':q.1=k:=h1.symm.trans e;have b:atKey (q::qs) k=some q.2:=by simp[atKey,find?_cons,e']
   rw[ff e,b];exact h2
  .have e':¬ q.1=k:=λz=>e (h1.trans z)
   have b:atKey (q::qs) k=atKey qs k:=by simp[atKey,find?_cons,e']
   rw[eW e,b];exact ih
def KT.yF (r:KT H kvs xs)(k:List Key)(ry:RelV y u):
  KT H (kvs.map λkv=>if kv.1=k then(kv.1,y) else kv) (xs.map (putAt k u)):=by
 induction r with
 |nil=>exact .nil
 | @cons p q ps qs h t ih=>
  rw[map_cons,map_cons];refine .cons ?_ ih;obtain⟨h1,h2,h3⟩:=h;unfold putAt
  by_cases e:p.1=k
  .rw[if_pos e,if_pos (h1.symm.trans e)];exact⟨h1,h2,ry⟩
  .rw[if_neg e,if_neg (λz=>e (h1.trans z))];exact⟨h1,h2,h3⟩
def KT.put (r:KT H kvs xs)(k:List Key){b:Addr}(hb:H b=some (.tup (k.map kV)))(ry:RelV y u):
  KT H (putK kvs k y) (storedH xs k b u):=by
 have e:(kvs.any λkv=>decide (kv.1=k))=(atKey xs k).isSome:=by
  rw[eg,(r.val k).fJ,Option.isSome_map]
 unfold putK storedH;rw[e]
 by_cases q:(atKey xs k).isSome=true
 .rw[if_pos q,if_pos q];exact r.yF k ry
 .rw[if_neg q,if_neg q];exact Paired.snoc r ⟨rfl,hb,ry⟩
variable {H':Hp}
def KT.keeps (r:KT H kvs xs)(ht:∀ b ys,H b=some (.tup ys)->H' b=some (.tup ys)):KT H' kvs xs:=
 Paired.yn r λ_ _ z=>⟨z.1,ht _ _ z.2.1,z.2.2⟩
section
variable {P:Program}{w:World}{H:Hp}{h:Heap}{a:Addr}
def xU {u:HO}(ok:dN P w H h)(e:Rd H a u):ao P w H h a u:=e.ok ok
def fY {kvs:List (Key×V)}(ok:dN P w H h)(e:Rd H a (.dK kvs)):kvs.length<=bn/\(a ==sysModules)=false/\∃ vs,KV kvs vs/\h.DictOf (az P w) a vs:=
 show ao P w H h a (.dK kvs) from xU ok e
def BL {kvs:List (Key×V)}(ok:dN P w H h)(e:H a=some (.dK kvs)):kvs.length<=bn/\(a ==sysModules)=false/\∃ vs,KV kvs vs/\h.DictOf (az P w) a vs:=fY ok (.inl e)
def jw {ks:List Key}(ok:dN P w H h)(e:H a=some (.tup (ks.map kV))):(tupleKind (az P w)).is h ks a:=by
 obtain⟨_,its,r,o,h1,h2,n,h3⟩:=(show ao P w H h a (.tup (ks.map kV)) from ok a _ e);exact⟨o,its.toArray,n,h1,h2,h3,by simpa using i8 r⟩
def oa (ok:dN P w H h)(e:Rd H a (.dT kvs)):kvs.length<=bn/\(a ==sysModules)=false/\
  ∃ xs,KT H kvs xs/\h.DictOfH (tupleKind (az P w)) a xs:=by
 obtain⟨z,y,xs,r,o,es,ep,h1,h2,h3,h4,h5⟩:=(show ao P w H h a (.dT kvs) from xU ok e);refine⟨z,y,xs,r,o,es,ep,h1,h2,h3,h4,λx hx=>?_,h5⟩;have all:∀ {l:List (List Key×V)}{m:List (List Key×Addr×Value)},KT H l m->∀ x ∈ m,(tupleKind (az P w)).is h x.1 x.2.1:=by
  intro l m q
  induction q with
  |nil=>intro x hx;exact nomatch hx
  | @cons p q ps qs hq t ih=>
   intro x hx;rcases li.mp hx with e|hx
   .subst e;exact jw ok (by rw[<-hq.1];exact hq.2.1)
   .exact ih x hx
 exact all r x hx
def AR (ok:dN P w H h)(e:H a=some (.dT kvs)):kvs.length<=bn/\(a ==sysModules)=false/\
  ∃ xs,KT H kvs xs/\h.DictOfH (tupleKind (az P w)) a xs:=oa ok (.inl e)
end
abbrev qy (H:Hp)(a:Addr)(y:V)(r:Option V):Prop:=
 (∃ kvs k,Rd H a (.dK kvs)/\y=kV k/\r=cz kvs k)\/∃ kvs k b,Rd H a (.dT kvs)/\y=.ref b/\H b=some (.tup (k.map kV))/\r=cz kvs k
abbrev BJ (H:Hp)(a:Addr)(y v:V)(H':Hp):Prop:=
 (∃ kvs k,H a=some (.dK kvs)/\y=kV k/\kvs.length<bn/\H'=upd H a (.dK (putK kvs k v)))\/
 ∃ kvs k b,H a=some (.dT kvs)/\y=.ref b/\H b=some (.tup (k.map kV))/\kvs.length<bn/\H'=upd H a (.dT (putK kvs k v))
variable {Q:EL}
section
variable {X:Cx}{Y:EM}{U:St}{H:Hp}{s:Shared}{a:Addr}{y v:V}{u r:Value}{o:Option V}{A:Around}{E:EL}
def Inv.big (I:Inv X Y U H s):sysModules<s.heap.objs.size:=by
 have h:mainGlobals<s.heap.objs.size:=(I.mod.glob.keeps I.bk).lt;exact Nat.lt_trans (by decide) h
def qm (hu:A.units+1<cLine)(I:Inv X Y U H s)(g:qy H a y (some v))(ry:RelV y u)(h:∀ w' s',Inv X Y U H s'->RelV v w'->Q w' s'):
  wpAny (model X.prog X.w) A (getItem (.ref a) u) Q E s:=by
 rcases g with⟨kvs,k,e,ey,l⟩|⟨kvs,k,b,e,ey,eb,l⟩
 .subst ey;obtain⟨z,hd,vs,rel,dd⟩:=fY I.hok e;obtain⟨w',hw,rw'⟩:=b9.some_of (v:=v) (o:=valueAt vs k) (by rw[l];exact rel.val k);exact wpAny_getItem_of (k9 ry) dd.mapOf hw (h w' _ (I.tok _) rw')
 .subst ey;cases(show u=Value.ref b from ry);obtain⟨z,hd,xs,rel,dd⟩:=oa I.hok e;obtain⟨w',hw,rw'⟩:=b9.some_of (v:=v) (o:=(atKey xs k).map (·.2)) (by rw[l];exact rel.val k);obtain⟨p,hp,hp2⟩:=lw.mp hw;refine wpAny_getItem_heap (tupleKind_room_in1 hu) (jw I.hok eb) dd hp ?_;rw[hp2];exact h w' _ (I.tok _) rw'
def Di (hu:A.units+1<cLine)(I:Inv X Y U H s)(g:qy H a y o)(ry:RelV y u)(h:∀ s',Inv X Y U H s'->Q (.bool o.isSome) s'):
  wpAny (model X.prog X.w) A (compareOp .In u (.ref a)) Q E s:=by
 rcases g with⟨kvs,k,e,ey,l⟩|⟨kvs,k,b,e,ey,eb,l⟩
 .subst ey;obtain⟨z,hd,vs,rel,dd⟩:=fY I.hok e;refine wpAny_in_of (k9 ry) hd dd.mapOf ?_;rw[<-(rel.val k).fJ,<-l];exact h _ (I.tok _)
 .subst ey;cases(show u=Value.ref b from ry);obtain⟨z,hd,xs,rel,dd⟩:=oa I.hok e;refine wpAny_in_heap (tupleKind_room_in1 hu) (jw I.hok eb) hd dd ?_;have q:=(rel.val k).fJ;rw[Option.isSome_map]at q;rw[<-q,<-l];exact h _ (I.tok _)
def oM {h':Heap}{t':Nat}{ob:HO}(I:Inv X Y U H s)(mu:Ci (H a))(hs:Heap.SameBut a s.heap h')(he:∃ q,h'.get? a=some q) (new:ao X.prog X.w (upd H a ob) h' a ob):
  Inv X Y U (upd H a ob) { s with heap:=h',toks:=t' }:=
 I.write (x:=a) (e:=a) mu (.inl rfl) (λb q hb z=>(hs.2 b hb).trans z) he new
def ui {h':Heap}{kvs:List (Key×V)}{vs:List (Key×Value)}(z:kvs.length<=bn)(hd:(a ==sysModules)=false)(rel:KV kvs vs)(dd:h'.DictOf (az P w) a vs):
  ao P w H' h' a (.dK kvs):=⟨z,hd,vs,rel,dd⟩
def pF {Q:EK}(hu:A.units+1<cLine)(I:Inv X Y U H s)(g:BJ H a y v H')(ry:RelV y u)(rv:RelV v r)(h:∀ s',Inv X Y U H' s'->Q () s'):
  wpAny (model X.prog X.w) A (setItem (.ref a) u r) Q E s:=by
 rcases g with⟨kvs,k,e,ey,l,eH⟩|⟨kvs,k,b,e,ey,eb,l,eH⟩
 .subst ey eH;obtain⟨z,hd,vs,rel,dd⟩:=BL I.hok e;have hz:vs.length<=bn:=by rw[<-rel.length];exact z
  have hl:(putK kvs k v).length<=bn:=by have:=fQ kvs k v;omega
  refine wpAny_setItem_pairs (hsz:=hz) (k9 ry) dd λh' dd' hs=>h _ ?_
  have he:∃ q,h'.get? a=some q:=let⟨q,_,_,hq,_⟩:=dd';⟨q,hq⟩;exact oM I (by rw[e];exact True.intro) hs he (ui hl hd (rel.put k rv) dd')
 .subst ey eH;cases(show u=Value.ref b from ry);obtain⟨z,hd,xs,rel,dd⟩:=AR I.hok e;have hz:xs.length<=bn:=by rw[<-Paired.length rel];exact z
  have hl:(putK kvs k v).length<=bn:=by have:=fQ kvs k v;omega
  refine wpAny_setItem_heap (hsz:=hz) (tupleKind_room_in1 hu) (jw I.hok eb) dd λh' dd' hs=>h _ ?_
  obtain⟨q,es,ep,hq,h2,h3,h4,_,h5⟩:=dd';refine oM I (by rw[e];exact True.intro) hs ⟨q,hq⟩ ⟨hl,hd,_,(rel.put k eb rv).keeps λc ys ec=>?_,q,es,ep,hq,h2,h3,h4,h5⟩;rw[af (Bb ec e (λz=>nomatch z))];exact ec
end
section
variable {X:Cx}{Y:EM}{U:St}{H:Hp}{s:Shared}{a:Addr}{kvs:List (Key×V)}{k:Key}{u:Value}{A:Around}{E:EL}
end
def jZ {X:Cx}{a:Addr}(I:Inv X Y U H s)(g:qy H a y o):s.TypeIs (.ref a) "dict":=by
 rcases g with⟨kvs,k,e,_,_⟩|⟨kvs,k,b,e,_,_,_⟩
 .obtain⟨_,_,vs,_,dd⟩:=fY I.hok e;exact dd.typeIs
 .obtain⟨_,_,xs,_,dd⟩:=oa I.hok e;exact dd.typeIs
section
variable {X:Cx}{o i e value:Expr}{pos pos' tpos:Pos}{td ty tv:TE}
end
def tO (h:Heap)(hb:sysModules<h.objs.size):ao P w H (h.push { cls:=.type "dict",data:=.dict #[] }) h.objs.size (.dK []):=
 ⟨Nat.zero_le _,beq_eq_false_iff_ne.mpr (Ne.symm (nw hb)),[],.nil,Heap.DictOf.new h⟩
abbrev zb:TE:=λ_ H Q=>∀ p,H p=none->Q (.ref p) (upd H p (.dK []))
section
variable {X:Cx}{pos:Pos}
def tB:PE X (.Dict [] [] pos) zb:=λY s U H Q I h=>
 wpAny_Dict_empty ⟨.ref s.heap.objs.size,_,I.laid (a:=s.heap.objs.size) (o:=.dK []) (t':=s.toks) (λ_ _ q=>sn _ q) (pc _) (tO s.heap I.big),rfl,h _ (I.hok.fresh (pc _))⟩
end
section
variable {X:Cx}{Y:EM}{U:St}{H:Hp}{s:Shared}{a:Addr}{y d:V}{u r:Value}{o:Option V}{A:Around}{E:EL}
end
section
variable {X:Cx}{o e f:Expr}{apos cpos:Pos}{td ty tx:TE}
end
section
variable {X:Cx}{Y:EM}{U:St}{H:Hp}{s:Shared}{a:Addr}{kvs:List (Key×V)}{A:Around}{E:EL}
end
section
variable {X:Cx}{Y:EM}{U:St}{H:Hp}{s:Shared}{a:Addr}{y:V}{u:Value}{A:Around}{E:EL}
end
end L2
namespace Att
open PySem PySem.W PySem.Calls PyProof.Rows
variable {P:Params}
def gd {h:Heap}:∀ (ns:List Int) (vs:List Value),WellAll P h vs (ns.map WData.int)->IntsAre vs ns:=by
 intro ns
 induction ns with
 |nil=>
  intro vs w;rw[List.map_nil]at w;cases w;exact .nil
 |cons n ns ih=>
  intro vs w;rw[map_cons]at w;cases w with
  |cons a b=>
   cases a;exact .cons _ _ (ih _ b)
variable {l:OpenLaw}
def qi {n:Nat}(hn:l.most=some n){h:Heap}{args:List WData}{vals:List Value}
  (hpre:l.row.toRowW.claim.pre args=true) (hwl:WellAll P h vals args):
  ∃ a vs ns,vals=[Value.ref a]/\args=[WData.list (ns.map WData.int)]/\h.get? a=some { cls:=.type "list",data:=.seq vs.toArray }/\IntsAre vs ns/\ns.length<=n:=by
 have hsh:WShape.hasAll [] args [.list .int]=true:=(pre_splitW hpre).1;have hc:l.pre.holds [] { args:=args }=true:=(pre_splitW hpre).2;obtain⟨d,r,rfl,h1,h2⟩:=hasAllW_cons hsh;obtain rfl:=hasAllW_nil h2;obtain⟨xs,rfl,h3⟩:=hasW_list h1;obtain⟨ns,rfl⟩:=items_int h3;have hlen:ns.length<=n:=by
  unfold OpenLaw.pre at hc;have h4:(WTm.not (.lt (.lit (.int (n:Int))) (.len (.arg 0)))).holds [] { args:=[.list (ns.map .int)] }=true:=by
   have h4:=(holds_andW hc).1;rw[hn]at h4;exact h4
  have h5:=condW_of h4 (w_not (w_lt w_lit (w_len_list (w_arg rfl))));rw[ce]at h5;refine Nat.le_of_not_lt λq=>?_
  have q':(n:Int)<((ns.length:Nat):Int):=by omega
  first
   |(rw[decide_eq_true q']at h5;exact absurd h5 (by decide))
   |(simp at h5;omega)
 cases hwl with
 |cons w1 w2=>
  cases w2;cases w1 with
  |list ho hall=>exact⟨_,_,ns,rfl,rfl,ho,gd ns _ hall,hlen⟩
def p6 (l:OpenLaw)(args:List WData):l.row.toRowW.claim.post args (.bool true) args=true:=
 postW_of (r:=l.row.toRowW) (X:=(true ==true))
  (show WShape.has [] (.bool true) .bool=true by first|rfl|decide|simp[WShape.has,WShape.arms,WShape.armsAll])
  (show(WTm.eq .res (.lit (.bool true))).value [] { args:=args,res:=some (.bool true),after:=args }=some (.bool (true ==true)) from w_eq_bool (w_res rfl) w_lit) rfl
def lE {n:Nat}{q:Program}{loose:List Str}{XP:(Str->Option Value)->Heap->Prop}{YP:World->Heap->Prop}{d:DefRec}
  (hn:l.most=some n) (hdf:d.params.defaults=[])
  (call:∀ (w:World) (s₀ s₁:Shared) (mg mb:EN) (fa:Addr) (o:Obj) (pm cd doc:Value) (a:Addr) (vs:List Value) (ns:List Int),
   Ground q loose [] XP w s₀ mg mb s₁.heap->YP w s₁.heap->
   s₁.heap.get? fa=some o->o.data=.func (docDef d.name d.params d.body d.scope pm cd doc)->s₁.heap.CodeRec cd d.name->mg d.name=some (.ref fa)->
   s₁.heap.get? a=some { cls:=.type "list",data:=.seq vs.toArray }->IntsAre vs ns->ns.length<=n->s₁.gens=#[]->
   codeAny (model l.prog w) callerA (.call (.ref fa) ⟨[.ref a],[]⟩) (λr s'=>r=.ok (.ret (.bool true))/\OldK s₁.heap s'.heap/\s'.os=s₁.os/\AllBare s'.gens) s₁):
  WalkO q loose XP YP l.row.toRowW d [] (λf vs=>PySem.call f vs):=by
 intro w s₀ s₁ mg mb G Y fa o pm cd doc dV kV ho hd hcd hD hmg hg args vals as hpre hlay hrd hwl hlo;obtain rfl:dV=.none:=Dflts.none hD hdf;obtain rfl:kV=.none:=Dflts.noKw hD;obtain⟨a,vs,ns,rfl,rfl,hobj,hints,hlen⟩:=qi hn hpre hwl;refine enter_call (codeAny_mono (call w s₀ s₁ mg mb fa o pm cd doc a vs ns G Y ho (fd_plain hd) hcd hmg hobj hints hlen hg) λr s' hq=>?_);obtain⟨rfl,h2,h3,h4⟩:=hq;exact⟨.inl ⟨.bool true,.bool true,[],rfl,λ_=>rfl,.bool true,p6 l _,λ_=>⟨List.Pairwise.nil,λ_ hm=>(nomatch hm)⟩⟩,h2,h3,h4⟩
section
variable {prog:Program}{w:World}{A:Around}{E:EL}{s:Shared}{K:Frag}
end
end Att
namespace L2
open PySem PySem.Spec PyProof.Rows
def iO:∀ {vs:List Value}{ns:List Int},IntsAre vs ns->Vals (ns.map V.int) vs
 |_,_,.nil=>.nil
 |_,_,.cons n t h=>.cons ⟨t,rfl⟩ (iO h)
abbrev zh (H:Hp):Prop:=∀ b,H b=none\/∃ o xs,H b=some (.fZ o (.lst xs))
def rL {P:Program}{w:World}{K:W.Frag}{mg mb:EN}{CX:mf}{k:Nat}{fa a:Addr}{fd:FuncData}{x:Str}{sp:Sp}{s₁:Shared}{vs:List Value}{ns:List Int}
  (KX:K.In s₁.heap) (hns:s₁.heap.Ns mainGlobals mg) (hb:s₁.heap.Ns builtinsNs mb) (hbb:∀ x:Str,x≠"__name__"->mb x=bootBuiltins x) (hlim:s₁.heap.NoLimit) (hg:s₁.gens=#[])
  (ha:s₁.heap.get? a=some { cls:=.type "list",data:=.seq vs.toArray }) (hi:IntsAre vs ns) (hl:ns.length<=bn) (hr:aX k callerA)
  (F:∀ base:Heap,K.In base->base.Ns mainGlobals mg->bV P w K mg base CX k fa fd [x] sp) (hbind:∀ (s:Shared) (u:Value),BindsTo s fd ⟨[u],[]⟩ [(x,u)])
  (hsp:∀ H:Hp,zh H->aK K H a (ns.map V.int)->sp [.ref a] H (λv _=>v=.bl true) λ_ _=>False)
  (hCX:∀ H e s',CX [] H s₁ (λ_ _=>False) e s'->False):
  codeAny (model P w) callerA (.call (.ref fa) ⟨[.ref a],[]⟩) (λr s'=>r=.ok (.ret (.bool true))/\OldK s₁.heap s'.heap/\s'.os=s₁.os/\AllBare s'.gens) s₁:=by
 have rv:=iO hi;have lenV:=hi.length;have core:∀ H:Hp,zh H->aK K H a (ns.map V.int)->dN P w H s₁.heap->(∀ b,H b≠none->b=a)->(H a≠none->K.lookup a=none)->
   codeAny (model P w) callerA (.call (.ref fa) ⟨[.ref a],[]⟩) (λr s'=>r=.ok (.ret (.bool true))/\OldK s₁.heap s'.heap/\s'.os=s₁.os/\AllBare s'.gens) s₁:=by
  intro H hO hS hok hA hK;have base_of:∀ {b:Addr}{o:Obj},s₁.heap.get? b=some o->H b=none->(jM s₁.heap H).get? b=some o:=λe n=>sX e n
  have noA:∀ {b:Addr}{o:Obj}{es:Array DictEntry}{ep:Nat},s₁.heap.get? b=some o->o.data=.dict es ep->H b=none:=λ{b o es ep} e d=>by
   cases q:H b with
   |none=>rfl
   |some u=>
    have e':b=a:=hA b (by rw[q];simp);subst e';rw[ha]at e;cases e;have d':Data.seq vs.toArray _=Data.dict es ep:=d;cases d'
  have nsK:∀ {b:Addr}{m:EN},s₁.heap.Ns b m->(jM s₁.heap H).Ns b m:=λ{b m} ⟨o,es,ep,e,d,r⟩=>⟨o,es,ep,base_of e (noA e d),d,r⟩
  have hKb:K.In (jM s₁.heap H):=λb o e=>base_of (KX b o e) (by
   cases q:H b with
   |none=>rfl
   |some u=>
    have e':b=a:=hA b (by rw[q];simp);subst e';rw[hK (by rw[q];simp)]at e;cases e)
  have hM:Mod K mg (jM s₁.heap H):=⟨hKb,nsK hns,⟨mb,nsK hb,hbb⟩,let⟨mc,h1,h2⟩:=hlim;⟨mc,nsK h1,h2⟩⟩;have e0:lX P w K mg (jM s₁.heap H) callerA [] s₁ H:=⟨rfl,hM,λb o e=>xl e,Nat.le_of_eq (pW _ _),trivial,λb hb=>absurd (show b ∈ ([]:List Addr) from hb) (by simp),hok,.of_eq hg⟩;refine codeAny_mono ((F _ hKb (nsK hns)).run callerA [] s₁ H ⟨[.ref a],[]⟩ [.ref a] [.ref a] _ _ hr e0 (hbind s₁ (.ref a)) (.cons rfl .nil) (hsp H hO hS)) λr s' h=>?_
  cases r with
  |error e=>exact(hCX H e s' h).elim
  |ok fl=>
   cases fl with
   |next=>exact False.elim h
   |brk=>exact False.elim h
   |cont=>exact False.elim h
   |ret u=>
    obtain⟨v,H',os,bare,un,hok',r',q⟩:=h;have q':v=.bl true:=q;subst q';obtain rfl:u=Value.bool true:=r';refine⟨rfl,OldK.of_keep λb o e=>?_,os,bare⟩;cases q:H b with
    |none=>exact un.keep b o e q (by intro z;exact absurd (show b ∈ ([]:List Addr) from z) (by simp)) (by simp)
    |some u=>
     rcases hO b with z|⟨ob,xs,z⟩
     .rw[q]at z;cases z
     .have z2:=un.frzs b ob _ z;obtain⟨e1,_⟩:=hok b _ z;obtain⟨e2,_⟩:=hok' b _ z2;rw[e]at e1;cases e1;exact e2
 cases hk:K.lookup a with
 |some o=>
  have e:=KX a o hk;rw[ha]at e;cases e;refine core (λ_=>none) (λ_=>.inl rfl) (.inr ⟨_,vs.toArray,_,hk,rfl,rfl,rfl,by rw[ge,lenV];exact hl,by simpa using rv⟩) (λb u z=>by have z':(none:Option HO)=some u:=z;cases z') (λb z=>absurd rfl z) λz=>absurd rfl z
 |none=>
  refine core (λb=>if b=a then some (.fZ { cls:=.type "list",data:=.seq vs.toArray } (.lst (ns.map V.int))) else none) (λb=>?_) (.inl (.inr ⟨{ cls:=.type "list",data:=.seq vs.toArray },if_pos rfl⟩)) (λb u z=>?_) (λb z=>?_) λ_=>hk
  .by_cases hb:b=a
   .exact .inr ⟨_,_,if_pos hb⟩
   .exact .inl (if_neg hb)
  .by_cases hb:b=a
   .have z':=(if_pos hb).symm.trans z;cases z';subst hb;exact⟨ha,by rw[ce];exact hl,vs,_,rv,ha⟩
   .have z':=(if_neg hb).symm.trans z;cases z'
  .by_cases hb:b=a
   .exact hb
   .exact absurd (if_neg hb) z
def wa {l:W.OpenLaw}{n k:Nat}{q:Program}{loose:List Str}{XP:(Str->Option Value)->Heap->Prop}{YP:World->Heap->Prop}{d:DefRec}{K:Params->W.Frag}{CX:World->mf}{sp:World->Sp}{x:Str}
  (hn:l.most=some n) (hn2:n<=bn) (hdf:d.params.defaults=[]) (hr:aX k callerA)
  (hY:∀ (w:World) (h:Heap),YP w h->(K w.params).In h)
  (F:∀ (w:World) (mg:EN) (fa:Addr) (h:Heap),(K w.params).In h->h.Ns mainGlobals mg->mg d.name=some (.ref fa)->
   ∃ fd:FuncData,(∀ (s:Shared) (u:Value),BindsTo s fd ⟨[u],[]⟩ [(x,u)])/\
    ∀ base:Heap,(K w.params).In base->base.Ns mainGlobals mg->bV l.prog w (K w.params) mg base (CX w) k fa fd [x] (sp w))
  (hsp:∀ (w:World) (H:Hp) (a:Addr) (ns:List Int),ns.length<=n->zh H->aK (K w.params) H a (ns.map V.int)->sp w [.ref a] H (λv _=>v=.bl true) λ_ _=>False)
  (hCX:∀ (w:World) (H:Hp) (s:Shared) (e:Value) (s':Shared),CX w [] H s (λ_ _=>False) e s'->False):
  W.WalkO q loose XP YP l.row.toRowW d [] (λf vs=>PySem.call f vs):=by
 refine Att.lE hn hdf λw s₀ s₁ mg mb fa o pm cd doc a vs ns G Y ho hd hcd hmg hobj hints hlen hg=>?_
 have KX:=hY w _ Y;obtain⟨fd,hb,hF⟩:=F w mg fa _ KX G.T.g hmg;exact rL KX G.T.g G.T.b G.T.builtins G.T.nolimit hg hobj hints (Nat.le_trans hlen hn2) hr hF hb (λH hO hS=>hsp w H a ns hlen hO hS) λH e s'=>hCX w H s₁ e s'
section
variable {P:Program}{w:World}{K:W.Frag}{mg:EN}{base:Heap}
end
def cf {n:Nat}(h:n<=1000):n<bn:=Nat.lt_of_le_of_lt h (by decide)
section
variable {X:Cx}
end
end L2
namespace L2
open PySem PySem.Spec PySem.W PyProof.Rows PySem.Builtin PySem.Builtin.ObjectAttr
variable {rs:List Addr}
section
variable {prog:Program}{w:World}{A:Around}{E:EL}{s:Shared}{K:W.Frag}{x C:Addr}{ox od:Obj}{name:Str}{expr:Bool}{v:Value}{Q:EL}
def kM:builtinKind "BaseException.__getattribute__"=some .slot:=by decide+kernel
def iH:splitId "BaseException.__getattribute__"=some ("BaseException","__getattribute__"):=by decide+kernel
def wk (X:K.In s.heap)(I:W.InstAt s.heap x ox C (some od))(hga:W.findIn K (.ref C) "__getattribute__"=some (some (.builtin "BaseException.__getattribute__"))) (hgn:W.findIn K (.ref C) "__getattr__"=some none)
  (hb:W.mroIn K C (.type "BaseException")=some true) (hf:W.findObj K C (some od) name=some (.value v)) (hh:W.handedIn v=true) (h:Q v { s with toks:=s.toks+1 }):
  wpAny (model prog w) A (getAttr (.ref x) name expr) Q E s:=by
 obtain⟨hp,g,d,t,os⟩:=s;have L0:=I.type (M:=model prog w);have L1:=looks_findIn (M:=model prog w) X hga;have L2':=looks_findIn (M:=model prog w) X hgn;have L3:=looks_find (M:=model prog w) X I hf;have L4:Looks (model prog w) hp (isInstance (.ref x) (.type "BaseException")) true:=I.type.andThen (looks_mroIn X hb);unfold getAttr getAttrBy;refine ad (wpAny_mkText (bd (ad (L0.at (ad (L1.at ?_))))));have e1:(Value.builtin "BaseException.__getattribute__" ==Value.builtin "object.__getattribute__")=false:=by decide+kernel
 dsimp only;rw[e1,Bool.and_false];show wpAny _ _ (getAttrByItsOwn _ _ _ _ _ _) _ _ _;unfold getAttrByItsOwn hookBefore;refine ad (L2'.at ?_);refine ad (wpAny_attempt (bd ?_));have e2:(expr&&onTheHeap (Value.builtin "BaseException.__getattribute__"))=false:=by cases expr<;>rfl
 unfold callGetattribute;rw[e2];show wpAny _ _ (boundAndCalled _ _ _) _ _ _;unfold boundAndCalled;rw[PySem.F.attr_ValueError.ga.bind];refine ad (am (wpAny_call (codeAny_call_builtin PySem.F.attr_ValueError.ga.plain PySem.F.entry_bexc_ga ?_)));refine @check_slot (model prog w) _ _ _ "BaseException.__getattribute__" "BaseException" "__getattribute__" (.ref x) [.str name t] [] _ kM iH L4 (PySem.F.args_bexc_ga (.ref x) (.str name t)) ?_;unfold Builtin.«object.__getattribute__»;refine ad (am (ad (am (ad (L0.at (ad (L3.at ?_)))))));refine am ?_;show wpAny _ _ (handedOut v) _ _ _;rw[handedOut_of hh];exact am h
abbrev tL:Value->Bool
 | .ref _=>true
 |_=>false
abbrev ba:List Value:=[.type "ValueError",.type "Exception",.type "BaseException",.type "object"]
abbrev cC (l:List Value):Bool:=l.dropWhile tL ==ba
def cA:∀ {l:List Value},cC l=true->∃ rs:List Addr,l=rs.map Value.ref++ba
 | [],e=>by cases e
 |c::r,e=>by
  by_cases h:tL c=true
  .have e':cC r=true:=by
    unfold cC at e⊢;rw[List.dropWhile_cons_of_pos h]at e;exact e
   obtain⟨rs,q⟩:=cA e';cases c with
   |ref a=>exact⟨a::rs,by rw[q];rfl⟩
   |_=>cases h
  .unfold cC at e;rw[List.dropWhile_cons_of_neg h]at e;exact⟨[],beq_iff_eq.mp e⟩
def gA (self:Value):∀ rs:List Addr,refuseLoop self "__setattr__" (rs.map Value.ref++ba)=pure ()
 | []=>PySem.F.store_ValueError.passes self
 |a::r=>by rw[map_cons,cons_append,refuseLoop_ref];exact gA self r
structure bM (K:W.Frag) (C:Addr):Prop where
 mt:W.typeIn K (.ref C)=some (.type "type")
 ov:(W.clsIn K C).any (λcd=>cC cd.mro)=true
 hd:W.hasDictIn K C=true
 ga:W.findIn K (.ref C) "__getattribute__"=some (some (.builtin "BaseException.__getattribute__"))
 gn:W.findIn K (.ref C) "__getattr__"=some none
 sa:W.findIn K (.ref C) "__setattr__"=some (some (.builtin "object.__setattr__"))
def bM.mro (c:bM K C):∃ (cd:ClassData) (rs:List Addr),W.clsIn K C=some cd/\cd.mro=rs.map Value.ref++ba:=by
 obtain⟨cd,h1,h2⟩:=W.any_some c.ov;obtain⟨rs,h3⟩:=cA h2;exact⟨cd,rs,h1,h3⟩
def kS (h:ba.contains v=true):(rs.map Value.ref++ba).contains v=true:=by
 rw[List.contains_eq_mem,decide_eq_true_eq]at h⊢;exact gt _ h
def nV:(rs.map Value.ref++ba).isEmpty=false:=by cases rs<;>rfl
def bM.sub (c:bM K C)(h:ba.contains v=true):W.mroIn K C v=some true:=by
 obtain⟨cd,rs,h1,h2⟩:=c.mro;unfold W.mroIn;rw[h1,Option.bind_some,h2,if_neg (by rw[nV];decide),kS h]
variable {R:Result->Shared->Prop}
def kK {tk:Tok}{odo:Option Obj}(X:K.In s.heap)(I:W.InstAt s.heap x ox C odo)(c:bM K C)(ht:W.findIn K (.ref C) name=some none)
  (h:wpAny (model prog w) A.in1 (storeInOwnDict (.ref x) (.ref C) (.str name tk) name v false)
   (λfin s'=>match fin with| .done f=>R (.ok f) s'| .again c'=>c'.quiet=true/\codeAny (model prog w) A c' R s') (λe s'=>R (.error e) s') s):
  codeAny (model prog w) A (.call (.builtin "object.__setattr__") ⟨[.ref x,.str name tk,v],[]⟩) R s:=by
 have SF:=PySem.F.store_object;obtain⟨cd,rs,hc,hm⟩:=c.mro;have sub:Looks (model prog w) s.heap (isInstance (.ref x) (.type "object")) true:=I.type.andThen (looks_mroIn X (c.sub (by decide+kernel)));refine codeAny_call_builtin SF.slot.plain SF.entry (@check_slot (model prog w) _ _ s "object.__setattr__" "object" "__setattr__" (.ref x) [.str name tk,v] [] _ SF.kind SF.split sub (SF.args (.ref x) (.str name tk) v) ?_);have hl:Looks (model prog w) s.heap (mroOf (.ref C)) cd.mro:=(looks_clsIn X hc).andThen .now;rw[osa_eq,refuse_eq];refine ad (ad (I.type.here (ad (hl.here ?_))));rw[hm,gA];refine am (ad (I.type.here (ad ((looks_findIn X ht).here (ad (am ?_))))));exact h
end
variable {Q:EL}{u:Value}
section
variable {X:Cx}{Y:EM}{U:St}{H:Hp}{s:Shared}{a C dx:Addr}{fs:List (Str×V)}{f:Str}{v:V}{A:Around}{E:EL}{fr:Bool}
def pN {b:Bool}(I:Inv X Y U H s)(e:H a=some (.exc C (some dx) fs fr))(c:bM X.K C)(n:cV X.K C f)(l:fs.lookup f=some v)
  (h:∀ u s',Inv X Y U H s'->RelV v u->Q u s'):wpAny (model X.prog X.w) A (getAttr (.ref a) f b) Q E s:=by
 obtain⟨⟨vs,ho,_⟩,z⟩:=I.hok a _ e;rcases z with⟨z,_⟩|⟨d,ed,_,_,_,mA,hn,r,_⟩
 .cases z
 cases ed;obtain⟨u,hu,ru⟩:=b9.some_of (v:=v) (o:=mA f) (by rw[<-l];exact r f);obtain⟨od,hod,hl⟩:=fB hn;refine wk (ox:={ cls:=.ref C,dict:=some dx,data:=.fields vs }) (od:=od) I.aY ⟨ho,rfl,rfl,hod⟩ c.ga c.gn (c.sub (by decide+kernel)) (W.findObj_own c.hd n rfl (by rw[hl,hu])) (iB ru) (h u _ (I.tok _) ru)
def mL {y:V}{Q:EK}(I:Inv X Y U H s)(e:H a=some (.exc C (some dx) fs fr))(c:bM X.K C)(n:cV X.K C f)(hl:fs.length<1000)(ry:RelV y u)
  (h:∀ s',Inv X Y U (upd H a (.exc C (some dx) (bT f y fs) fr)) s'->Q () s'):wpAny (model X.prog X.w) A (setAttr (.ref a) f u) Q E s:=by
 obtain⟨⟨vs,ho,zz⟩,z⟩:=id (I.hok a _ e);rcases z with⟨z,_⟩|⟨d,ed,hown,_,hne,mA,hn,r,wi⟩
 .cases z
 cases ed;obtain⟨od,hod,hlk⟩:=fB hn;have hz:(fs.map (·.1)).length<=bn:=by rw[ce,sizeLine_eq];omega
 have J:W.InstAt s.heap a { cls:=.ref C,dict:=some dx,data:=.fields vs } C (some od):=⟨ho,rfl,rfl,hod⟩;refine W.set_plain I.aY J c.sa (kK (s:={ s with toks:=s.toks+1 }) I.aY J c n ?_);obtain⟨cd,hc,hd'⟩:=W.any_some c.hd;refine ad (am (ad (ad (wpAny_loadPart ho (ad (W.Looks.here (s:={ s with toks:=s.toks+1 }) (W.looks_clsIn I.aY hc) ?_))))));rw[hd'];refine am (a:=some dx) (ad (am (ad ?_)));refine wpAny_nsSet1 (s:={ s with toks:=s.toks+1 }) hn λh' hn2 hs2=>?_
 obtain⟨oD,esD,epD,hoD,hdD,hcD⟩:=hn2.count (PySem.Within.cons f u wi);refine ad (wpAny_lookBehind hoD (by rw[hdD];exact pastItsLine_dict (Nat.le_trans hcD (by rw[length_cons];omega))) ?_);refine am (h _ ?_);refine I.write (x:=a) (e:=dx) (by rw[e];exact True.intro) (.inr hown) (λb q hb z=>(hs2.2 b hb).trans z) ⟨oD,hoD⟩ ?_;refine⟨⟨vs,(hs2.2 _ (Ne.symm hne)).trans ho,zz⟩,.inr ⟨dx,rfl,by rw[af hne];exact hown,?_,hne,_,hn2,λg=>?_,λg hg=>?_⟩⟩
 .have:=cN f y fs;omega
 .show b9 ((bT f y fs).lookup g) (if g=f then some u else mA g);rw[c4]
  by_cases q:g=f
  .rw[if_pos q,if_pos q];exact ry
  .rw[if_neg q,if_neg q];exact r g
 .by_cases q:g=f
  .rw[q];exact(bY f y fs).1
  .refine(bY f y fs).2 g (wi g λz=>hg ?_);show(if g=f then some u else mA g)=none;rw[if_neg q];exact z
def mZ {y:V}{Q:EK}(I:Inv X Y U H s)(e:H a=some (.exc C none fs fr))(c:bM X.K C)(n:cV X.K C f)(ry:RelV y u)
  (h:∀ d s',H d=none->Inv X Y U (upd (upd H d (.own a)) a (.exc C (some d) [(f,y)] fr)) s'->Q () s'):wpAny (model X.prog X.w) A (setAttr (.ref a) f u) Q E s:=by
 obtain⟨⟨vs,ho,zz⟩,z⟩:=id (I.hok a _ e);have hfs:fs=[]:=by
  rcases z with⟨_,z⟩|⟨d,ed,_⟩
  .exact z
  .cases ed
 subst hfs;have J:W.InstAt s.heap a { cls:=.ref C,dict:=none,data:=.fields vs } C none:=⟨ho,rfl,rfl,True.intro⟩;refine W.set_plain I.aY J c.sa (kK (s:={ s with toks:=s.toks+1 }) I.aY J c n ?_);obtain⟨cd,hc,hd'⟩:=W.any_some c.hd;refine ad (am (ad (ad (wpAny_loadPart ho (ad (W.Looks.here (s:={ s with toks:=s.toks+1 }) (W.looks_clsIn I.aY hc) ?_))))));rw[hd'];have hlt:=ss ho;have hxs:a≠s.heap.objs.size:=nw hlt;have ho1:(s.heap.push { cls:=.type "dict",data:=.dict #[] }).get? a=some { cls:=.ref C,dict:=none,data:=.fields vs }:=sn _ ho;refine ad (wpAny_alloc' ?_);refine ad (wpAny_update' ho1 ?_);refine am ?_;have hgd:((s.heap.push { cls:=.type "dict",data:=.dict #[] }).update a λo=>{ o with dict:=some s.heap.objs.size }).get? s.heap.objs.size=some { cls:=.type "dict",data:=.dict #[] }:=
  (Heap.get?_update_ne _ _ _ _ hxs.symm).trans (Heap.get?_push_at rfl rfl)
 have hga:((s.heap.push { cls:=.type "dict",data:=.dict #[] }).update a λo=>{ o with dict:=some s.heap.objs.size }).get? a=some { cls:=.ref C,dict:=some s.heap.objs.size,data:=.fields vs }:=
  Heap.get?_update_self _ ho1 rfl
 have hnd:((s.heap.push { cls:=.type "dict",data:=.dict #[] }).update a λo=>{ o with dict:=some s.heap.objs.size }).Ns s.heap.objs.size (λ_=>none):=
  ⟨_,#[],_,hgd,rfl,λe he=>absurd he (by simp),λ_=>rfl⟩
 show wpAny _ _ (storeInDict s.heap.objs.size (.str f _) f u) _ _ _;unfold storeInDict newKeyGuard;refine ad (am (ad (wpAny_nsSet1 (Heap.Ns1.of_empty hnd) λh' hn2 hs2=>?_)));obtain⟨oD,esD,epD,hoD,hdD,hcD⟩:=hn2.count (PySem.Within.cons f u PySem.Within.nil);refine ad (wpAny_lookBehind hoD (by rw[hdD];exact pastItsLine_dict (Nat.le_trans hcD (by rw[length_cons,List.length_nil,sizeLine_eq];omega))) ?_);have hd0:H s.heap.objs.size=none:=I.hok.fresh (pc _);refine am (h s.heap.objs.size _ hd0 ?_);have e':upd H s.heap.objs.size (.own a) a=some (.exc C none [] fr):=by rw[af hxs];exact e
 have I1:Inv X Y U (upd H s.heap.objs.size (.own a)) { s with heap:=s.heap.push { cls:=.type "dict",data:=.dict #[] },toks:=s.toks+1 }:=
  I.laid (a:=s.heap.objs.size) (o:=.own a) (t':=s.toks+1) (λb u q=>sn _ q) (pc _) ⟨_,sw s.heap rfl⟩
 have I2:=I1.write (x:=a) (e:=a) (o:=.exc C (some s.heap.objs.size) [] fr) (t':=s.toks+1) (h':=(s.heap.push { cls:=.type "dict",data:=.dict #[] }).update a λo=>{ o with dict:=some s.heap.objs.size })
  (by rw[e'];exact True.intro) (.inl rfl) (λb q hb z=>(Heap.get?_update_ne _ _ _ _ hb).trans z) ⟨_,hga⟩
  ⟨⟨vs,hga,zz⟩,.inr ⟨_,rfl,by rw[af hxs.symm,aj],Nat.zero_le _,hxs.symm,_,Heap.Ns1.of_empty hnd,λ_=>True.intro,λy hy=>absurd rfl hy⟩⟩
 have ga':h'.get? a=some { cls:=.ref C,dict:=some s.heap.objs.size,data:=.fields vs }:=(hs2.2 a hxs).trans hga;have I3:=I2.write (x:=a) (e:=s.heap.objs.size) (o:=.exc C (some s.heap.objs.size) [(f,y)] fr) (t':=s.toks+1+1) (h':=h') (by rw[aj];exact True.intro) (.inr (by rw[af hxs.symm,aj]))
  (λb q hb z=>(hs2.2 b hb).trans z) ⟨oD,hoD⟩
  ⟨⟨vs,ga',zz⟩,.inr ⟨_,rfl,by rw[af hxs.symm,af hxs.symm,aj],by show 1<=1000;decide,hxs.symm,_,hn2,λg=>?_,λg hg=>?_⟩⟩
 .rw[wQ]at I3;exact I3
 .show b9 (List.lookup g [(f,y)]) (if g=f then some u else none)
  by_cases q:g=f
  .have hb:(g ==f)=true:=beq_iff_eq.mpr q;simp only[List.lookup,hb,if_pos q];exact ry
  .have hb:(g ==f)=false:=beq_eq_false_iff_ne.mpr q;simp only[List.lookup,hb,if_neg q];exact True.intro
 .by_cases q:g=f
  .rw[q];simp
  .exact absurd (show(if g=f then some u else none)=none by rw[if_neg q]) hg
end
section
variable {X:Cx}{Y:EM}{U:St}{H:Hp}{s:Shared}{a C:Addr}{dx:Option Addr}{fs:List (Str×V)}{f:Str}{v:V}{A:Around}{E:EL}{fr:Bool}
def Inv.fields {vs':Array Value}{h':Heap}{t':Nat}(I:Inv X Y U H s)(e:H a=some (.exc C dx fs fr))(hs:vs'.size=6)(h1:fr=true->vs'[1]? =some Value.none)
  (ha:h'.get? a=some { cls:=.ref C,dict:=dx,data:=.fields vs' }) (k:∀ b u,b≠a->s.heap.get? b=some u->h'.get? b=some u):Inv X Y U H { s with heap:=h',toks:=t' }:=by
 have I2:=I.write (x:=a) (e:=a) (o:=.exc C dx fs fr) (t':=t') (h':=h') (by rw[e];exact True.intro) (.inl rfl) k ⟨_,ha⟩ ?_
 .have:upd H a (.exc C dx fs fr)=H:=by
   funext b
   by_cases hb:b=a
   .rw[hb,aj,e]
   .rw[af hb]
  rw[this]at I2;exact I2
 .obtain⟨_,z⟩:=id (I.hok a _ e);refine⟨⟨vs',ha,hs,h1⟩,?_⟩;rcases z with z|⟨d,ed,d1,z1,ne,mA,⟨od,es,ep,e2,c⟩,r⟩
  .exact .inl z
  .exact .inr ⟨d,ed,by rw[af ne];exact d1,z1,ne,mA,⟨od,es,ep,k _ _ ne e2,c⟩,r⟩
def gF {R:Result->Shared->Prop}(I:Inv X Y U H s)(e:H a=some (.exc C dx fs fr))(c:bM X.K C)
  (h:∀ s',Inv X Y U H s'->R (.ok (.ret .none)) s'):codeAny (model X.prog X.w) A (.call (.builtin "ValueError.__init__") ⟨[.ref a,u],[]⟩) R s:=by
 have F:=PySem.F.excCall_ValueError;obtain⟨⟨vs,ho,hsz,h1⟩,z⟩:=id (I.hok a _ e);have L4:Looks (model X.prog X.w) s.heap (isInstance (.ref a) (.type "ValueError")) true:=(show Looks (model X.prog X.w) s.heap (typeOf (.ref a)) (.ref C) from(Looks.ld ho).andThen .now).andThen (looks_mroIn I.aY (c.sub (by decide+kernel)));refine codeAny_call_builtin F.init.plain F.initEntry ?_;simp only[checkBuiltinCall,F.initKind,F.initSplit,F.initRow];refine ad (L4.here ?_);simp only[Bool.not_true,Bool.false_eq_true,if_false];have hshort:("ValueError" != "*")=true:=by decide
 have h0:∃ a0,vs[0]? =some a0:=⟨_,Array.getElem?_eq_getElem nofun⟩;obtain⟨a0,h0⟩:=h0;obtain⟨hp,g,d,t,os⟩:=s;unfold Bind.checkArgs;have hn:Looks (model X.prog X.w) hp (typeOf (.ref a)) (.ref C):=(Looks.ld ho).andThen .now;obtain⟨cd,rs,hcl,_⟩:=c.mro;obtain⟨oc,od,sl,hC⟩:∃ oc od sl,hp.get? C=some ⟨oc,od,.cls cd,sl⟩:=by
  unfold W.clsIn at hcl
  split at hcl
  .rename_i ho';cases hcl;exact⟨_,_,_,I.aY _ _ ho'⟩
  .cases hcl
 repeat(first|with_reducible refine wpAny_load hC ?_|wp_step)
 rw[h0];have ho1:(hp.push { cls:=.type "tuple",data:=.seq #[u] }).get? a=some { cls:=.ref C,dict:=dx,data:=.fields vs }:=sn _ ho;have hq:=Heap.get?_update_self (Obj.mapFields (·.setIfInBounds 0 (.ref hp.objs.size))) ho1 (Obj.isFreed_of_fields (Obj.data_mapFields rfl _));have fin:R (.ok (.ret Value.none)) ⟨(hp.push { cls:=.type "tuple",data:=.seq #[u] }).update a (Obj.mapFields (·.setIfInBounds 0 (.ref hp.objs.size))),g,d,t,os⟩:=by
  refine h _ (I.fields (vs':=vs.setIfInBounds 0 (.ref hp.objs.size)) (t':=t) e (by simpa using hsz) (λz=>?_) hq λb q hb z'=>?_)
  .rw[Array.getElem?_setIfInBounds_ne (by decide)];exact h1 z
  .exact(Heap.get?_update_ne _ _ _ _ hb).trans (sn _ z')
 refine am (ad (wpAny_setField ho1 rfl nofun ?_));cases a0<;>first|exact am (am fin)|exact wpAny_letGo (am fin)
def ng (I:Inv X Y U H s)(e:H a=some (.exc C dx fs fr))(c:bM X.K C)
  (h:∀ s',Inv X Y U H s'->Q .none s'):wpAny (model X.prog X.w) A (call (.builtin "ValueError.__init__") [.ref a,u]) Q E s:=wpAny_call (gF I e c h)
end
abbrev bg (K:W.Frag)(C:Addr):Bool:=match K.lookup C with
 |some ⟨_,_,.cls cd,sl⟩=>!cd.abstract&& !cd.hasDel&&(sl.toList[4]?).join ==some (.builtin "ValueError.__new__")&&cC cd.mro&&cd.mro.contains (.ref C)&&
   W.specialIn K (.ref C) "__call__" ==some (some (.builtin "type.__call__"))&&W.instIn K (.ref C) (.type "type") ==some true
 |_=>false
structure t7 (M:Model) (h:Heap) (C:Addr):Prop where
 obj:∃ oc od cd sl,h.get? C=some ⟨oc,od,.cls cd,sl⟩/\cd.abstract=false/\cd.hasDel=false/\cd.mro.isEmpty=false
 made:W.Looks M h (Bind.madeBy (.ref C)) (some "ValueError.__new__")
 base:W.Looks M h (Bind.staticBase (.ref C)) (.ref C)
 self:W.Looks M h (isSubtype (.ref C) (.ref C)) true
 top:W.Looks M h (isSubtype (.ref C) (.type "ValueError")) true
 no1:W.Looks M h (isSubtype (.ref C) (.type "AttributeError")) false
 no2:W.Looks M h (isSubtype (.ref C) (.type "NameError")) false
 call:W.Looks M h (specialOf (.ref C) "__call__") (some (.builtin "type.__call__"))
 typ:W.Looks M h (isInstance (.ref C) (.type "type")) true
def nJ {n:String}(h:ba.contains (.type n)=false):(rs.map Value.ref++ba).contains (.type n)=false:=by
 induction rs with
 |nil=>exact h
 |cons a r ih=>rw[map_cons,cons_append,List.contains_cons,ih];rfl
def iA {K:W.Frag}{M:Model}{h:Heap}(X:K.In h){C:Addr}(e:bg K C=true):t7 M h C:=by
 unfold bg at e
 split at e
 .rename_i oc od cd sl ho;simp only[lv,Bool.not_eq_true',beq_iff_eq]at e;obtain⟨⟨⟨⟨⟨⟨e1,e2⟩,e3⟩,e4⟩,e5⟩,e7⟩,e8⟩:=e;obtain⟨rs,em⟩:=cA e4;have hc:W.clsIn K C=some cd:=by unfold W.clsIn;rw[ho]
  have hm:Looks M h (mroOf (.ref C)) cd.mro:=(looks_clsIn X hc).andThen .now;have ne:cd.mro.isEmpty=false:=by rw[em];exact nV
  obtain⟨c,l,hl⟩:∃ c l,cd.mro=c::l:=by
   cases q:cd.mro with
   |nil=>rw[q]at ne;cases ne
   |cons c l=>exact⟨c,l,rfl⟩
  have made:Looks M h (Bind.madeBy (.ref C)) (some "ValueError.__new__"):=by
   intro A Q E s k q;unfold Bind.madeBy;refine ad (hm A _ E s k ?_);rw[hl,forIn_cons];refine ad (ad (ad (ad (wpAny_loadPart (k _ _ (X _ _ ho)) (am ?_)))));dsimp only;rw[<-Array.getElem?_toList,e3];exact am (am (am q))
  have mro:∀ {v b},cd.mro.contains v=b->W.mroIn K C v=some b:=λ{v b} q=>by
   unfold W.mroIn;rw[hc,Option.bind_some,if_neg (by rw[ne];decide),q]
  refine⟨⟨oc,od,cd,sl,X _ _ ho,e1,e2,ne⟩,made,?_,looks_mroIn X (mro e5),looks_mroIn X (mro (by rw[em];exact kS (by decide+kernel))),looks_mroIn X (mro (by rw[em];exact nJ (by decide+kernel))),looks_mroIn X (mro (by rw[em];exact nJ (by decide+kernel))),looks_specialIn X e7,looks_instIn X e8⟩;intro A Q E s k q;unfold Bind.staticBase;refine ad (hm A _ E s k ?_);rw[hl,forIn_cons];exact ad (ad (ad (made A _ E s k (am (am (am q))))))
 .cases e
variable {rest:List Value}
section
variable {prog:Program}{w:World}{A:Around}{K:W.Frag}{C:Addr}{R:Result->Shared->Prop}{h:Heap}{g:Array GenState}{d:Drawn}{t:Nat}{os:OsState}
def xY (Y:t7 (model prog w) h C)(hz:rest.length<=bn)
  (hq:R (.ok (.ret (.ref (h.objs.size+1)))) ⟨(h.push { cls:=.type "tuple",data:=.seq rest.toArray }).push { cls:=.ref C,data:=.fields #[.ref h.objs.size,.none,.none,.none,.bool false,.none] },g,d,t,os⟩):
  codeAny (model prog w) A (.call (.builtin "ValueError.__new__") ⟨.ref C::rest,[]⟩) R ⟨h,g,d,t,os⟩:=by
 obtain⟨⟨oc,od,cd,sl,hC,e1,e2,e4⟩,made,base,self,top,no1,no2,call,typ⟩:=Y;have F:=PySem.F.excBase_ValueError;have here:Looks (model prog w) h (Bind.madeHere "BaseException.__new__" (.ref C)) ():=base.andThen (made.andThen (Looks.of_pure (by simp only[Option.map_some,F.canon,bne_self_eq_false,Bool.false_eq_true,if_false])));refine codeAny_call_builtin_code (Code.quiet_builtin _ F.quiet) ?_;simp only[checkBuiltinCall,F.newKind,F.newSplit,F.newRow]
 repeat(first|simp only[bne_self_eq_false,Bool.false_eq_true,if_false]|lk)
 refine codeAny_builtinAt F.entry ?_;unfold Builtin.«BaseException.__new__»;refine PySem.wpAt_bind ?_;show PySem.wpAt _ _ _ (stack >>= _) _ _ _;refine PySem.wpAt_bind (PySem.wpAt_stack λp below=>PySem.wpAt_of_wpAny ?_);have hends:=F.ends
 wp_walk
 refine PySem.wpAt_of_wpAny ?_;rw[F.owner]
 repeat(first|simp only[Bool.not_true,Bool.false_eq_true,if_false]|lk)
 rw[if_neg (show ¬ (rest.toArray.size>bn) by rw[ge];omega)];unfold newObjAsIs;refine ad (wpAny_alloc (am (ad ?_)));show wpAny _ _ (newObjAsIs _ _ _) _ _ _;unfold newObjAsIs classHasDel;refine ad (wpAny_alloc (ad (ad (wpAny_load (sn _ (sn _ hC)) (am ?_)))));rw[e2];refine am (am ?_);show R _ _;rw[Heap.size_push];exact hq
def yG {fI:Addr}(X:K.In h)(hz:rest.length<=bn)(hm:bg K C=true)(hi:W.findIn K (.ref C) "__init__"=some (some (.ref fI))) (hf:W.typeIn K (.ref fI)=some (.type "function"))
  (hq:codeAny (model prog w) (A.under (.builtin "type.__call__" ⟨.ref C::rest,[]⟩)) (.call (.ref fI) ⟨.ref (h.objs.size+1)::rest,[]⟩) (InitBack (h.objs.size+1) R)
   ⟨(h.push { cls:=.type "tuple",data:=.seq rest.toArray }).push { cls:=.ref C,data:=.fields #[.ref h.objs.size,.none,.none,.none,.bool false,.none] },g,d,t,os⟩):
  codeAny (model prog w) A (.call (.ref C) ⟨rest,[]⟩) R ⟨h,g,d,t,os⟩:=by
 have Y:=iA (M:=model prog w) X hm;have Y':=Y;obtain⟨⟨oc,od,cd,sl,hC,e1,e2,e4⟩,made,base,self,top,no1,no2,call,typ⟩:=Y;refine codeAny_of_tree ?_;show wpAny _ _ (callAny (.ref C) _) _ _ _;refine nd_load hC ?_;show wpAny _ _ (callAny.viaDunder (.ref C) _) _ _ _;unfold callAny.viaDunder;refine ad (call.at ?_);dsimp only;rw[tc_bind];refine ad (am (ad (am ?_)));refine am (a:=Fin.again (.call (.builtin "type.__call__") ⟨.ref C::rest,[]⟩)) (And.intro rfl ?_);refine codeAny_call_builtin_at (Code.quiet_builtin _ (by decide+kernel)) entry_typeCall (check_slot tc_kind tc_split typ (tc_args _ _ _) ?_);unfold Builtin.«type.__call__»;have hmr:Looks (model prog w) h (mroOf (.ref C)) cd.mro:=((Looks.ld (part:=none) hC).andThen .now).andThen .now
 repeat(first|simp only[e4,Bool.false_eq_true,if_false]|with_reducible refine wpAny_call ?_|lk)
 refine xY Y' hz ?_;have k:∀ b o,h.get? b=some o->((h.push { cls:=.type "tuple",data:=.seq rest.toArray }).push { cls:=.ref C,data:=.fields #[.ref h.objs.size,.none,.none,.none,.bool false,.none] }).get? b=some o:=λb o e=>sn _ (sn _ e)
 have hx:((h.push { cls:=.type "tuple",data:=.seq rest.toArray }).push { cls:=.ref C,data:=.fields #[.ref h.objs.size,.none,.none,.none,.bool false,.none] }).get? (h.objs.size+1)=some { cls:=.ref C,data:=.fields #[.ref h.objs.size,.none,.none,.none,.bool false,.none] }:=by heap_get
 have t1:Looks (model prog w) ((h.push { cls:=.type "tuple",data:=.seq rest.toArray }).push { cls:=.ref C,data:=.fields #[.ref h.objs.size,.none,.none,.none,.bool false,.none] }) (typeOf (.ref (h.objs.size+1))) (.ref C):=(Looks.ld hx).andThen .now;have s1:=self.keeps k;have i1:=(looks_findIn (M:=model prog w) X hi).keeps k;have b1:=(bind_fn (M:=model prog w) X (.ref (h.objs.size+1)) hf).keeps k;unfold isInstance callSpecial? specialOf
 repeat(first|with_reducible refine wpAny_call ?_|lk)
 refine codeAny_mono hq λr s' z=>?_
 rcases r with e|(v|_|_|_)<;>first|exact z|exact z.elim|skip
 obtain⟨rfl,z⟩:=z;exact am (am z)
def vi (X:K.In h)(hz:rest.length<=bn)(hm:bg K C=true)(hi:W.findIn K (.ref C) "__init__"=some (some (.builtin "ValueError.__init__")))
  (hq:codeAny (model prog w) (A.under (.builtin "type.__call__" ⟨.ref C::rest,[]⟩)) (.call (.builtin "ValueError.__init__") ⟨.ref (h.objs.size+1)::rest,[]⟩) (InitBack (h.objs.size+1) R)
   ⟨(h.push { cls:=.type "tuple",data:=.seq rest.toArray }).push { cls:=.ref C,data:=.fields #[.ref h.objs.size,.none,.none,.none,.bool false,.none] },g,d,t,os⟩):
  codeAny (model prog w) A (.call (.ref C) ⟨rest,[]⟩) R ⟨h,g,d,t,os⟩:=by
 have Y:=iA (M:=model prog w) X hm;have Y':=Y;obtain⟨⟨oc,od,cd,sl,hC,e1,e2,e4⟩,made,base,self,top,no1,no2,call,typ⟩:=Y;refine codeAny_of_tree ?_;show wpAny _ _ (callAny (.ref C) _) _ _ _;refine nd_load hC ?_;show wpAny _ _ (callAny.viaDunder (.ref C) _) _ _ _;unfold callAny.viaDunder;refine ad (call.at ?_);dsimp only;rw[tc_bind];refine ad (am (ad (am ?_)));refine am (a:=Fin.again (.call (.builtin "type.__call__") ⟨.ref C::rest,[]⟩)) (And.intro rfl ?_);refine codeAny_call_builtin_at (Code.quiet_builtin _ (by decide+kernel)) entry_typeCall (check_slot tc_kind tc_split typ (tc_args _ _ _) ?_);unfold Builtin.«type.__call__»;have hmr:Looks (model prog w) h (mroOf (.ref C)) cd.mro:=((Looks.ld (part:=none) hC).andThen .now).andThen .now
 repeat(first|simp only[e4,Bool.false_eq_true,if_false]|with_reducible refine wpAny_call ?_|lk)
 refine xY Y' hz ?_;have k:∀ b o,h.get? b=some o->((h.push { cls:=.type "tuple",data:=.seq rest.toArray }).push { cls:=.ref C,data:=.fields #[.ref h.objs.size,.none,.none,.none,.bool false,.none] }).get? b=some o:=λb o e=>sn _ (sn _ e)
 have hx:((h.push { cls:=.type "tuple",data:=.seq rest.toArray }).push { cls:=.ref C,data:=.fields #[.ref h.objs.size,.none,.none,.none,.bool false,.none] }).get? (h.objs.size+1)=some { cls:=.ref C,data:=.fields #[.ref h.objs.size,.none,.none,.none,.bool false,.none] }:=by heap_get
 have t1:Looks (model prog w) ((h.push { cls:=.type "tuple",data:=.seq rest.toArray }).push { cls:=.ref C,data:=.fields #[.ref h.objs.size,.none,.none,.none,.bool false,.none] }) (typeOf (.ref (h.objs.size+1))) (.ref C):=(Looks.ld hx).andThen .now;have s1:=self.keeps k;have i1:=(looks_findIn (M:=model prog w) X hi).keeps k;have b1:Looks (model prog w) ((h.push { cls:=.type "tuple",data:=.seq rest.toArray }).push { cls:=.ref C,data:=.fields #[.ref h.objs.size,.none,.none,.none,.bool false,.none] }) (bindSpecial (.builtin "ValueError.__init__") (.ref (h.objs.size+1))) (.builtin "ValueError.__init__",[.ref (h.objs.size+1)]):=Looks.of_pure (PySem.F.excCall_ValueError.init.bind _);unfold isInstance callSpecial? specialOf
 repeat(first|with_reducible refine wpAny_call ?_|lk)
 refine codeAny_mono hq λr s' z=>?_
 rcases r with e|(v|_|_|_)<;>first|exact z|exact z.elim|skip
 obtain⟨rfl,z⟩:=z;exact am (am z)
end
end L2
namespace L2
open PySem PySem.Spec PySem.W PyProof.Rows
abbrev aV (e:Addr)(h h':Heap):Prop:=∀ oe vs,h.get? e=some oe->oe.data=.fields vs->∃ vs',h'.get? e=some { oe with data:=.fields vs' }/\vs'.size=vs.size
abbrev Ap (as:List Addr)(h h':Heap):Prop:=∀ b o,b ∉ as->h.get? b=some o->h'.get? b=some o
abbrev uG (h:Heap)(e T:Addr)(fl:Value):Prop:=∃ oe vs oT ts,h.get? e=some oe/\oe.data=.fields vs/\vs[1]? =some (.ref T)/\T≠e/\h.get? T=some oT/\oT.data=.fields ts/\ts[3]? =some fl
def aV.trans {e:Addr}{h h1 h2:Heap}(a:aV e h h1)(b:aV e h1 h2):aV e h h2:=λoe vs x y=>by
 obtain⟨vs1,x1,z1⟩:=a oe vs x y;obtain⟨vs2,x2,z2⟩:=b _ vs1 x1 rfl;exact⟨vs2,x2,z2.trans z1⟩
def aV.same {e:Addr}{h h':Heap}(k:h'.get? e=h.get? e):aV e h h':=λoe vs x y=>⟨vs,by rw[k,x,<-y],rfl⟩
variable {Q:EK}
section
variable {M:Model}{A:Around}{E:EL}{s:Shared}{base:Heap}{env:Env}{outer:List Env}{L e:Addr}
def i4 {oe:Obj}{vs:Array Value}{head:Value}{hadNext:Bool}(hfr:A.frames=some (env::outer))(hl:s.heap.FunFrames base (env::outer))(hf:env.frame=some L)
  (he:s.heap.get? e=some oe) (hd:oe.data=.fields vs) (hsz:1<vs.size)
  (q:∀ h' T,s.heap.objs.size<=T->uG h' e T (rawInt L)->aV e s.heap h'->(∀ b o,b≠e->s.heap.get? b=some o->∃ sl,h'.get? b=some { o with slots:=sl })->Ap (e::jh (env::outer)) s.heap h'->Q () { s with heap:=h' }):
  wpAny M A (do let a <-frameOf env;let pl <-entryPlaceOf L hadNext;let b <-EntryCells.newEntry head a .none (rawInt L) .none pl;setField (.ref e) 1 b) Q E s:=by
 have hne:e ∉ jh (env::outer):=λhm=>by
  obtain⟨_,o,ho,hnf⟩:=hl.mem hm;rw[he]at ho;cases ho;exact hnf vs hd
 refine ad (wpAny_frameOf_fun hfr hl hf λh1 s1=>ad (wpAny_entryPlaceOf λpl hpl=>?_));unfold EntryCells.newEntry newFields;refine ad (wpAny_newObj_type ?_ (hpl.sizeOk5 _ _ _ _ _));have e1:h1.get? e=some oe:=(s1.2.1 e hne).trans he;have e2:=sn (h:=h1) { cls:=.type "traceback",dict:=none,data:=.fields ([head,.ref L,.none,rawInt L,.none]++(if pl.isEmpty then re 6 Value.none else pl)).toArray } e1;have hTe:h1.objs.size≠e:=Nat.ne_of_gt (ss e1);have d3:=Obj.data_mapFields hd (·.setIfInBounds 1 (Value.ref h1.objs.size));have e3:=Heap.get?_update_self (Obj.mapFields (·.setIfInBounds 1 (Value.ref h1.objs.size))) e2 (Obj.isFreed_of_fields d3);have t3:=(Heap.get?_update_other (h1.push { cls:=.type "traceback",dict:=none,data:=.fields ([head,.ref L,.none,rawInt L,.none]++(if pl.isEmpty then re 6 Value.none else pl)).toArray })
  (Obj.mapFields (·.setIfInBounds 1 (Value.ref h1.objs.size))) (Ne.symm hTe)).trans (sw h1 rfl)
 have keep:∀ b o,b≠e->h1.get? b=some o->((h1.push { cls:=.type "traceback",dict:=none,data:=.fields ([head,.ref L,.none,rawInt L,.none]++(if pl.isEmpty then re 6 Value.none else pl)).toArray }).update e (Obj.mapFields (·.setIfInBounds 1 (Value.ref h1.objs.size)))).get? b=some o:=
  λb o hb hq=>(Heap.get?_update_other _ _ (Ne.symm hb)).trans (sn _ hq)
 refine wpAny_setField e2 hd hsz (q _ h1.objs.size ?_ ?_ ?_ (λb o hb ho=>?_) λb o hb ho=>?_)
 .rw[s1.1];exact pc _
 .refine⟨_,_,_,_,e3,d3,by simp[hsz],hTe,t3,rfl,?_⟩
  first|(simp;done)|(rcases hpl with rfl|⟨_,_,_,_,_,_,_,rfl⟩<;>simp)
 .intro oe' vs' x y;rw[he]at x;cases x;rw[hd]at y;cases y;refine⟨vs.setIfInBounds 1 (.ref h1.objs.size),?_,by simp⟩;rw[e3];obtain⟨c0,d0,dt,sl0⟩:=oe;cases hd
  rfl
 .obtain⟨sl,z⟩:=s1.2.2 b o ho;exact⟨sl,keep b _ hb z⟩
 .exact keep b o (λz=>hb (by rw[z];exact lf)) ((s1.2.1 b λz=>hb (dl _ z)).trans ho)
abbrev Ai (n₀:Nat)(ps:EM)(H:Hp)(h:Heap)(e:Addr):Prop:=(∃ oe vs,h.get? e=some oe/\oe.data=.fields vs/\vs[1]? =some Value.none)\/∃ T,n₀<=T/\H T=none/\(∀ p ∈ ps,p.1≠T)/\uG h e T .none
def uS {n₀:Nat}{ps:EM}{H:Hp}(hfr:A.frames=some (env::outer))(hl:s.heap.FunFrames base (env::outer))(hf:env.frame=some L)(sf:Ai n₀ ps H s.heap e)(h0:n₀<=s.heap.objs.size)(hps:∀ p ∈ ps,p.1<s.heap.objs.size)
  (q:∀ h' T T0,s.heap.objs.size<=T->n₀<=T0->(H T0=none\/s.heap.objs.size<=T0)->(∀ p ∈ ps,p.1≠T0)->(∀ o,s.heap.get? T0=some o->∃ ts,o.data=.fields ts)->uG h' e T (rawInt L)->aV e s.heap h'->h'.FunFrames base (env::outer)->(∀ b o,b≠e->b≠T0->s.heap.get? b=some o->∃ sl,h'.get? b=some { o with slots:=sl })->Ap (e::T0::jh (env::outer)) s.heap h'->(∀ b o,s.heap.get? b=some o->∃ o',h'.get? b=some o')->Q () { s with heap:=h' }):
  wpAny M A (noteFrame (.ref e) env) Q E s:=by
 have fun_of:∀ {h':Heap}{as:List Addr},(∀ b ∈ as,∀ o,s.heap.get? b=some o->∃ vs,o.data=.fields vs)->(∀ b o,b ∉ as->s.heap.get? b=some o->∃ sl,h'.get? b=some { o with slots:=sl })->h'.FunFrames base (env::outer):=
  λ{h' as} ha k=>hl.of_keeps λb o ho hnf=>by
   by_cases hb:b ∈ as
   .obtain⟨vs,z⟩:=ha b hb o ho;exact absurd z (hnf vs)
   .obtain⟨sl,z⟩:=k b o hb ho;exact⟨_,z,rfl⟩
 unfold noteFrame;simp only[hf];rcases sf with⟨oe,vs,he,hd,h1⟩|⟨T0,hT0,hH0,hp0,oe,vs,oT,ts,he,hd,h1,hTe,hT,hdT,h3⟩
 .skip
  refine ad (ap he hd h1 ?_);rw[if_neg (by decide)];refine i4 hfr hl hf he hd (Array.getElem?_eq_some_iff.mp h1).1 λh' T hT st fo sl sy=>?_
  refine q h' T s.heap.objs.size hT h0 (.inr (pc _)) (λp hp=>nw (hps p hp)) (λo z=>absurd (ss z) (Nat.lt_irrefl _)) st fo ?_ (λb o hb _ ho=>sl b o hb ho) (λb o hb ho=>sy b o (λz=>hb ?_) ho) λb o ho=>?_
  .refine fun_of (as:=[e]) (λb hb o ho=>?_) λb o hb ho=>sl b o (by simpa using hb) ho
   obtain rfl:b=e:=by simpa using hb
   rw[he]at ho;cases ho;exact⟨vs,hd⟩
  .rcases li.mp z with z|z
   .exact li.mpr (.inl z)
   .exact dl _ (dl _ z)
  .by_cases hb:b=e
   .subst hb;rw[he]at ho;cases ho;obtain⟨vs',z,_⟩:=fo _ _ he hd;exact⟨_,z⟩
   .obtain⟨sl',z⟩:=sl b o hb ho;exact⟨_,z⟩
 .refine ad (ap he hd h1 ?_);rw[if_pos (show(Value.ref T0 != Value.none)=true from by simp)];refine ad (ap hT hdT h3 ?_);rw[if_neg (show ¬ ((Value.none ==rawInt L)=true) from by simp[rawInt])];refine ad (wpAny_setField hT hdT (Array.getElem?_eq_some_iff.mp h3).1 ?_);have other:∀ b,b≠T0->(s.heap.update T0 (Obj.mapFields (·.setIfInBounds 3 Value.none))).get? b=s.heap.get? b:=λb hb=>Heap.get?_update_other _ _ (Ne.symm hb)
  have self':=Heap.get?_update_self (Obj.mapFields (·.setIfInBounds 3 Value.none)) hT (Obj.isFreed_of_fields (Obj.data_mapFields hdT _));have rec':∀ b o,s.heap.get? b=some o->(∀ vs,o.data≠.fields vs)->b≠T0:=λb o hb hnf z=>by
   rw[z,hT]at hb;cases hb;exact hnf ts hdT
  refine i4 (base:=base) hfr (hl.of_keeps λb o hb hnf=>⟨o,(other b (rec' b o hb hnf)).trans hb,rfl⟩) hf ((other e (Ne.symm hTe)).trans he) hd (Array.getElem?_eq_some_iff.mp h1).1 λh' T hTn st fo sl sy=>?_
  have hTn':s.heap.objs.size<=T:=by
   have z:(s.heap.update T0 (Obj.mapFields (·.setIfInBounds 3 Value.none))).objs.size<=T:=hTn
   rwa [Heap.size_after_update]at z
  refine q h' T T0 hTn' hT0 (.inl hH0) hp0 (λo z=>by rw[hT]at z;cases z;exact⟨ts,hdT⟩) st (aV.trans (aV.same (other e (Ne.symm hTe))) fo) ?_ (λb o hb hb0 ho=>sl b o hb ((other b hb0).trans ho)) (λb o hb ho=>?_) λb o ho=>?_
  .refine fun_of (as:=[e,T0]) (λb hb o ho=>?_) λb o hb ho=>sl b o (λz=>hb (by simp[z])) ((other b λz=>hb (by simp[z])).trans ho)
   rcases li.mp hb with hb|hb
   .subst hb;rw[he]at ho;cases ho;exact⟨vs,hd⟩
   .obtain rfl:b=T0:=by simpa using hb
    rw[hT]at ho;cases ho;exact⟨ts,hdT⟩
  .have n1:b≠e:=λz=>hb (by simp[z])
   have n2:b≠T0:=λz=>hb (by simp[z])
   refine sy b o (λz=>hb ?_) ((other b n2).trans ho);rcases li.mp z with z|z
   .exact li.mpr (.inl z)
   .exact dl _ (dl _ z)
  .by_cases hb:b=e
   .subst hb;obtain⟨vs',z,_⟩:=fo _ _ ((other b (Ne.symm hTe)).trans he) hd;exact⟨_,z⟩
   .by_cases hb0:b=T0
    .subst hb0;obtain⟨sl',z⟩:=sl b _ hb self';exact⟨_,z⟩
    .obtain⟨sl',z⟩:=sl b o hb ((other b hb0).trans ho);exact⟨_,z⟩
def nv {T:Addr}{fl:Value}(st:uG s.heap e T fl)
  (q:∀ h',uG h' e T .none->(∀ b,b≠T->h'.get? b=s.heap.get? b)->(∃ o,s.heap.get? T=some o)->(∃ o,h'.get? T=some o)->(∃ oT ts,h'.get? T=some oT/\oT.data=.fields ts)->Q () { s with heap:=h' }):wpAny M A (setFlight (.ref e) none) Q E s:=by
 obtain⟨oe,vs,oT,ts,he,hd,h1,hTe,hT,hdT,h3⟩:=st;have hz:3<ts.size:=(Array.getElem?_eq_some_iff.mp h3).1;have other:∀ b,b≠T->(s.heap.update T (Obj.mapFields (·.setIfInBounds 3 ((none:Option Addr).elim Value.none λf=>rawInt f)))).get? b=s.heap.get? b:=λb hb=>Heap.get?_update_other _ _ (Ne.symm hb)
 have self':=Heap.get?_update_self (Obj.mapFields (·.setIfInBounds 3 ((none:Option Addr).elim Value.none λf=>rawInt f))) hT (Obj.isFreed_of_fields (Obj.data_mapFields hdT _));unfold setFlight;refine ad (ap he hd h1 ?_);rw[if_pos (show(Value.ref T != Value.none)=true from by simp)];refine wpAny_setField hT hdT hz (q _ ⟨oe,vs,_,_,(other e (Ne.symm hTe)).trans he,hd,h1,hTe,self',Obj.data_mapFields hdT _,by simp[hz]⟩ other ⟨_,hT⟩ ⟨_,self'⟩ ⟨_,_,self',Obj.data_mapFields hdT _⟩)
end
variable {A:Around}
section
variable {X:Cx}{U:St}{H:Hp}{s:Shared}{e C:Addr}{dx:Option Addr}{fs:List (Str×V)}{h':Heap}
def Inv.rW {Y:EM}(I:Inv X Y U H s):Inv X [] U H s:=I.jk λ_ z=>absurd z (by simp)
def Inv.Bq {T0:Addr}{as:List Addr}(I:Inv X [] U H s)(hpn:∀ p ∈ X.pn,p.1≠T0) (he:H e=some (.exc C dx fs false)) (has:as=jh X.stack)
  (hT:X.s₀.heap.objs.size<=T0) (hT0:H T0=none\/s.heap.objs.size<=T0) (hTd:∀ o,s.heap.get? T0=some o->∃ ts,o.data=.fields ts)
  (fo:aV e s.heap h') (sl:∀ b o,b≠e->b≠T0->s.heap.get? b=some o->∃ sl,h'.get? b=some { o with slots:=sl }) (sy:Ap (e::T0::as) s.heap h') (th:∀ b o,s.heap.get? b=some o->∃ o',h'.get? b=some o'):
  Inv X [] U H { s with heap:=h' }:=by
 subst has;obtain⟨⟨vs,ho,hsz,_⟩,z⟩:=id (I.hok e _ he);have hH0:H T0=none:=by
  rcases hT0 with z|z
  .exact z
  .exact I.hok.fresh z
 have nT:∀ {b:Addr}{o:Obj},s.heap.get? b=some o->(∀ vs,o.data≠.fields vs)->b≠T0:=λ{b o} hb hn z=>by
  subst z;obtain⟨ts,q⟩:=hTd _ hb;exact hn ts q
 have dr:∀ b o,H b=none->b≠T0->b ∉ jh X.stack->s.heap.get? b=some o->h'.get? b=some o:=λb o hb h0 hf hq=>sy b o (λm=>by
  rcases li.mp m with m|m
  .rw[m,he]at hb;cases hb
  .rcases li.mp m with m|m
   .exact h0 m
   .exact hf m) hq
 have xX:∀ a u,H a=some u->a≠e->∀ o,s.heap.get? a=some o->h'.get? a=some o:=λa u ha ne o hq=>sy a o (λm=>by
  rcases li.mp m with m|m
  .exact ne m
  .rcases li.mp m with m|m
   .rw[m,hH0]at ha;cases ha
   .rw[I.jt a m]at ha;cases ha) hq
 refine I.step (g':=s.gens) (t':=s.toks) (d':=s.drawn) (ch:=[T0]) (h':=h') (λb hb=>?_) (λb o hL hfs hch hq hn=>?_) (λb o hL hfs hch hq hn=>?_) (λb o _ _ hn=>hn) (λb o _ hq=>th b o hq) (λ_ _ q=>q) (λ_ _ _ q=>q) (λb ps q=>⟨#[],by rw[q];simp⟩) (λm hm=>?_) (λa u ha=>?_) I.bare
 .obtain rfl:b=T0:=by simpa using hb
  refine⟨.inr hT,?_,λx c hc z=>?_,λp hp=>hpn p (by simpa using hp)⟩
  .obtain⟨m,⟨o,es,ep,ho',hd,_⟩,_⟩:=I.loc;intro z;exact nT ho' (λvs q=>by rw[hd]at q;cases q) z.symm
  .obtain⟨v,o,ho',hd⟩:=I.cell x c hc;exact nT ho' (λvs q=>by rw[hd]at q;cases q) z
 .refine dr b o hn (by simpa using hch) (λm=>?_) hq;rcases li.mp (I.fL b m) with z|z
  .exact hL z
  .exact hfs z
 .exact sl b o (λz=>by rw[z,he]at hn;cases hn) (by simpa using hch) hq
 .obtain⟨o,es,ep,ho',hd,r⟩:=hm;have n1:X.env.locals≠e:=λz=>by have:=I.free;rw[z,he]at this;cases this
  obtain⟨sl',q⟩:=sl _ o n1 (nT ho' λvs q=>by rw[hd]at q;cases q) ho';exact⟨_,es,ep,q,hd,r⟩
 .by_cases hae:a=e
  .subst hae;rw[he]at ha;cases ha;obtain⟨vs',q,hz⟩:=fo _ vs ho rfl;refine⟨⟨vs',q,hz.trans hsz,λy=>by cases y⟩,?_⟩;rcases z with z|⟨d,ed,d1,z1,ne,mA,⟨od,es,ep,e2,c⟩,r⟩
   .exact .inl z
   .exact .inr ⟨d,ed,d1,z1,ne,mA,⟨od,es,ep,xX d _ d1 ne _ e2,c⟩,r⟩
  .refine(I.hok a u ha).dr (λb o hb hq=>?_) (λ_ q=>q) λ_ _ q=>q
   rcases hb with hb|hb
   .subst hb;exact xX b u ha hae o hq
   .refine xX b _ hb (λz=>?_) o hq;rw[z,he]at hb;cases hb
abbrev tQ (P:Program)(w:World):mf:=λouter H s E u s'=>∃ (e:Addr) (H':Hp) (C:Addr) (dx:Option Addr) (fs:List (Str×V)) (T:Addr),u=.ref e/\s'.os=s.os/\AllBare s'.gens/\Un (jh outer) [] H H' s.heap s'.heap/\dN P w H' s'.heap/\
 H' e=some (.exc C dx fs false)/\s.heap.objs.size<=T/\H' T=none/\uG s'.heap e T .none/\E e H'
abbrev AI (X:Cx)(E:St->XK):Prop:=∀ (U:St) (H:Hp) (s:Shared) (e C:Addr) (dx:Option Addr) (fs:List (Str×V)),Inv X [] U H s->Ai X.s₀.heap.objs.size X.pn H s.heap e->H e=some (.exc C dx fs false)->E U e H->X.xe (.ref e) s
def iD {E:St->XK}(x:AI X E):Passes (tQ X.prog X.w) X E:=by
 intro Y U H s u s' I h;obtain⟨e,H',C,dx,fs,T,rfl,os,bare,un,hok,he,hT,hT0,st,q⟩:=h;have J:Inv X [] U H' s':=Inv.r8 (ch:=[]) I.rW os un hok bare (λb z=>absurd z (by simp));exact x U H' s' e C dx fs J (.inr ⟨T,Nat.le_trans I.sz hT,hT0,λp hp=>nw (mo (ss (I.pin p (mem_append_left _ hp)).1) hT),st⟩) he q
def iX {M:Model}{E E':EL}{Q:Shared->Prop}(I:Inv X [] U H s)(hs:X.stack=X.env::X.outer)(hf:X.env.frame=some X.env.locals)(sf:Ai X.s₀.heap.objs.size X.pn H s.heap e)(he:H e=some (.exc C dx fs false))
  (q:∀ s' T,Inv X [] U H s'->s'.os=s.os->X.s₀.heap.objs.size<=T->H T=none->(∀ p ∈ X.pn,p.1≠T)->uG s'.heap e T .none->Q s'):
  wpAny M X.A (noteFrame (.ref e) X.env) (λ_ s1=>wpAny M X.A (setFlight (.ref e) none) (λ_ s2=>Q s2) E s1) E' s:=by
 have hl:s.heap.FunFrames X.base (X.env::X.outer):=hs▸I.stack;refine uS (by rw[<-hs];exact I.ok.frames) hl hf sf I.sz (λp hp=>ss (I.pin p (mem_append_left _ hp)).1) λh1 T T0 hT hT0 hH0 hp0 hTd st fo fF sl sy th=>?_
 have I1:=I.Bq (T0:=T0) (as:=jh (X.env::X.outer)) (h':=h1) hp0 he (by rw[hs]) hT0 hH0 hTd fo sl sy th;have hHT:H T=none:=I.hok.fresh hT;have hpT:∀ p ∈ X.pn,p.1≠T:=λp hp=>nw (mo (ss (I.pin p (mem_append_left _ hp)).1) hT)
 refine nv (s:={ s with heap:=h1 }) st λh2 jV oth _ th2 rec2=>?_
 have I2:Inv X [] U H { s with heap:=h2 }:=by
  refine Inv.turned (s:={ s with heap:=h1 }) (it:=T) (h':=h2) (t':=s.toks) I1 (λb o hb hq=>(oth b hb).trans hq) hHT ?_ (.inr (Nat.le_trans I.sz hT)) (λx c hc z=>?_) λp hp=>hpT p (by simpa using hp)
  .exact λz=>absurd (mo I.lt hT) (by rw[z];exact Nat.lt_irrefl _)
  .obtain⟨v,o,ho,_⟩:=I.cell x c hc;exact absurd (mo (ss ho) hT) (by rw[z];exact Nat.lt_irrefl _)
 exact q _ T I2 rfl (Nat.le_trans I.sz hT) hHT hpT jV
def pD {P:Program}{w:World}{K:W.Frag}{mg:EN}{base:Heap}{N:List Str}{qual:Str}{scope:Scope}{f:Addr}{cd:Value}{outer:List Env}{E:XK}:
  AI (pZ (tQ P w) P w K mg base N qual scope f cd A outer s H E) (λ_=>E):=by
 intro σ' H' s' e C dx fs I sf he q;show wpAny _ _ (do noteFrame (.ref e) _;setFlight (.ref e) none) _ _ s';refine ad (iX I rfl rfl sf he λs2 T J os hT hH _ st=>?_);exact⟨e,H',C,dx,fs,T,rfl,J.os,J.bare,J.base,J.hok,he,hT,hH,st,q⟩
end
structure Cu (K:W.Frag) (C f:Addr):Prop where
 mks:bg K C=true
 init:W.findIn K (.ref C) "__init__"=some (some (.ref f))
 fn:W.isFn K (.ref f)=true
 kp:W.keepIn K (.ref C)=true
variable {us:List Value}{vs:List V}{pl:Sem Bool}
section
variable {X:Cx}{Y:EM}{U:St}{H:Hp}{s:Shared}{C f:Addr}
def Inv.xZ (us:List Value)(I:Inv X Y U H s):Inv X Y U (upd H (s.heap.objs.size+1) (.exc C none [] true))
  { s with heap:=(s.heap.push { cls:=.type "tuple",data:=.seq us.toArray }).push { cls:=.ref C,data:=.fields #[.ref s.heap.objs.size,.none,.none,.none,.bool false,.none] } }:=by
 have I1:=I.kept (h':=s.heap.push { cls:=.type "tuple",data:=.seq us.toArray }) (t':=s.toks) λb u q=>sn _ q
 refine Inv.laid (s:={ s with heap:=s.heap.push { cls:=.type "tuple",data:=.seq us.toArray } }) (a:=s.heap.objs.size+1) (o:=.exc C none [] true) (t':=s.toks) I1 (λb u q=>sn _ q) (Nat.le_of_eq (Heap.size_push _ _)) ?_;refine⟨⟨#[.ref s.heap.objs.size,.none,.none,.none,.bool false,.none],?_,rfl,λ_=>rfl⟩,.inl ⟨rfl,rfl⟩⟩;have:=sw (s.heap.push { cls:=.type "tuple",data:=.seq us.toArray }) (o:={ cls:=.ref C,data:=.fields #[.ref s.heap.objs.size,.none,.none,.none,.bool false,.none] }) rfl
 rwa [Heap.size_push]at this
variable {CX:mf}{k:Nat}{fd:FuncData}{ps:List Str}{sp:Sp}{dvs:List V}{ds:List Value}{E:St->XK}{x m:Str}{p pos apos:Pos}{e o:Expr}{es:List Expr}{ta:TE}{t:TA}
abbrev qV (C:Addr)(sp:Sp)(dvs:List V)(E:St->XK)(t:TA):TE:=λU H Q=>t U H λvs H1=>vs.length<=1000/\∀ x,H1 x=none->sp (.ref x::(vs++dvs)) (upd H1 x (.exc C none [] true)) (λv H2=>v=.non/\Q (.ref x) H2) (E U)
def iW {Q:VK}(M:Cu X.K C f)(F:bV X.prog X.w X.K X.mg X.base CX k f fd ps sp)(hr:aX (k+1) X.A)(hb:Binds X.K fd ps ds)(hd:Vals dvs ds)
  (hx:Passes CX X E) (hz:us.length<=bn) (I:Inv X Y U H s) (r:Vals vs us)
  (h:∀ x,H x=none->sp (.ref x::(vs++dvs)) (upd H x (.exc C none [] true)) (λv H2=>v=.non/\Q (.ref x) H2) (E U)):
  wpAny (model X.prog X.w) X.A (call (.ref C) us) (EP X Y U Q) X.xe s:=by
 have hq:=h (s.heap.objs.size+1) (I.hok.fresh (Nat.le_succ _));have I2:=Inv.xZ (C:=C) us I;have r2:Vals (V.ref (s.heap.objs.size+1)::(vs++dvs)) (Value.ref (s.heap.objs.size+1)::(us++ds)):=.cons rfl (r.append hd);have hl:(Value.ref (s.heap.objs.size+1)::us++ds).length=ps.length:=by
  have e:=r2.length;rw[F.len _ _ _ _ hq]at e;exact e.symm
 obtain⟨hh,g,d,tk,os⟩:=s;refine wpAny_call (yG (fI:=f) I.aY hz M.mks M.init (beq_iff_eq.mp M.fn) (codeAny_mono (F.run _ X.stack _ _ ⟨Value.ref (hh.objs.size+1)::us,[]⟩ (Value.ref (hh.objs.size+1)::(us++ds)) _ _ (E U) (hr.make C us [])
  (I2.fg.make C us []) (hb _ (Value.ref (hh.objs.size+1)::us) I2.aY hl) r2 hq) λr s' hq'=>?_))
 cases r with
 |error e=>exact hx Y U _ _ e s' I2 hq'
 |ok fl=>
  cases fl with
  |ret u=>
   obtain⟨v,H',J,rv,ev,q⟩:=I2.after hq';subst ev;obtain rfl:u=Value.none:=rv;exact⟨rfl,.ref _,H',J,rfl,q⟩
  |next=>exact False.elim hq'
  |brk=>exact False.elim hq'
  |cont=>exact False.elim hq'
def rj (M:Cu X.K C f)(F:bV X.prog X.w X.K X.mg X.base CX k f fd ps sp)(hr:aX (k+1) X.A)(hg:Gl X x)(hm:X.mg x=some (.ref C))(hb:Binds X.K fd ps ds)(hd:Vals dvs ds)(hx:Passes CX X E)
  (ha:PA X (e::es) t) (hdb:(x ==("__debug__":Str))=false:=by decide) (he:bm (e::es) X.env=(false,eval e X.env)::bm es X.env:=by rfl) (hpl:(backTo pos (bm es X.env)).any (·.1)=false:=by rfl):
  PE X (.Call (.Name x p) (e::es) [] pos) (qV C sp dvs E t):=by
 intro Y s U H Q I h;refine bv (aO I hg hm ?_ hdb);refine W.callWith_K (h₀:=X.base) I.ok.mod.kin M.kp (au (ha pos Y s U H _ I h) λus s1 ⟨vs,H1,I1,r,z,q⟩=>⟨I1.aY,?_⟩) he hpl;exact iW M F hr hb hd hx (by rw[nil_append,<-r.length];exact Nat.le_of_lt (cf z)) I1 r q
structure zm (K:W.Frag) (C:Addr):Prop where
 mks:bg K C=true
 init:W.findIn K (.ref C) "__init__"=some (some (.builtin "ValueError.__init__"))
 kp:W.keepIn K (.ref C)=true
 cls:bM K C
abbrev xj (C:Addr)(t:TA):TE:=λU H Q=>t U H λvs H1=>vs.length=1/\∀ x,H1 x=none->Q (.ref x) (upd H1 x (.exc C none [] true))
def mK {Q:VK}(M:zm X.K C)(I:Inv X Y U H s)(r:Vals vs us)(h1:vs.length=1)(h:∀ x,H x=none->Q (.ref x) (upd H x (.exc C none [] true))):
  wpAny (model X.prog X.w) X.A (call (.ref C) us) (EP X Y U Q) X.xe s:=by
 have hq:=h (s.heap.objs.size+1) (I.hok.fresh (Nat.le_succ _));have I2:=Inv.xZ (C:=C) us I;obtain⟨u,rfl⟩:∃ u,us=[u]:=by
  have e:=r.length;rw[h1]at e
  match us,e with
  | [u],_=>exact⟨u,rfl⟩
 obtain⟨hh,g,d,tk,os⟩:=s;refine wpAny_call (vi I.aY (by rw[sizeLine_eq];exact nl rfl) M.mks M.init (gF (C:=C) (dx:=none) (fs:=[]) (fr:=true) I2 aj M.cls λs' J=>?_));exact⟨rfl,.ref _,_,J,rfl,hq⟩
def qW (M:zm X.K C)(hg:Gl X x)(hm:X.mg x=some (.ref C))(ha:PA X (e::es) t)(hdb:(x ==("__debug__":Str))=false:=by decide) (he:bm (e::es) X.env=(false,eval e X.env)::bm es X.env:=by rfl) (hpl:(backTo pos (bm es X.env)).any (·.1)=false:=by rfl):
  PE X (.Call (.Name x p) (e::es) [] pos) (xj C t):=by
 intro Y s U H Q I h;refine bv (aO I hg hm ?_ hdb);refine W.callWith_K (h₀:=X.base) I.ok.mod.kin M.kp (au (ha pos Y s U H _ I h) λus s1 ⟨vs,H1,I1,r,z,q⟩=>⟨I1.aY,?_⟩) he hpl;exact mK M I1 r z q
structure DV (K:W.Frag) (B:Addr):Prop where
 ga:W.specialIn K (.ref B) "__getattribute__"=some (some (.builtin "type.__getattribute__"))
 rd:W.readsIn K B (.type "type")=true
 fi:W.findCls K (.ref B) (.type "type") "__init__"=some (.val (.builtin "ValueError.__init__"))
abbrev CT (K:W.Frag)(t:TA):TE:=λU H Q=>t U H λvs H1=>∃ a C dx fs fr v,vs=[.ref a,v]/\H1 a=some (.exc C dx fs fr)/\bM K C/\Q .non H1
def Aa {B:Addr}{np:Pos}(b:DV X.K B)(hg:Gl X x)(hm:X.mg x=some (.ref B))(ha:PA X (e::es) t)(hdb:(x ==("__debug__":Str))=false:=by decide)
  (hst:bm (e::es) X.env=(false,eval e X.env)::bm es X.env:=by rfl) (hpl:(backTo pos (bm es X.env)).any (·.1)=false:=by rfl)
  (ht:eval (.Call (.Attribute (.Name x np) "__init__" apos) (e::es) [] pos) X.env=(do
   let ov <-eval (.Name x np) X.env
   standAt apos.atName
   let(f,first) <-holding [ov] (getMethod ov "__init__" pl)
   callWith pos f first (backTo pos (bm (e::es) X.env)) (backToKw pos (keywordEach [] X.env))):=by rfl):
  PE X (.Call (.Attribute (.Name x np) "__init__" apos) (e::es) [] pos) (CT X.K t):=by
 intro Y s U H Q I h;refine W.methodCall_KW (pl:=pl) (aO I hg hm ?_ hdb) ht;refine W.method_cls I.aY b.ga (W.cls_value I.aY b.rd b.fi (by decide+kernel) ?_);refine PyProof.Rows.callWith_builtin1 (au (ha pos Y _ U H _ (I.tok _) h) λus s1 ⟨vs,H1,I1,r,a,C,dx,fs,fr,v,ev,ea,c,q⟩=>?_) hst hpl;subst ev;cases r with
 |cons r1 r2=>
  cases r2 with
  |cons r3 r4=>
   cases r4;cases r1;exact ng I1 ea c λs' J=>⟨.non,H1,J,rfl,q⟩
structure DR (K:W.Frag) (C f:Addr):Prop where
 ga:W.specialIn K (.ref C) "__getattribute__"=some (some (.builtin "type.__getattribute__"))
 rd:W.readsIn K C (.type "type")=true
 fi:W.findCls K (.ref C) (.type "type") "__init__"=some (.val (.ref f))
 kp:W.keepIn K (.ref f)=true
def yO {np:Pos}(b:DR X.K C f)(F:bV X.prog X.w X.K X.mg X.base CX k f fd ps sp)(hr:aX k X.A)(hg:Gl X x)(hm:X.mg x=some (.ref C))(hb:Binds X.K fd ps ds)(hd:Vals dvs ds)(hx:Passes CX X E)(ha:PA X (e::es) t)(hdb:(x ==("__debug__":Str))=false)
  (hst:bm (e::es) X.env=(false,eval e X.env)::bm es X.env) (hpl:(backTo pos (bm es X.env)).any (·.1)=false)
  (ht:eval (.Call (.Attribute (.Name x np) "__init__" apos) (e::es) [] pos) X.env=(do
   let ov <-eval (.Name x np) X.env
   standAt apos.atName
   let(f,first) <-holding [ov] (getMethod ov "__init__" pl)
   callWith pos f first (backTo pos (bm (e::es) X.env)) (backToKw pos (keywordEach [] X.env)))):
  PE X (.Call (.Attribute (.Name x np) "__init__" apos) (e::es) [] pos) (tP sp dvs E t):=by
 intro Y s U H Q I h;refine W.methodCall_KW (pl:=pl) (aO I hg hm ?_ hdb) ht;refine W.method_cls I.aY b.ga (W.cls_value I.aY b.rd b.fi rfl ?_);refine W.callWith_K (h₀:=X.base) (first:=[]) I.ok.mod.kin b.kp (au (ha pos Y _ U H _ (I.tok _) h) λus s1 ⟨vs,H1,I1,r,q⟩=>⟨I1.aY,?_⟩) hst hpl;exact gT F hr hb hd hx I1 r q
end
section
open PySem.Builtin PySem.Builtin.ObjectAttr
variable {prog:Program}{w:World}{A:Around}{E:EL}{s:Shared}{K:W.Frag}{x C:Addr}{ox:Obj}{odo:Option Obj}
structure ug (K:W.Frag) (C:Addr):Prop where
 ha:W.findIn K (.ref C) "__class__"=some (some (.builtin "object.__class__"))
 hn:W.specialIn K (.builtin "object.__class__") "__get__"=some (some (.builtin "getset_descriptor.__get__"))
 htk:W.takesIn K (.builtin "object.__class__")=some true
def wd {Q:Option Value->Shared->Prop}(X:K.In s.heap)(I:W.InstAt s.heap x ox C odo)(c:bM K C)(z:ug K C)(hfo:W.findObj K C odo "__class__"=some (.bind (.builtin "getset_descriptor.__get__") (.builtin "object.__class__")))
  (h:Q (some (.ref C)) { s with toks:=s.toks+1 }):wpAny (model prog w) A (getAttr? (.ref x) "__class__") Q E s:=by
 obtain⟨hp,g,d,t,os⟩:=s;have L0:=I.type (M:=model prog w);have L1:=looks_findIn (M:=model prog w) X c.ga;have L2':=looks_findIn (M:=model prog w) X c.gn;have L3:=looks_find (M:=model prog w) X I hfo;have L4:Looks (model prog w) hp (isInstance (.ref x) (.type "BaseException")) true:=I.type.andThen (looks_mroIn X (c.sub (by decide+kernel)));unfold getAttr? getAttrBy? getAttrBy;refine ad (wpAny_mkText (ad (wpAny_attempt (bd (ad (L0.at (ad (L1.at ?_))))))));have e1:(Value.builtin "BaseException.__getattribute__" ==Value.builtin "object.__getattribute__")=false:=by decide+kernel
 dsimp only;rw[e1,Bool.and_false];show wpAny _ _ (getAttrByItsOwn _ _ _ _ _ _) _ _ _;unfold getAttrByItsOwn hookBefore;refine ad (L2'.at ?_);refine ad (wpAny_attempt (bd ?_));unfold callGetattribute;show wpAny _ _ (boundAndCalled _ _ _) _ _ _;unfold boundAndCalled;rw[PySem.F.attr_ValueError.ga.bind];refine ad (am (wpAny_call (codeAny_call_builtin PySem.F.attr_ValueError.ga.plain PySem.F.entry_bexc_ga ?_)));refine @check_slot (model prog w) _ _ _ "BaseException.__getattribute__" "BaseException" "__getattribute__" (.ref x) [.str "__class__" t] [] _ kM iH L4 (PySem.F.args_bexc_ga (.ref x) (.str "__class__" t)) ?_;unfold Builtin.«object.__getattribute__»;refine ad (am (ad (am (ad (L0.at (ad (L3.at ?_)))))));show wpAny _ _ (holding [_] (call _ [_,.ref x,.ref C]) >>= ret) _ _ _;refine ad (bd (wpAny_call (class_get (s:=⟨hp,g,d,t+1,os⟩) (ox:=ox) (od:=odo) X I (c.sub (by decide+kernel)) ?_)));refine am ?_;show wpAny _ _ (handedOut (.ref C)) _ _ _;exact handed_on rfl (am h)
def t5 (c:bM K C)(z:ug K C):W.findObj K C odo "__class__"=some (.bind (.builtin "getset_descriptor.__get__") (.builtin "object.__class__")):=by
 obtain⟨cd,hc,_⟩:=W.any_some c.hd;unfold W.findObj;rw[hc,Option.bind_some,z.ha,Option.bind_some];simp[z.hn,z.htk]
def km (c:bM K C)(z:ug K C):W.KitX K (.ref x) (.ref C) (λh=>W.InstAt h x ox C odo) where
 ty:=λ_ _ _ I=>I.type
 it:=λ_ _ X _=>by
  obtain⟨cdD,hcD,_⟩:=W.any_some c.hd;unfold W.clsIn at hcD
  split at hcD
  .rename_i c' d' cd' sl' ho;intro A' Q' E' s' k q;unfold isType loadHead;exact ad (wpAny_loadPart (k _ _ (X _ _ ho)) (am q))
  .cases hcD
 ne:=λh tp dd its n sl X htp=>by
  obtain⟨cdD,hcD,_⟩:=W.any_some c.hd;refine Bool.eq_false_iff.mpr λq=>?_
  have e:C=tp:=Value.ref.inj (beq_iff_eq.mp q);subst e;unfold W.clsIn at hcD
  split at hcD
  .rename_i c' d' cd' sl' ho;have z:=(X _ _ ho).symm.trans htp;cases z
  .cases hcD
 ca:=λX I k=>wd X I c z (t5 c z) k
end
section
variable {X:Cx}{Y:EM}{U:St}{H:Hp}{s:Shared}{a C:Addr}{dx:Option Addr}{fs:List (Str×V)}{fr:Bool}
def kj (I:Inv X Y U H s)(e:H a=some (.exc C dx fs fr)):∃ ox odo,W.InstAt s.heap a ox C odo:=by
 obtain⟨⟨vs,ho,_⟩,z⟩:=id (I.hok a _ e);rcases z with⟨rfl,_⟩|⟨d,rfl,_,_,_,mA,⟨od,es,ep,hod,_⟩,_⟩
 .exact⟨_,none,ho,rfl,rfl,True.intro⟩
 .exact⟨_,some od,ho,rfl,rfl,hod⟩
def tF {E:EL}{Q:EL}{cv:Value}{b:Bool}(I:Inv X Y U H s)(e:H a=some (.exc C dx fs fr))(c:bM X.K C)(z:ug X.K C)(k:W.kitOne X.K (.ref C) cv=some b)
  (h:∀ tk,Q (.bool b) { s with toks:=tk }):wpAny (model X.prog X.w) A (call (.builtin "isinstance") [.ref a,cv]) Q E s:=by
 obtain⟨ox,odo,J⟩:=kj I e;exact W.kia_one (km (ox:=ox) (odo:=odo) c z) I.aY J k (λz=>nomatch z) h
end
end L2
namespace L2
open PySem PySem.Spec PySem.W PyProof.Rows
variable {dx:Option Addr}
section
variable {X:Cx}{f:Str}{o value ex:Expr}{ta tv te:TE}{pos pos':Pos}{E:St->XK}
def mN {h:Heap}{a:Addr}{C:Addr}{vs:Array Value}{M:Model}(ho:h.get? a=some { cls:=.ref C,dict:=dx,data:=.fields vs }):W.Looks M h (isType (.ref a)) false:=by
 intro A Q E s k q;unfold isType loadHead;exact ad (wpAny_loadPart (k _ _ ho) (am q))
abbrev yX (K:W.Frag)(E:St->XK)(te:TE):TS:=λD U H=>te U H λv H1=>∃ a C dx fs,v=.ref a/\H1 a=some (.exc C dx fs true)/\bM K C/\E U a (upd H1 a (.exc C dx fs false))
def tW (hx:AI X E)(hc:X.calm=true)(he:PE X ex te):PS X (.Raise (some ex) none pos) (yX X.K E te):=by
 intro Y s U H D I h;rw[arm_exec_Raise];simp only[evalOpt,Option.map];refine ad (wpAny_standAt ?_);unfold raiseStmt;refine ad (ad (au (he Y s U H _ I h) λu s1 ⟨y,H1,I1,ry,a,C,dx,fs,ey,ea,c,q⟩=>ad (wpAny_standAt (am ?_))));subst ey;obtain rfl:u=Value.ref a:=ry;obtain⟨⟨vs,ho,hsz,h1⟩,z⟩:=id (I1.hok a _ ea);have h1':=h1 rfl;have hq:X.xe (.ref a) s1:=by
  have J:Inv X [] U (upd H1 a (.exc C dx fs false)) s1:=by
   have J1:=I1.rW.write (x:=a) (e:=a) (o:=.exc C dx fs false) (t':=s1.toks) (h':=s1.heap) (by rw[ea];exact True.intro) (.inl rfl) (λ_ _ _ q=>q) ⟨_,ho⟩ ?_
   .exact J1
   .refine⟨⟨vs,ho,hsz,λy=>by cases y⟩,?_⟩;rcases z with z|⟨d,ed,d1,z1,ne,r⟩
    .exact .inl z
    .exact .inr ⟨d,ed,by rw[af ne];exact d1,z1,ne,r⟩
  exact hx U _ s1 a C dx fs J (.inl ⟨_,vs,ho,rfl,h1'⟩) aj q
 obtain⟨hp,g,d,tk,os⟩:=s1;have L0:Looks (model X.prog X.w) hp (typeOf (.ref a)) (.ref C):=(Looks.ld ho).andThen .now;have L1:Looks (model X.prog X.w) hp (isType (.ref a)) false:=mN ho;have L2':Looks (model X.prog X.w) hp (isInstance (.ref a) (.type "BaseException")) true:=L0.andThen (looks_mroIn I1.aY (c.sub (by decide+kernel)));have L5:Looks (model X.prog X.w) hp (typeOf (.ref C)) (.type "type"):=looks_typeIn I1.aY c.mt;have tt:(Value.type "type" ==Value.type "type")=true:=by decide
 repeat(first|simp only[Bool.false_eq_true,if_false,if_true,tt]|lk)
 rw[h1'];refine am ?_;rw[if_neg (by decide)];exact am (wpAny_raiseNew_none (I1.ok.hd hc) hq)
end
@[reducible]def Cx.aU (X:Cx) (e:Value):Cx:={ X with A:=X.A.mark (some e),calm:=false,xe:=λ_ _=>False }
variable {xe:EL}{ps:EM}{D:Ends}
section
variable {X:Cx}{Y:EM}{U:St}{H:Hp}{s:Shared}
def Cx.Ok.aU (ok:X.Ok)(e:Value):(X.aU e).Ok:=
 ⟨ok.mod,ok.kind,ok.glob,ok.blt,ok.above,ok.inj,ok.has,ok.cab,(λz=>by cases z),ok.frames,ok.stk,ok.exf,ok.bs,ok.bsz,ok.noex,ok.exfs,ok.gf,ok.frf⟩
def Inv.aU (I:Inv X Y U H s)(e:Value):Inv (X.aU e) Y U H s:=⟨I.ok.aU e,I.os,I.bare,I.base,I.loc,I.cell,I.free,I.freeC,I.pin,I.hok,I.len⟩
def Inv.gp {e:Value}(ok:X.Ok)(I:Inv (X.aU e) Y U H s):Inv X Y U H s:=⟨ok,I.os,I.bare,I.base,I.loc,I.cell,I.free,I.freeC,I.pin,I.hok,I.len⟩
def c7 {M:Model}{A:Around}{E:EL}{Q:EK}{i:Nat}{n:Str}{pos:Pos}(I:Inv X Y U H s)(hN:X.N.Nodup)(hi:X.N[i]? =some n)(hn:X.env.scope.names.lookup n=some .local)
  (h:∀ s',Inv X Y (U.set i none) H s'->Q () s'):wpAny M A (do bindName X.env n .none;unbindBehindTheSuite X.env n pos) Q E s:=by
 have hcls:(X.env.scope.kind ==.class||(X.env.scope.kind ==.module&&X.env.locals != X.env.globals))=false:=by rw[I.ok.kind];rfl
 refine ad (wpAny_bindName (d8 I hN hi (.inl hn) (v:=.non) rfl (λs1 I1=>?_) (.inr hn)));obtain⟨m,hm,hl⟩:=I1.loc;unfold unbindBehindTheSuite;refine wpAny_onRaise ?_;unfold unbindName;refine ad (wpAny_point (ad ?_));unfold deleteName;have hk:X.env.kindOf n=some .local:=hn;have hiσ:i<U.length:=by rw[I.len];exact(s0.mp hi).1
 have hmn:(m n).isSome=true:=by
  obtain⟨u,_,l⟩:=hl i n .non hi (by rw[getElem?_set_self hiσ]) (.inl hn);rcases l with⟨_,q⟩|⟨q,_⟩
  .rw[q];rfl
  .rcases q with q|q<;>(rw[hk]at q;cases q)
 simp only[hk,hcls];rw[if_neg (by decide)];refine ad (wpAny_nsDel_keeps hm λh2 v hn2 hs2=>?_);rw[hmn];simp only[if_true,Bool.not_true,Bool.false_eq_true,if_false];refine am (wpAny_point (h { s1 with heap:=h2 } ?_));obtain⟨oL,esL,epL,hoL,_⟩:=id hm;have uc:=I1.uc;refine⟨I1.ok,I1.os,I1.bare,⟨λb o e n hb hx=>?_,λb o e n hb hx=>?_,I1.base.free,λb o e hx=>?_,I1.base.tups,I1.base.frzs,I1.base.tbls⟩,⟨_,hn2,λj y v' e1 e2 e3=>?_⟩,λy c e=>?_,I1.free,I1.freeC,λp hp=>?_,λa u ha=>?_,by rw[length_set];exact I.len⟩
 .exact(hs2.2 b (nw (mo (ss e) I1.ok.above))).trans (I1.base.keep b o e n hb hx)
 .obtain⟨sl,q⟩:=I1.base.slot b o e n hb hx;exact⟨sl,(hs2.2 b (nw (mo (ss e) I1.ok.above))).trans q⟩
 .obtain⟨o',q⟩:=I1.base.there b o e hx;exact⟨o',(hs2.2 b (nw (mo (ss e) I1.ok.above))).trans q⟩
 .have hj:j≠i:=λz=>by rw[z,getElem?_set_self hiσ]at e2;cases e2
  rw[getElem?_set_ne (Ne.symm hj)]at e2;obtain⟨u,r,q⟩:=hl j y v' e1 (by rw[getElem?_set_ne (Ne.symm hj)];exact e2) e3;refine⟨u,r,?_⟩;rcases q with⟨k,e⟩|⟨k,c,e,z⟩
  .refine .inl ⟨k,?_⟩;have ny:y≠n:=λz=>hj (gP hN e1 (z▸hi))
   show(if y=n then v else m y)=some u;rw[if_neg ny];exact e
  .exact .inr ⟨k,c,e,z.sameBut hs2 (uc y c e)⟩
 .obtain⟨w',z⟩:=I1.cell y c e;exact⟨w',z.sameBut hs2 (uc y c e)⟩
 .obtain⟨e,n,ne,nf,d⟩:=I1.pin p hp;exact⟨(hs2.2 p.1 ne).trans e,n,ne,nf,d⟩
 .refine(I1.hok a u ha).dr (λb o hb hq=>(hs2.2 b ?_).trans hq) (λ_ q=>q) λ_ _ q=>q
  rintro rfl;rcases hb with hb|hb
  .rw[<-hb,I1.free]at ha;cases ha
  .rw[I1.free]at hb;cases hb
@[reducible]def Cx.dU (X:Cx) (Y:EM) (xe:EL):Cx:={ X with pn:=X.pn++Y,xe:=xe }
def Cx.Ok.dU (ok:X.Ok)(Y:EM)(xe:EL):(X.dU Y xe).Ok:=
 ⟨ok.mod,ok.kind,ok.glob,ok.blt,ok.above,ok.inj,ok.has,ok.cab,ok.hd,ok.frames,ok.stk,ok.exf,ok.bs,ok.bsz,ok.noex,ok.exfs,ok.gf,ok.frf⟩
def Inv.dU (I:Inv X Y U H s)(xe:EL):Inv (X.dU Y xe) [] U H s:=
 ⟨I.ok.dU Y xe,I.os,I.bare,I.base,I.loc,I.cell,I.free,I.freeC,λp hp=>I.pin p (by simpa using hp),I.hok,I.len⟩
def Inv.dJ (ok:X.Ok)(I:Inv (X.dU Y xe) ps U H s):Inv X Y U H s:=
 ⟨ok,I.os,I.bare,I.base,I.loc,I.cell,I.free,I.freeC,λp hp=>I.pin p (mem_append_left _ hp),I.hok,I.len⟩
def SP.dJ {f:Flow}(ok:X.Ok)(h:SP (X.dU Y xe) ps D f s):SP X Y D f s:=by
 cases f with
 |next=>obtain⟨σ',H',I,q⟩:=h;exact⟨σ',H',I.dJ ok,q⟩
 |brk=>obtain⟨σ',H',I,q⟩:=h;exact⟨σ',H',I.dJ ok,q⟩
 |cont=>obtain⟨σ',H',I,q⟩:=h;exact⟨σ',H',I.dJ ok,q⟩
 |ret u=>obtain⟨v,σ',H',I,r,q⟩:=h;exact⟨v,σ',H',I.dJ ok,r,q⟩
def ym {body:List Stmt}{h0:ExceptHandler}{hs:List ExceptHandler}{pos:Pos}{E':St->XK}(I:Inv X Y U H s)(hstk:X.stack=X.env::X.outer)(hfr:X.env.frame=some X.env.locals)
  (hb:∀ xe,AI (X.dU Y xe) E'->PassesOwn (model X.prog X.w) X.A X.env xe->wpAny (model X.prog X.w) X.A (execs body X.env) (SP (X.dU Y xe) [] D) xe s)
  (hh:∀ (U:St) (H:Hp) (s:Shared) (e C:Addr) (dx:Option Addr) (fs:List (Str×V)) (T:Addr),Inv X Y U H s->H e=some (.exc C dx fs false)->X.s₀.heap.objs.size<=T->H T=none->(∀ p ∈ X.pn++Y,p.1≠T)->uG s.heap e T .none->E' U e H->
   wpAny (model X.prog X.w) X.A (handleBy (.ref e) X.env (h0::hs)) (SP X Y D) X.xe s):
  wpAny (model X.prog X.w) X.A (exec (.Try body (h0::hs) [] [] pos) X.env) (SP X Y D) X.xe s:=by
 refine wpAny_Try_except (wpAny_mono (hb (λu s1=>wpAny (model X.prog X.w) X.A (noteFrame u X.env) (λ_ s2=>wpAny (model X.prog X.w) X.A (setFlight u none) (λ_ s3=>wpAny (model X.prog X.w) X.A (handleBy u X.env (h0::hs)) (SP X Y D) X.xe s3) X.xe s2) X.xe s1) ?_ PassesOwn.looking) (λf s1 h1=>?_) λ_ _ z=>z)
 .intro σ' H' s' e C dx fs J sf he q;exact iX (X:=X.dU Y _) J hstk hfr sf he λs2 T J2 _ hT hH hp st=>hh σ' H' s2 e C dx fs T (J2.dJ I.ok) he hT hH hp st q
 .have h2:=SP.dJ I.ok h1;cases f with
  |next=>exact wpAny_execs_nil h2
  |brk=>exact h2
  |cont=>exact h2
  |ret u=>exact h2
def j3 {n x:Str}{np hpos:Pos}{b0:Stmt}{aU:List Stmt}{rest:List ExceptHandler}{i:Nat}{e C Ch T:Addr}{fs:List (Str×V)}{b:Bool}(I:Inv X Y U H s)(he:H e=some (.exc C dx fs false))
  (hT:X.s₀.heap.objs.size<=T) (hH:H T=none) (hp:∀ p ∈ X.pn++Y,p.1≠T) (st:uG s.heap e T .none) (c:bM X.K C) (ch:bM X.K Ch) (hsub:W.mroIn X.K C (.ref Ch)=some b) (hg:Gl X x) (hm:X.mg x=some (.ref Ch))
  (hN:X.N.Nodup) (hi:X.N[i]? =some n) (hn:X.env.scope.names.lookup n=some .local) (hdb:(x ==("__debug__":Str))=false)
  (yes:b=true->∀ s2,Inv (X.aU (.ref e)) Y (U.set i (some (.ref e))) H s2->wpAny (model X.prog X.w) (X.A.mark (some (.ref e))) (execs (b0::aU) X.env)
   (SP (X.aU (.ref e)) Y { nx:=λσ' H'=>D.nx (σ'.set i none) H',rt:=D.rt,bk:=λσ' H'=>D.bk (σ'.set i none) H',ct:=λσ' H'=>D.ct (σ'.set i none) H' }) (λ_ _=>False) s2)
  (no:b=false->wpAny (model X.prog X.w) X.A (handleBy (.ref e) X.env rest) (SP X Y D) X.xe s):
  wpAny (model X.prog X.w) X.A (handleBy (.ref e) X.env (.ExceptHandler (some (.Name x np)) (some n) (b0::aU) hpos::rest)) (SP X Y D) X.xe s:=by
 have I':=I.aU (.ref e);refine wpAny_handleBy_cons (codeAny_handlers_test (aO (X:=X.aU (.ref e)) I' hg hm ?_ hdb)) (by intro q;cases q);obtain⟨⟨vs,ho,hsz,h1⟩,z⟩:=id (I.hok e _ he);have L0:Looks (model X.prog X.w) s.heap (typeOf (.ref e)) (.ref C):=(Looks.ld ho).andThen .now;have L1:Looks (model X.prog X.w) s.heap (typeOf (.ref Ch)) (.type "type"):=looks_typeIn I.aY ch.mt;have L2':Looks (model X.prog X.w) s.heap (isInstance (.ref Ch) (.type "tuple")) false:=L1.andThen (Looks.of_pure tc_notTuple);have L3:Looks (model X.prog X.w) s.heap (isType (.ref Ch)) true:=by
  obtain⟨cd,rs,hcl,_⟩:=ch.mro;unfold W.clsIn at hcl
  split at hcl
  .rename_i ho';intro A' Q' E' s' k q;unfold isType loadHead;exact ad (wpAny_loadPart (k _ _ (I.aY _ _ ho')) (am q))
  .cases hcl
 have L4:Looks (model X.prog X.w) s.heap (isSubtype (.ref Ch) (.type "BaseException")) true:=looks_mroIn I.aY (ch.sub (by decide+kernel));have L5:Looks (model X.prog X.w) s.heap (isSubtype (.ref C) (.ref Ch)) b:=looks_mroIn I.aY hsub;have L6:Looks (model X.prog X.w) s.heap (isExcClass (.ref Ch)) true:=by
  unfold isExcClass;exact L3.andThen L4
 unfold excMatches;refine ad (L2'.here ?_);rw[if_neg (by decide)];refine ad (am ?_);simp only[forIn_cons,forIn_nil];refine ad (ad (ad (L6.here ?_)));rw[if_neg (by decide)];refine am ?_;refine am ?_;refine ad (L0.here ?_);refine ad (ad (ad (L5.here ?_)));cases b with
 |false=>
  rw[if_neg (by decide)];refine am ?_;refine am ?_;refine am ?_;exact no rfl
 |true=>
  rw[if_pos rfl];refine am ?_;refine am ?_;refine am ?_;refine codeAny_handlers_suite_as (nv st λh2 jV oth _ th2 _=>?_);have I2:Inv X Y U H { s with heap:=h2 }:=by
   refine Inv.turned (it:=T) (h':=h2) (t':=s.toks) I (λb o hb hq=>(oth b hb).trans hq) hH ?_ (.inr hT) (λy cc hc z=>?_) hp
   .intro z;obtain⟨m,⟨o,es,ep,ho',hd,_⟩,_⟩:=I.loc;obtain⟨_,_,oT,ts,_,_,_,_,hT2,hd2,_⟩:=st;rw[z,ho']at hT2;cases hT2;rw[hd]at hd2;cases hd2
   .obtain⟨v,o,ho',hd⟩:=I.cell y cc hc;obtain⟨_,_,oT,ts,_,_,_,_,hT2,hd2,_⟩:=st;rw[<-z,ho']at hT2;cases hT2;rw[hd]at hd2;cases hd2
  refine d8 (X:=X.aU (.ref e)) (I2.aU (.ref e)) hN hi (.inl hn) (v:=.ref e) rfl (λs3 I3=>?_) (.inr hn);refine wpAny_mono (yes rfl s3 I3) (λf s4 h4=>?_) λ_ _ z=>z.elim
  cases f with
  |next=>
   obtain⟨σ',H',J,q⟩:=h4;exact c7 (J.gp I.ok) hN hi hn λs5 J5=>⟨_,H',J5,q⟩
  |brk=>
   obtain⟨σ',H',J,q⟩:=h4;exact c7 (J.gp I.ok) hN hi hn λs5 J5=>⟨_,H',J5,q⟩
  |cont=>
   obtain⟨σ',H',J,q⟩:=h4;exact c7 (J.gp I.ok) hN hi hn λs5 J5=>⟨_,H',J5,q⟩
  |ret u=>
   obtain⟨v,σ',H',J,r,q⟩:=h4;exact c7 (J.gp I.ok) hN hi hn λs5 J5=>⟨v,_,H',J5,r,q⟩
end
end L2
namespace L2
open PySem PySem.Spec PyProof.Rows
def rC:bootBuiltins "isinstance"=some (.builtin "isinstance"):=by decide+kernel
section
variable {X:Cx}
abbrev BG (K:W.Frag):V->V->Hp->VK->Prop:=λx y H Q=>∃ p xs i v,x=.ref p/\y=.int i/\aK K H p xs/\0<=i/\xs[i.toNat]? =some v/\Q v H
def sP:zU X (BG X.K):=by
 intro Y s U H o i ov iv Q I ro ri h;obtain⟨p,xs,k,z,rfl,rfl,hq,h0,he,q⟩:=h;cases ro;obtain⟨t,rfl⟩:=ri;obtain⟨its,r,pl,hz⟩:=I.list hq;obtain⟨w,ew,rw'⟩:=r.get he;have hl:k.toNat<xs.length:=(s0.mp he).1;have hn:=dY;exact wpAny_getItem_list pl.isList h0 nofun (by simpa using ew) ⟨z,H,I,rw',q⟩
def gq {xs:List V}{us:List Value}(r:Vals xs us){j:Nat}(h:j<us.toArray.size):∃ x,xs[j]? =some x/\RelV x (us.toArray[j]):=by
 have hl:=r.length;have hj:j<us.length:=by simpa using h
 have e:xs[j]? =some xs[j]:=le nofun;obtain⟨u,h1,h2⟩:=r.get e;refine⟨_,e,?_⟩;rw[le hj]at h1;cases h1;simpa using h2
end
section
variable {U:St}{H:Hp}{Q:VK}{D:Ends}{K:W.Frag}
abbrev qI (x:V)(H:Hp)(R:Bool->Hp->Prop):Prop:=∃ k,x=.bl k/\R k H
def gK {α:Type}{xs:List α}{i:Int}(h0:0<=i)(h1:i<xs.length):∃ v,qH xs i=some v/\v ∈ xs:=by
 obtain⟨n,rfl⟩:=Int.eq_ofNat_of_zero_le h0;have hn:n<xs.length:=by omega
 exact⟨xs[n],n6 (le hn),getElem_mem hn⟩
end
section
variable {K:W.Frag}{g:TG}{tb:TS}{D:Ends}{U:St}{H:Hp}{tl:TE}{ta:TA}
end
def fits {n:Nat}(h:n<=1000):n<=bn:=Nat.le_of_lt (cf h)
section
variable {X:Cx}{H:Hp}{Q:VK}
end
section
variable {K:W.Frag}
end
section
variable {H H':Hp}{h c p:Addr}{m n:Int}{o:HO}
end
def By (ns:List Int)(h:ns.length<=63):dq (ns.map V.int) none (some 63)=ns.map V.int:=by
 have e1:HT.kY (ns.map V.int).length 0 none=0:=rfl;have e2:HT.kY (ns.map V.int).length (ns.map V.int).length (some 63)=(ns.map V.int).length:=by
  show(if(63:Int)<0 then((63:Int)+((ns.map V.int).length:Int)).toNat else min (63:Int).toNat (ns.map V.int).length)=(ns.map V.int).length;rw[if_neg (by decide),ce];show min 63 ns.length=ns.length
  omega
 unfold dq;rw[e1,e2,drop_zero,Nat.sub_zero,List.take_length]
variable {ns:List Int}
def mz {i:Nat}{x:V}(h:(ns.map V.int)[i]? =some x):∃ z,x=V.int z:=by
 rw[ii]at h;cases e:ns[i]? with
 |none=>rw[e]at h;cases h
 |some z=>rw[e]at h;exact⟨z,(Option.some.inj h).symm⟩
def tV {i:Int}(h0:0<=i)(h1:i<ns.length):∃ z,qH (ns.map V.int) i=some (.int z):=by
 obtain⟨v,a,m⟩:=gK (xs:=ns.map V.int) h0 (by rw[ce];exact h1);obtain⟨z,_,rfl⟩:=List.mem_map.mp m;exact⟨z,a⟩
section
variable {H:Hp}{Q:VK}
end
section
variable {X:Cx}
end
variable {A:Around}{E:EL}{s:Shared}
def x8 {α:Type}{t:Sem α}{Q Q':α->Shared->Prop}{M:Model}(h:wpAny M A t Q (λ_ _=>False) s) (hQ:∀ a s,Q a s->Q' a s):wpAny M A t Q' E s:=wpAny_mono h hQ λ_ _ x=>x.elim
abbrev dE (X:Cx)(scope:Scope)(cl:List (Str×Addr))(N:List Str)(s:Shared)(H:Hp)(fp:List Addr):Cx:=
 { X with N:=N,s₀:=s,H₀:=H,env:=compEnvC scope cl s.heap.objs.size X.env,outer:=X.stack,stack:=X.stack,ex:=fp,fn:=λ_=>false,pn:=[],xe:=λ_ _=>False }
structure aS (X:Cx) (scope:Scope) (cl:List (Str×Addr)) (xs:List Str) (fr:List Str) (sel:List Nat):Prop where
 clos:closureFor scope X.env=pure cl
 sub:∀ y c,cl.lookup y=some c->X.env.cells.lookup y=some c
 has:∀ y,((relabel scope X.env).names.lookup y=some .cell\/(relabel scope X.env).names.lookup y=some .free)->∃ c,cl.lookup y=some c
 kind:scope.kind=.function
 nocell:∀ y ∈ scope.names,y.2≠.cell
 names:∀ y ∈ scope.names,y.2=.local->scope.names.lookup y.1=some .local
 own:∀ x ∈ xs,scope.names.lookup x=some .local
 len:sel.length=fr.length
 out:∀ (j:Nat) (y:Str),fr[j]? =some y->∃ i,sel[j]? =some i/\X.N[i]? =some y/\X.env.scope.names.lookup y=some .cell/\(relabel scope X.env).names.lookup y=some .cell
 nd:(xs++fr).Nodup
abbrev eY (U:St)(sel:List Nat):St:=sel.map λi=>U.getD i none
abbrev LC (te:TE)(J:It)(σ₀:St)(H1:Hp)(Q:VK):Prop:=∀ D,H1 D=none->∃ W:Nat->Nat->St->Hp->Prop,(∃ m,W 0 m σ₀ (upd H1 D (.lst [])))/\∀ i m σ' H',W i m σ' H'->
 (J.stop i H'/\Q (.ref D) H')\/(J.go i H'/\∃ N:St->Hp->Prop,(∀ σ2 H2,N σ2 H2->∃ m',m'<m/\W (i+1) m' σ2 H2)/\
  ∀ x H'',J.yld i H' x H''->te (σ'.set 0 (some x)) H'' λv H3=>∃ zs,H3 D=some (.lst zs)/\zs.length<bn/\N (σ'.set 0 (some x)) (upd H3 D (.lst (zs++[v]))))
abbrev gate (env:Env):List Expr->Sem Bool
 | []=>pure true
 |c::_=>isTrue c env (eval c env)
variable {ifs:List Expr}{scope:Scope}{pos:Pos}
def nI {M:Model}{elt target iter:Expr}{it acc:Value}{env:Env}{Q:PySem.Fin->Shared->Prop}(hi:ifs.length<=1)
  (h:wpAny M A (pyNext it) (λr s1=>match r with
   |none=>Q (.done .next) s1
   |some v=>wpAny M A (letOwnedTupleGo target it v) (λ_ s2=>wpAny M A (assign target env v) (λ_ s3=>wpAny M A (gate env ifs) (λok s4=>
    (ok=true->wpAny M A (eval elt env) (λx s5=>wpAny M A (call (.builtin "list.append") [acc,x]) (λ_ s6=>wpAny M A (again (.compLoop (.ListComp elt [⟨target,iter,ifs,0⟩] scope pos) 0 it acc env)) Q E s6) E s5) E s4)/\
    (ok=false->wpAny M A (again (.compLoop (.ListComp elt [⟨target,iter,ifs,0⟩] scope pos) 0 it acc env)) Q E s4)) E s3) E s2) E s1) E s):
  wpAny M A (compTurn (.ListComp elt [⟨target,iter,ifs,0⟩] scope pos) 0 it acc env) Q E s:=by
 have key:∀ {g:Sem Bool}{K:Sem PySem.Fin}{s:Shared},wpAny M A g (λok s4=>
    (ok=true->wpAny M A (eval elt env) (λx s5=>wpAny M A (call (.builtin "list.append") [acc,x]) (λ_ s6=>wpAny M A K Q E s6) E s5) E s4)/\
    (ok=false->wpAny M A K Q E s4)) E s->wpAny M A (g >>= λok=>if ok=true then(eval elt env >>= λx=>call (.builtin "list.append") [acc,x] >>= λ_=>pure ()) >>= λ_=>K else K) Q E s:=λ{g K s} h=>by
  refine ad (wpAny_mono h (λok s4 h4=>?_) λ_ _ e=>e);cases ok with
  |false=>exact h4.2 rfl
  |true=>exact ad (ad (wpAny_mono (h4.1 rfl) (λx s5 h5=>ad (wpAny_mono h5 (λ_ s6 h6=>am h6) λ_ _ e=>e)) λ_ _ e=>e))
 match ifs,hi with
 | [],_=>
  rw[compTurn_list1];refine ad (wpAny_standAt (ad (wpAny_mono h (λr s1 h1=>?_) λ_ _ e=>e)));cases r with
  |none=>exact am h1
  |some v=>
   refine ad (wpAny_mono h1 (λ_ s2 h2=>ad (wpAny_mono h2 (λ_ s3 h3=>?_) λ_ _ e=>e)) λ_ _ e=>e);exact key (g:=pure true) h3
 | [c],_=>
  unfold compTurn;simp only[List.getElem?_cons_zero,List.getElem?_cons_succ,List.getElem?_nil];dsimp only[forIn,List.forIn',List.forIn'.loop,forIn'];rw[if_neg (by decide),if_neg (by decide)];refine ad (wpAny_standAt (ad (wpAny_mono h (λr s1 h1=>?_) λ_ _ e=>e)));cases r with
  |none=>exact am h1
  |some v=>
   refine ad (wpAny_mono h1 (λ_ s2 h2=>ad (wpAny_mono h2 (λ_ s3 h3=>?_) λ_ _ e=>e)) λ_ _ e=>e);refine key ?_;rw[if_pos rfl];refine ad (ad (wpAny_mono h3 (λok s4 h4=>am ?_) λ_ _ e=>e));exact am h4
abbrev LCg (tg:TG)(tc:TT)(te:TE)(J:It)(σ₀:St)(H1:Hp)(Q:VK):Prop:=∀ D,H1 D=none->∃ W:Nat->Nat->St->Hp->Prop,(∃ m,W 0 m σ₀ (upd H1 D (.lst [])))/\∀ i m σ' H',W i m σ' H'->
 (J.stop i H'/\Q (.ref D) H')\/(J.go i H'/\∃ N:St->Hp->Prop,(∀ σ2 H2,N σ2 H2->∃ m',m'<m/\W (i+1) m' σ2 H2)/\
  ∀ x H'',J.yld i H' x H''->tg x σ' H'' λσ2 H2=>tc σ2 H2 λb H3=>(b=true->te σ2 H3 λv H4=>∃ zs,H4 D=some (.lst zs)/\zs.length<bn/\N σ2 (upd H4 D (.lst (zs++[v]))))/\(b=false->N σ2 H3))
abbrev yes:TT:=λ_ H Q=>Q true H
variable {te:TE}
def LC.g {J:It}{σ₀:St}{H1:Hp}{Q:VK}(h:LC te J σ₀ H1 Q):LCg (d7 0) yes te J σ₀ H1 Q:=λD hD=>by
 obtain⟨W,w0,turn⟩:=h D hD;refine⟨W,w0,λi m σ' H' w=>?_⟩;rcases turn i m σ' H' w with z|⟨go,N,hN,step⟩
 .exact .inl z
 .exact .inr ⟨go,N,hN,λx H'' y=>⟨λ_=>step x H'' y,λe=>nomatch e⟩⟩
abbrev Cz (X:Cx)(ifs:List Expr)(tc:TT):Prop:=ifs.length<=1/\∀ (Y:EM) (s:Shared) (U:St) (H:Hp) (Q:Bool->Hp->Prop),Inv X Y U H s->tc U H Q->wpAny (model X.prog X.w) X.A (gate X.env ifs) (TP X Y U Q) X.xe s
variable {X:Cx}
def gm:Cz X [] yes:=⟨Nat.zero_le _,λY s U H Q I q=>am ⟨H,I,q⟩⟩
def wx {c:Expr}{tc:TT}(h:PT X c tc):Cz X [c] tc:=⟨pc _,h⟩
abbrev kO (xs:List Str):St:=xs.map λ_=>none
abbrev D9 (wi:TI)(te:TE)(sel:List Nat):TE:=λU H Q=>wi U H λJ H1=>LC te J (none::eY U sel) H1 Q
abbrev BF (wi:TI)(tg:TG)(tc:TT)(te:TE)(xs:List Str)(sel:List Nat):TE:=λU H Q=>wi U H λJ H1=>LCg tg tc te J (kO xs++eY U sel) H1 Q
variable {cl:List (Str×Addr)}{xs fr:List Str}{sel:List Nat}{fp:List Addr}
section
variable {X:Cx}
def Un.sameBut {fs ex:List Addr}{H H':Hp}{h h1 h2:Heap}{C:Addr}(u:Un fs ex H H' h h1)(hs:Heap.SameBut C h1 h2)(hC:h.objs.size<=C):Un fs ex H H' h h2:=by
 have ne:∀ b o,h.get? b=some o->b≠C:=λb o e=>nw (mo (ss e) hC)
 refine⟨λb o e n hb hx=>(hs.2 b (ne b o e)).trans (u.keep b o e n hb hx),λb o e n hb hx=>?_,u.free,λb o e hx=>?_,u.tups,u.frzs,u.tbls⟩
 .obtain⟨sl,q⟩:=u.slot b o e n hb hx;exact⟨sl,(hs.2 b (ne b o e)).trans q⟩
 .obtain⟨o',q⟩:=u.there b o e hx;exact⟨o',(hs.2 b (ne b o e)).trans q⟩
def kE {Y:EM}{U:St}{H:Hp}{h':Heap}{tk:Nat}{m':EN}
  (S:aS X scope cl xs fr sel) (I:Inv X Y U H s) (f2:∀ b ∈ fp,fH X Y H b) (fo:∀ b ∈ fp,b<s.heap.objs.size) (hns:h'.Ns s.heap.objs.size m') (keep:∀ b o,s.heap.get? b=some o->h'.get? b=some o):
  Inv (dE X scope cl (xs++fr) s H fp) (X.pn++Y) (kO xs++eY U sel) H { s with heap:=h',toks:=tk }:=by
 have stk:∀ b,b≠X.env.locals->b ∉ X.fs->b ∉ jh X.stack:=λb h1 h2 hb=>(li.mp (I.fL b hb)).elim h1 h2
 refine⟨⟨I.ok.mod,S.kind,I.ok.glob,I.ok.blt,pc _,λy z c h1 h2=>I.ok.inj y z c (S.sub y c h1) (S.sub z c h2),λy hy=>S.has y hy,(λy c h=>nomatch h),I.ok.hd,I.ok.frames,.inl rfl,λb hb=>⟨nw (fo b hb),λy c h=>(f2 b hb).2.2.2.2.1 y c (S.sub y c h)⟩,I.bs,
  Nat.le_trans I.ok.bsz I.sz,λb o e hb=>?_,λb hb=>stk b (f2 b hb).2.1 (f2 b hb).2.2.1,I.stack,I.jt⟩,
  rfl,I.bare,Un.kept keep,⟨m',hns,λi y v e1 e2 e3=>?_⟩,λy c h=>?_,I.hok.fresh (pc _),λy c h=>I.freeC y c (S.sub y c h),λp hp=>?_,I.hok.kept keep,?_⟩
 .rcases(f2 b hb).2.2.2.1 with z|z
  .exact I.ok.noex b o e z
  .exact absurd (mo (mo (ss e) I.ok.bsz) z) (Nat.lt_irrefl _)
 .have hln:(kO xs).length=xs.length:=ce ..
  by_cases hlt:i<xs.length
  .rw[getElem?_append_left (by rw[hln];exact hlt)]at e2;unfold kO at e2;rw[ii,le hlt]at e2;cases e2
  .obtain⟨j,rfl⟩:∃ j,i=xs.length+j:=⟨i-xs.length,by omega⟩;have e1':fr[j]? =some y:=by
    have e1:(xs++fr)[xs.length+j]? =some y:=e1;rw[getElem?_append_right nofun,show xs.length+j-xs.length=j by omega]at e1;exact e1
   obtain⟨i,hi,hN,k1,k2⟩:=S.out j y e1';have e2':(eY U sel)[j]? =some (some v):=by
    rw[getElem?_append_right (by rw[hln];omega),hln,show xs.length+j-xs.length=j by omega]at e2;exact e2
   have e4:U[i]? =some (some v):=by
    unfold eY at e2';rw[ii,hi]at e2';have e5:U.getD i none=some v:=Option.some.inj e2';rw[List.getD_eq_getElem?_getD]at e5;cases e6:U[i]? with
    |none=>rw[e6]at e5;cases e5
    |some z=>rw[e6]at e5;exact congrArg some e5
   obtain⟨m,hn,hl⟩:=I.loc;obtain⟨u,r,l⟩:=hl i y v hN e4 (.inr (.inl k1));refine⟨u,r,.inr ⟨.inl k2,?_⟩⟩;rcases l with⟨hk,_⟩|⟨_,c,hc,o,ho,hd⟩
   .have hk':X.env.scope.names.lookup y=some .local:=hk;rw[k1]at hk';cases hk'
   .obtain⟨c',hc'⟩:=S.has y (.inl k2);have:=(S.sub y c' hc').symm.trans hc;cases this;exact⟨c,hc',o,keep c o ho,hd⟩
 .obtain⟨v,o,ho,hd⟩:=I.cell y c (S.sub y c h);exact⟨v,o,keep c o ho,hd⟩
 .obtain⟨e,n,ne,nf,d⟩:=I.pin p (by simpa[dE] using hp);exact⟨keep p.1 p.2 e,n,nw (ss e),stk p.1 ne nf,d⟩
 .show(kO xs++eY U sel).length=(xs++fr).length;unfold eY kO;simp[S.len]
def i6 {elt iter tgt:Expr}{wi:TI}{tg:TG}{tc:TT}(hc:X.calm=true)(S:aS X scope cl xs fr sel)(hi:PI X tgt iter wi)
  (hg:∀ (s:Shared) (H:Hp) (fp:List Addr),PG (dE X scope cl (xs++fr) s H fp) tgt tg) (ht:∀ (s:Shared) (H:Hp) (fp:List Addr),Cz (dE X scope cl (xs++fr) s H fp) ifs tc)
  (he:∀ (s:Shared) (H:Hp) (fp:List Addr),PE (dE X scope cl (xs++fr) s H fp) elt te) (hs:∀ x,foldedSetIterable iter X.env x=pure x):PE X (.ListComp elt [⟨tgt,iter,ifs,0⟩] scope pos) (BF wi tg tc te xs sel):=by
 intro Y s U H Q I h;rw[eval_ListComp];refine wpAny_comprehension_free (use:=none) rfl hs S.clos S.kind S.names ?_;refine au (hi Y s U H _ I h) λv s1 h1=>au h1 λitv s2 h2=>?_
 obtain⟨it,fp,tn,J,H2,e,I2,T,jV,f2,h2⟩:=h2;subst e;refine wpAny_newObj_type ?_;have hD:H2 s2.heap.objs.size=none:=I2.hok.fresh (pc _);have I3:Inv X Y U (upd H2 s2.heap.objs.size (.lst [])) { s2 with heap:=s2.heap.push { cls:=.type "list",dict:=none,data:=.seq ([]:List Value).toArray } }:=
  I2.laid (t':=s2.toks) (λb u e=>sn _ e) (pc _) ⟨Nat.zero_le _,[],0,.nil,sw _ rfl⟩
 have fo2:∀ b ∈ fp,b<s2.heap.objs.size:=λb hb=>by
  obtain⟨o,ho,_⟩:=T.obj _ _ jV b hb;exact ss ho
 have f3:∀ b ∈ fp,fH X Y (upd H2 s2.heap.objs.size (.lst [])) b:=λb hb=>⟨by rw[af (nw (fo2 b hb))];exact(f2 b hb).1,(f2 b hb).2⟩
 have st3:tn 0 (s2.heap.push { cls:=.type "list",dict:=none,data:=.seq ([]:List Value).toArray }):=T.keep _ _ _ jV λb hb o e=>sn _ e
 have fo3:∀ b ∈ fp,b<(s2.heap.push { cls:=.type "list",dict:=none,data:=.seq ([]:List Value).toArray }).objs.size:=λb hb=>by
  rw[Heap.size_push];exact Nat.lt_succ_of_lt (fo2 b hb)
 obtain⟨W,⟨m0,w0⟩,turn⟩:=h2 _ hD;generalize s2.heap.objs.size=D at*;generalize hs3:({ s2 with heap:=s2.heap.push { cls:=.type "list",dict:=none,data:=.seq ([]:List Value).toArray } }:Shared)=s3 at*;have st3':tn 0 s3.heap:=by rw[<-hs3];exact st3
 have fo3':∀ b ∈ fp,b<s3.heap.objs.size:=by rw[<-hs3];exact fo3
 refine wpAny_newFunctionEnv S.nocell (by intro y hy;simp at hy) (λh' hns hsb=>?_) S.kind;have keep:∀ b o,s3.heap.get? b=some o->h'.get? b=some o:=λb o e=>(hsb.2 b (nw (ss e))).trans (sn _ e)
 have I4:=kE (tk:=s3.toks+([]:List (Str×Value)).length) S I3 f3 fo3' hns keep;have st4:tn 0 h':=T.keep _ _ _ st3' λb hb o e=>keep b o e
 have stat:∀ {H':Hp},(∀ b ∈ fp,H' b=none)->∀ b ∈ fp,fH (dE X scope cl (xs++fr) s3 (upd H2 D (.lst [])) fp) (X.pn++Y) H' b:=λ{H'} hn b hb=>
  ⟨hn b hb,nw (fo3' b hb),λz=>(li.mp (I3.fL b z)).elim (f3 b hb).2.1 (f3 b hb).2.2.1,.inl hb,λy c hy=>(f3 b hb).2.2.2.2.1 y c (S.sub y c hy),λp hp=>(f3 b hb).2.2.2.2.2 p (by simpa[dE] using hp)⟩
 have loop:codeAny (model X.prog X.w) X.A (.compLoop (.ListComp elt [⟨tgt,iter,ifs,0⟩] scope pos) 0 (.ref it) (.ref D) (compEnvC scope cl s3.heap.objs.size X.env))
   (compPost (model X.prog X.w) X.A X.xe none (EP X Y U Q) (.ref D) s3.heap.objs.size) { s3 with heap:=h',toks:=s3.toks+([]:List (Str×Value)).length }:=by
  refine codeAny_loop rfl (λn s'=>∃ i σ' H',Inv (dE X scope cl (xs++fr) s3 (upd H2 D (.lst [])) fp) (X.pn++Y) σ' H' s'/\tn i s'.heap/\(∀ b ∈ fp,H' b=none)/\W i n σ' H') (λn s5 hI=>?_) m0 ⟨0,_,_,I4,st4,λb hb=>(f3 b hb).1,w0⟩;show wpAny _ _ ((compTurn (.ListComp elt [⟨tgt,iter,ifs,0⟩] scope pos) 0 (.ref it) (.ref D) (compEnvC scope cl s3.heap.objs.size X.env)).onRaise (λx=>do noteFrame x (compEnvC scope cl s3.heap.objs.size X.env);theTreesLotGoes x)) _ _ s5;refine wpAny_noted ?_;refine nI (ht s3 (upd H2 D (.lst [])) fp).1 ?_;obtain⟨i,σ5,H5,I5,st5,fr5,w5⟩:=hI;rcases turn i n σ5 H5 w5 with⟨stop,q⟩|⟨go,Nn,hN,step⟩
  .refine au (T.done (dE X scope cl (xs++fr) s3 (upd H2 D (.lst [])) fp) rfl rfl rfl hc i _ s5 σ5 H5 _ I5 (stat fr5) st5 stop) λr s6 ⟨hr,I6⟩=>?_
   subst hr;obtain⟨m,hn,_⟩:=I6.loc;refine⟨m,hn,λh'' hs''=>⟨.ref D,H5,I3.r8 (ch:=fp) I6.os (I6.base.sameBut hs'' (pc _)) (λb ob e=>?_) I6.bare λb hb=>⟨(f3 b hb).2.2.2.1,(f3 b hb).2.1,(f3 b hb).2.2.2.2.1,(f3 b hb).2.2.2.2.2⟩,rfl,q⟩⟩;refine(I6.hok b ob e).dr (λc w' hc' q'=>(hs''.2 c ?_).trans q') (λ_ q'=>q') λ_ _ q'=>q'
   have fC:H5 s3.heap.objs.size=none:=I6.free;intro z;rcases hc' with z2|z2
   .rw[z2]at z;rw[z,fC]at e;cases e
   .rw[z,fC]at z2;cases z2
  .have fin:∀ {σ8:St}{H10:Hp}{s10:Shared},Inv (dE X scope cl (xs++fr) s3 (upd H2 D (.lst [])) fp) (X.pn++Y) σ8 H10 s10/\tn (i+1) s10.heap/\(∀ b ∈ fp,H10 b=none)->Nn σ8 H10->∃ m',m'<n/\∃ i σ' H',Inv (dE X scope cl (xs++fr) s3 (upd H2 D (.lst [])) fp) (X.pn++Y) σ' H' s10/\tn i s10.heap/\(∀ b ∈ fp,H' b=none)/\W i m' σ' H':=λ⟨I,t,f⟩ nn=>by
    obtain⟨m',hm,w10⟩:=hN _ _ nn;exact⟨m',hm,i+1,_,_,I,t,f,w10⟩
   refine au (T.item (dE X scope cl (xs++fr) s3 (upd H2 D (.lst [])) fp) rfl rfl rfl hc i _ s5 σ5 H5 _ I5 (stat fr5) st5 go) λr s6 ⟨u,hr,h6⟩=>?_
   subst hr;refine au h6 λ_ s7 ⟨xv,H7,I7,r7,y7,st7,fr7⟩=>?_
   have I7':=I7.pinned (stat fr7) (T.obj _ _ st7);refine x8 (hg s3 _ fp _ s7 σ5 H7 xv u _ I7' r7 (step xv _ y7)) λ_ s8 ⟨σ8,H8,I8,q8⟩=>?_
   refine x8 ((ht s3 _ fp).2 _ s8 σ8 H8 _ I8 q8) λok s9 ⟨H9,I9,q9⟩=>?_
   have back:∀ {H10:Hp}{s10:Shared},Inv (dE X scope cl (xs++fr) s3 (upd H2 D (.lst [])) fp) _ σ8 H10 s10->Inv (dE X scope cl (xs++fr) s3 (upd H2 D (.lst [])) fp) (X.pn++Y) σ8 H10 s10/\tn (i+1) s10.heap/\(∀ b ∈ fp,H10 b=none):=λ{H10 s10} I10=>⟨I10.cM,T.keep _ _ _ st7 λb hb o e=>(I10.pin (b,o) (gt _ (gt _ (a9 hb e)))).1,λb hb=>by
    obtain⟨o,e,d⟩:=T.obj _ _ st7 b hb;exact(I10.pin (b,o) (gt _ (gt _ (a9 hb e)))).2.1⟩
   refine⟨λek=>?_,λek=>am ⟨rfl,fin (back I9) (q9.2 ek)⟩⟩;refine x8 (he s3 _ fp _ s9 _ _ _ I9 (q9.1 ek)) λuv s10 ⟨vv,H10,I10,r10,zs,hz,hzl,n10⟩=>?_
   refine x8 (iS (X:=dE X scope cl (xs++fr) s3 (upd H2 D (.lst [])) fp) _ s10 _ H10 (.ref D) [vv] (.ref D) [uv] (λ_ H'=>H'=upd H10 D (.lst (zs++[vv]))) I10 rfl (.cons r10 .nil) ⟨D,zs,vv,rfl,rfl,hz,hzl,rfl⟩) λ_ s11 ⟨_,H11,I11,_,e11⟩=>?_
   subst e11;exact am ⟨rfl,fin (back I11) n10⟩
 exact codeAny_compStart_list loop (T.self _ 0 _ _ _ st4 loop)
def l9 {x:Str}{px:Pos}{H:Hp}(S:aS X scope cl [x] fr sel):PG (dE X scope cl ([x]++fr) s H fp) (.Name x px) (d7 0):=fc S.nd rfl (.inl (lookup_relabel_local (S.own x (lf ..)))) (.inr (lookup_relabel_local (S.own x (lf ..))))
abbrev Ek (wi:TI):TI:=λU H R=>∃ R0:It->Hp->Prop,wi U H R0/\∀ J H,R0 J H->R J H
def PI.up {tg iter:Expr}{wi:TI}(h:PI X tg iter wi):PI X tg iter (Ek wi):=λY s U H R I ⟨R0,q,m⟩=>
 au (h Y s U H R0 I q) λv s1 h1=>wpAny_mono h1 (λitv s2 ⟨it,fp,tn,J,H',e,I,T,t0,f,r⟩=>⟨it,fp,tn,J,H',e,I,T,t0,f,m _ _ r⟩) λ_ _ e=>e
def um {elt iter:Expr}{x:Str}{px:Pos}{wi:TI}(hc:X.calm=true)(S:aS X scope cl [x] fr sel)(hi:PI X (.Name x px) iter wi)
  (he:∀ (s:Shared) (H:Hp) (fp:List Addr),PE (dE X scope cl (x::fr) s H fp) elt te) (hs:∀ x,foldedSetIterable iter X.env x=pure x):PE X (.ListComp elt [⟨.Name x px,iter,[],0⟩] scope pos) (D9 wi te sel):=λY s U H Q I h=>
 i6 (tg:=d7 0) hc S hi.up (λs H fp=>l9 S) (λ_ _ _=>gm) he hs Y s U H Q I ⟨_,h,λ_ _ q=>q.g⟩
end
section
variable {U:St}{H:Hp}{Q:VK}{te tl:TE}{ta:TA}{sel:List Nat}{σ₀ rest:St}{K:W.Frag}
end
def cB {env:Env}:∀ {names:List (Str×NameKind)}{y:Str}{k':NameKind},(names.map λ(n,k)=>if(k ==NameKind.free&&env.scope.kind ==.function&&env.kindOf n ==some .cell) then(n,NameKind.cell) else(n,k)).lookup y=some k'->∃ k,(y,k) ∈ names/\(k'=k\/(k=.free/\k'=.cell))
 | [],_,_,h=>by simp at h
 |(n,k)::r,y,k',h=>by
  rw[map_cons,lookup_cons]at h
  by_cases hc:(k ==NameKind.free&&env.scope.kind ==.function&&env.kindOf n ==some .cell)=true
  .simp only[hc,if_true]at h
   by_cases e:y=n
   .subst e;simp at h;simp at hc;exact⟨k,lf,.inr ⟨hc.1.1,h.symm⟩⟩
   .rw[show(y ==n)=false from beq_eq_false_iff_ne.mpr e]at h;obtain⟨k2,m,q⟩:=cB (env:=env) h;exact⟨k2,dl _ m,q⟩
  .rw[Bool.not_eq_true]at hc;simp only[hc,Bool.false_eq_true,if_false]at h
   by_cases e:y=n
   .subst e;simp at h;exact⟨k,lf,.inl h.symm⟩
   .simp only[show(y ==n)=false from beq_eq_false_iff_ne.mpr e]at h;obtain⟨k2,m,q⟩:=cB (env:=env) h;exact⟨k2,dl _ m,q⟩
section
variable {K:W.Frag}
end
section
variable {K:W.Frag}{H:Hp}
end
section
variable {U:St}{H:Hp}{Q:VK}
end
abbrev notStar:Expr->Bool
 | .Starred ..=>false
 |_=>true
variable {es:List Expr}
def ab {e:Expr}{env:Env}(h:notStar e=true):bm (e::es) env=(false,eval e env)::bm es env:=by
 cases e<;>first|rfl|cases h
def gc {e:Expr}{t:TA}(ha:PE X e te)(hr:PA X es t)(h:notStar e=true:=by rfl):PA X (e::es) (xA te t):=xh ha hr (ab h)
section
variable {X:Cx}{Y:EM}{U:St}{H:Hp}{s:Shared}{h':Heap}
def Inv.kG {t':Nat}{ch:List Addr}{a:Addr}{o:HO}(I:Inv X Y U H s)(k:∀ b u,b ∉ ch->s.heap.get? b=some u->h'.get? b=some u) (hf:∀ b ∈ ch,fH X Y H b)
  (hp:s.heap.objs.size<=a) (new:ao X.prog X.w (upd H a o) h' a o):Inv X Y U (upd H a o) { s with heap:=h',toks:=t' }:=by
 have hn:H a=none:=I.hok.fresh hp;have nch:∀ b u,H b=some u->b ∉ ch:=λb u e z=>by rw[(hf b z).1]at e;cases e
 refine I.step (g':=s.gens) (d':=s.drawn) (ch:=ch) (λb hb=>?_) (λb o _ _ hc e _=>k b o hc e) (λb o _ _ hc e _=>⟨o.slots,k b o hc e⟩) (λb o hc e n=>?_)
  (λb o hc e=>⟨o,k b o hc e⟩) (λb xs e=>?_) (λb ob u e=>?_) (λb ps e=>?_) (λm hm=>?_) (λb u e=>?_) I.bare
 .obtain⟨_,f1,_,f3,f4,f5⟩:=hf b hb;exact⟨f3,f1,f4,f5⟩
 .rw[af (nw (mo (ss e) hp))];exact n
 .rw[af (aB e hn)];exact e
 .rw[af (aB e hn)];exact e
 .exact⟨#[],by rw[af (aB e hn),e];simp⟩
 .obtain⟨o,es,ep,ho,r⟩:=hm;exact⟨o,es,ep,k _ o (λz=>(hf _ z).2.1 rfl) ho,r⟩
 .by_cases hb:b=a
  .subst hb;rw[aj]at e;cases e;exact new
  .rw[af hb]at e;refine(I.hok b u e).dr (λc v hc q=>k c v ?_ q) (λc q=>by rw[af (aB q hn)];exact q) λc xs q=>by rw[af (aB q hn)];exact q
   rcases hc with rfl|hc
   .exact nch _ _ e
   .exact nch _ _ hc
end
abbrev BH (l:Addr):It:=
 ⟨λi H=>∃ xs x,H l=some (.lst xs)/\xs[i]? =some x,λi H x H'=>∃ T y,H T=none/\x=.ref T/\H'=upd H T (.tup [.int i,y])/\∀ xs,H l=some (.lst xs)->xs[i]? =some y,λi H=>∃ xs,H l=some (.lst xs)/\xs.length<=i⟩
variable {elts:List Expr}
def pK {P:Program}{w:World}{K:W.Frag}{k:Nat}(l e it:Addr)(hei:e≠it):
  Turn P w K (.Tuple elts k pos) (BH l) [e,it] e (λi h=>(∃ old,IsEnum h e it ((i:Nat):Int) old)/\h.IsListIter it l i) where
 mem:=by simp
 obj:=λi h st b hb=>by
  obtain⟨⟨old,he⟩,hit⟩:=st;rcases li.mp hb with rfl|hb
  .exact⟨_,he,λv z=>by
    have z':Data.fields _=Data.cell v:=z;cases z'⟩
  .have e':b=it:=by simpa using hb
   subst e';obtain⟨o,e,c,d⟩:=hit;exact⟨o,e,λv z=>by rw[d]at z;cases z⟩
 keep:=λi h h' st k=>by
  obtain⟨⟨old,he⟩,hit⟩:=st;exact⟨⟨old,k e (by simp) _ he⟩,hit.at λo q=>k it (by simp) o q⟩
 item:=by
  intro X hP hw hK hc i Y s U H E I hf st hg;subst hP hw hK;obtain⟨xs,x,hq,hx⟩:=hg;obtain⟨⟨old,he⟩,hit⟩:=st;obtain⟨its,rv,p,hz⟩:=I.list (aK.of hq);obtain⟨u,hu,ru⟩:=rv.get hx;have heN:H e=none:=(hf e (by simp)).1;have hes:e≠s.heap.objs.size:=nw (ss he);obtain⟨oi,hoi,_⟩:=id hit;have his:it≠s.heap.objs.size:=nw (ss hoi);refine wpAny_pyNext_enum_item he hit p.isList (x:=u) (by simpa using hu) hei λh1 heo hit1 ht1 hz1 hk1=>?_
  have I1:Inv X Y U (upd H s.heap.objs.size (.tup [.int i,x])) { s with heap:=h1,toks:=s.toks+1 }:=
   I.kG (ch:=[e,it]) (λb o hb q=>hk1 b o (λz=>hb (by simp[z])) (λz=>hb (by simp[z])) q) hf (pc _)
    ⟨fits (nl rfl),[.int i s.toks,u],.cons ⟨_,rfl⟩ (.cons ru .nil),⟨_,ht1,rfl,_,rfl⟩⟩
  refine⟨_,rfl,wpAny_letOwnedTupleGo_enum heo λh2 he2 hs2=>?_⟩;obtain⟨f0,f1,f2,f3,f4,f5⟩:=hf e (by simp);have I2:=I1.turned (h':=h2) (t':=s.toks+1) (it:=e) (λb o hb q=>(hs2.2 b hb).trans q) (by rw[af hes];exact heN) f1 f3 f4 f5;refine⟨.ref s.heap.objs.size,_,I2,rfl,⟨_,x,I.hok.fresh (pc _),rfl,rfl,λys hy=>?_⟩,⟨⟨_,by simpa using he2⟩,hit1.at λo q=>(hs2.2 it hei.symm).trans q⟩,λb hb=>?_⟩
  .rw[hq]at hy;cases hy;exact hx
  .have hb':b≠s.heap.objs.size:=by
    rcases li.mp hb with rfl|hb
    .exact hes
    .have e':b=it:=by simpa using hb
     subst e';exact his
   rw[af hb'];exact(hf b hb).1
 done:=by
  intro X hP hw hK hc i Y s U H E I hf st hg;subst hP hw hK;obtain⟨xs,hq,hx⟩:=hg;obtain⟨⟨old,he⟩,hit⟩:=st;obtain⟨its,rv,p,hz⟩:=I.list (aK.of hq);obtain⟨f0,f1,f2,f3,f4,f5⟩:=hf it (by simp);have hl:=rv.length;exact wpAny_pyNext_enum_end (I.ok.hd hc) he hit p.isList (by simp;omega) λh' eb=>⟨rfl,I.turned (t':=s.toks) (λb o hb q=>eb b o hb q) f0 f1 f3 f4 f5⟩
 self:=λ_ _ _ _ _ st h=>by
  obtain⟨⟨old,he⟩,hit⟩:=st;exact wpAny_pyIter_enum he h
def jL:bootBuiltins "enumerate"=some (.type "enumerate"):=by decide+kernel
abbrev Bg (ta:TA):TI:=λU H R=>ta U H λvs H1=>∃ l,vs=[.ref l]/\(∃ xs,H1 l=some (.lst xs))/\R (BH l) H1
def vt {k:Nat}{a:Expr}{ta:TA}{p pos':Pos}(hg:Gl X "enumerate") (hm:X.mg "enumerate"=none) (ha:PA X [a] ta) (hs:bm [a] X.env=[(false,eval a X.env)]:=by rfl):
  PI X (.Tuple elts k pos') (.Call (.Name "enumerate" p) [a] [] pos) (Bg ta):=by
 intro Y s U H R I h;refine Call_ (cP I hg hm jL (PyProof.Rows.callWith_type1 (au (ha pos Y s U H _ I h) λus s1 ⟨vs,H1,I1,r1,q1⟩=>?_) hs rfl));obtain⟨l,e,⟨xs,hl⟩,q⟩:=q1;subst e;cases r1 with
 |cons r rr=>
  cases rr;cases r;obtain⟨z,its,n,r,hlen,e⟩:=I1.kH hl;refine call_enumerate_1 e λh' he hit hsz hk=>?_
  refine wpAny_pyIter_enum he ?_;refine⟨s1.heap.objs.size+1,[s1.heap.objs.size+1,s1.heap.objs.size],_,_,H1,rfl,I1.kept (t':=s1.toks) hk,pK l _ _ (Nat.succ_ne_self _),⟨⟨_,he⟩,hit⟩,λb hb=>?_,q⟩;have hb':s1.heap.objs.size<=b:=by
   rcases li.mp hb with rfl|hb
   .exact Nat.le_succ _
   .have e':b=s1.heap.objs.size:=by simpa using hb
    exact Nat.le_of_eq e'.symm
  exact I1.p9 hb' (I1.hok.fresh hb')
section
variable {g:TG}{tb:TS}{D:Ends}{U:St}{H:Hp}{ta:TA}
end
section
variable {X:Cx}
abbrev uV:V->List V->Hp->VK->Prop:=λx vs H Q=>∃ l xs i y,x=.ref l/\vs=[.int i,y]/\H l=some (.lst xs)/\0<=i/\i<=xs.length/\xs.length<bn/\Q .non (upd H l (.lst (xs.take i.toNat++y::xs.drop i.toNat)))
def Vals.take':∀ {xs:List V}{us:List Value}(n:Nat),Vals xs us->Vals (xs.take n) (us.take n)
 |_,_,0,_=>by simpa using Paired.nil
 |_,_,n+1,.nil=>.nil
 |_,_,n+1,.cons r t=>.cons r (Vals.take' n t)
def Vals.drop':∀ {xs:List V}{us:List Value}(n:Nat),Vals xs us->Vals (xs.drop n) (us.drop n)
 |_,_,0,r=>r
 |_,_,n+1,.nil=>.nil
 |_,_,n+1,.cons r t=>Vals.drop' n t
def pT:DF X "list.insert" uV:=by
 intro Y s U H x vs v us Q I rx rv h;obtain⟨l,xs,i,y,rfl,rfl,hH,h0,h1,hz,q⟩:=h;cases rx;obtain⟨u,u2,rfl,ru,ru2⟩:=vals2 rv;obtain⟨t,rfl⟩:=ru;obtain⟨z,its,n,r,hl,e⟩:=I.kH hH;have hk:i.toNat<=its.length:=by omega
 have hn:=dY;have hfit:¬ (!Builtin.List.listFitsIndex i)=true:=by
  rw[fitsIndex_both (k:=i) nofun nofun]
  decide
 have hsz:its.toArray.size<=bn:=by rw[ge];omega
 have hmt:=AutoSeq1.list_insert_list_int_val_1 l its.toArray n i t u2 hfit hsz;refine call_meets F.slot_list_insert ⟨_,e,rfl⟩ F.entry_list_insert (F.args_list_insert_3 _ _ _) hmt ⟨e,?_⟩;refine⟨.non,_,I.yi (its':=its.take i.toNat++u2::its.drop i.toNat) hH e ?_ ?_ ?_,rfl,q⟩
 .have ek:(if i<0 then(i+(its.toArray.size:Int)).toNat else min i.toNat its.toArray.size)=i.toNat:=by
   rw[if_neg nofun,ge];exact Nat.min_eq_left hk
  show((its.toArray.extract 0 (if i<0 then(i+(its.toArray.size:Int)).toNat else min i.toNat its.toArray.size)).push u2++its.toArray.extract (if i<0 then(i+(its.toArray.size:Int)).toNat else min i.toNat its.toArray.size))=_;rw[ek];apply Array.ext';simp;exact take_of_length_le (by rw[io];omega)
 .exact(Vals.take' i.toNat r).append (.cons ru2 (Vals.drop' i.toNat r))
 .rw[ci,length_cons,db,io]
  omega
end
section
variable {K:W.Frag}{r:V->List V->Hp->VK->Prop}{to:TE}{t:TA}{U:St}{H:Hp}{Q:VK}
end
section
variable {H H1 H2:Hp}{p h c:Addr}{o:HO}{m:Int}
end
section
variable {H H':Hp}{xs ys:List V}{f:Nat->Int×Int}
end
section
variable {X:Cx}{a b c d:Expr}{ta tb tc td:TE}{pos:Pos}
end
section
variable {K:W.Frag}{U:St}{H:Hp}{Q:VK}{ta tb tc td tv:TE}{t:TA}{f m:Str}{D:Ends}{C:Addr}{sp:Sp}{dvs:List V}{E:XK}
end
section
variable {g:TG}{tb:TS}{D:Ends}{U:St}{H:Hp}{ta:TA}
end
section
variable {C:Addr}{H H':Hp}{S D h c:Addr}{rs:List Rec}{r:Rec}
end
section
variable {X:Cx}
end
end L2
namespace L2
end L2
namespace L2
open PySem PySem.Spec PyProof.Rows
section
variable {C:Addr}{H HF:Hp}{S D h c:Addr}{rs:List Rec}{r':Rec}
end
section
variable {X:Cx}
end
structure CV (K:W.Frag) (C:Addr):Prop where
 ha:W.findIn K (.ref C) "__class__"=some (some (.builtin "object.__class__"))
 hn:W.specialIn K (.builtin "object.__class__") "__get__"=some (some (.builtin "getset_descriptor.__get__"))
 htk:W.takesIn K (.builtin "object.__class__")=some true
 hm:W.mroIn K C (.type "object")=some true
end L2
namespace L2
open PySem PySem.Spec PySem.W PyProof.Rows
abbrev aJ (tp:Bool)(h:Heap)(j b:Addr)(k:Nat):Prop:=match tp with
 |true=>h.IsTupleIter j b k
 |false=>h.IsListIter j b k
abbrev aZ (tp:Bool)(h:Heap)(b:Addr)(xs:Array Value):Prop:=match tp with
 |true=>h.IsTuple b xs
 |false=>h.IsList b xs
variable {tp:Bool}{h:Heap}{k:Nat}
def aJ.to {h':Heap}{j b:Addr}(g:aJ tp h j b k)(e:∀ o,h.get? j=some o->h'.get? j=some o):aJ tp h' j b k:=by
 cases tp
 .obtain⟨o,e1,r⟩:=(show h.IsListIter j b k from g);exact⟨o,e o e1,r⟩
 .obtain⟨o,e1,r⟩:=(show h.IsTupleIter j b k from g);exact⟨o,e o e1,r⟩
def aZ.to {h':Heap}{b:Addr}{xs:Array Value}(g:aZ tp h b xs)(e:∀ o,h.get? b=some o->h'.get? b=some o):aZ tp h' b xs:=by
 cases tp
 .obtain⟨o,e1,r⟩:=(show h.IsList b xs from g);exact⟨o,e o e1,r⟩
 .obtain⟨o,e1,r⟩:=(show h.IsTuple b xs from g);exact⟨o,e o e1,r⟩
def aJ.lt {tp:Bool}{h:Heap}{j b:Addr}{k:Nat}(g:aJ tp h j b k):j<h.objs.size:=by
 cases tp
 .obtain⟨o,e1,r⟩:=(show h.IsListIter j b k from g);exact ss e1
 .obtain⟨o,e1,r⟩:=(show h.IsTupleIter j b k from g);exact ss e1
def aZ.lt {tp:Bool}{h:Heap}{b:Addr}{xs:Array Value}(g:aZ tp h b xs):b<h.objs.size:=by
 cases tp
 .obtain⟨o,e1,r⟩:=(show h.IsList b xs from g);exact ss e1
 .obtain⟨o,e1,r⟩:=(show h.IsTuple b xs from g);exact ss e1
variable {Q:Option Value->Shared->Prop}{c:Addr}{T:Int}{t:Tok}{fb:Bool}{oT:Obj}{elts:List Expr}{pos:Pos}
section
variable {prog:Program}{w:World}{A:Around}{E:EL}{s:Shared}
def zV {j b:Addr}{xs:Array Value}{x:Value}{Q:EL}(g:s.heap.IsTupleIter j b k)(t:s.heap.IsTuple b xs)(hx:xs[k]? =some x)
  (q:∀ h',h'.IsTupleIter j b (k+1)->Heap.SameBut j s.heap h'->Q x { s with heap:=h' }):wpAny (model prog w) A (Builtin.SmallTypes.nextOf (.ref j)) Q E s:=by
 obtain⟨o1,e1,c1,d1⟩:=id g;obtain⟨o2,e2,_,n2,d2⟩:=t;unfold Builtin.SmallTypes.nextOf;refine ad (wpAny_callSpecial?_slot (name:=Str.ofString "__next__") g.typeIs F.slot_tuple_iterator_next (wpAny_call_entry F.slot_tuple_iterator_next g.typeIs F.entry_tuple_iterator_next ?_ (F.args_tuple_iterator_next_1 _)));show wpAny _ _ (field (.ref j) 0 >>= _) _ _ s;refine ad (ap e1 d1 (x:=.ref b) rfl ?_);show wpAny _ _ (if(Value.ref b ==Value.none)=true then _ else _) _ _ s;rw[if_neg (show ¬ ((Value.ref b ==Value.none)=true) from Bool.false_ne_true)];show wpAny _ _ (field (.ref j) 1 >>= _) _ _ s;refine ad (ap e1 d1 (x:=.int k 0) rfl ?_);show wpAny _ _ (seqItems? (.ref b) >>= _) _ _ s;refine ad (wpAny_seqItems e2 d2 ?_);simp only[pi,hx];refine ad (wpAny_setField e1 d1 (by simp) (am ⟨x,rfl,am (q _ ?_ (Heap.SameBut.update ..))⟩));refine⟨_,Heap.get?_update_self _ e1 (Obj.isFreed_of_fields (Obj.data_mapFields d1 _)),(Obj.cls_mapFields ..).trans c1,?_⟩;rw[Obj.data_mapFields d1];simp[rawInt]
def vA {j b:Addr}{xs:Array Value}{Q:EL}(hh:A.handled=none)(g:s.heap.IsTupleIter j b k)(t:s.heap.IsTuple b xs)(hx:xs[k]? =none)
  (q:∀ h' e,Heap.ExtBut j s.heap h'->(∃ o,h'.get? e=some o/\o.cls=.type "StopIteration")->E (.ref e) { s with heap:=h' }):wpAny (model prog w) A (Builtin.SmallTypes.nextOf (.ref j)) Q E s:=by
 obtain⟨o1,e1,c1,d1⟩:=id g;obtain⟨o2,e2,_,n2,d2⟩:=t;unfold Builtin.SmallTypes.nextOf;refine ad (wpAny_callSpecial?_slot (name:=Str.ofString "__next__") g.typeIs F.slot_tuple_iterator_next (wpAny_call_entry F.slot_tuple_iterator_next g.typeIs F.entry_tuple_iterator_next ?_ (F.args_tuple_iterator_next_1 _)));show wpAny _ _ (field (.ref j) 0 >>= _) _ _ s;refine ad (ap e1 d1 (x:=.ref b) rfl ?_);show wpAny _ _ (if(Value.ref b ==Value.none)=true then _ else _) _ _ s;rw[if_neg (show ¬ ((Value.ref b ==Value.none)=true) from Bool.false_ne_true)];show wpAny _ _ (field (.ref j) 1 >>= _) _ _ s;refine ad (ap e1 d1 (x:=.int k 0) rfl ?_);show wpAny _ _ (seqItems? (.ref b) >>= _) _ _ s;refine ad (wpAny_seqItems e2 d2 ?_);simp only[pi,hx];refine ad (wpAny_rule (ad (wpAny_setField e1 d1 (by simp) ?_)));show wpAny _ _ (newExc (.type "StopIteration") [] >>= _) _ _ _;refine ad ?_;simp only[newExc,newTuple];refine ad (wpAny_newObj_type ?_ (by size_fits));refine ad (m:=firstArgMember _ _) (wpAny_of_eq (a:=Value.none) (by first|rfl|(simp only[firstArgMember];rfl)) ?_);refine wpAny_newObj_type ?_ (by size_fits);simp only[raiseNew];refine ad (wpAny_handled ?_);first|rw[show A.in1.handled=none from hh]|rw[hh]
 refine ad (am (wpAny_throw ?_));exact q _ _ (((Heap.SameBut.update ..).extBut.push _).push _) ⟨_,sw _ rfl,rfl⟩
def de {j b:Addr}{xs:Array Value}{x:Value}{Q:EL}(g:aJ tp s.heap j b k)(t:aZ tp s.heap b xs)(hx:xs[k]? =some x)
  (q:∀ h',aJ tp h' j b (k+1)->Heap.SameBut j s.heap h'->Q x { s with heap:=h' }):wpAny (model prog w) A (Builtin.SmallTypes.nextOf (.ref j)) Q E s:=by
 cases tp
 .exact wpAny_nextOf_list_item g t hx q
 .exact zV g t hx q
def i9 {j b:Addr}{xs:Array Value}{Q:EL}(hh:A.handled=none)(g:aJ tp s.heap j b k)(t:aZ tp s.heap b xs)(hx:xs[k]? =none)
  (q:∀ h' e,Heap.ExtBut j s.heap h'->(∃ o,h'.get? e=some o/\o.cls=.type "StopIteration")->E (.ref e) { s with heap:=h' }):wpAny (model prog w) A (Builtin.SmallTypes.nextOf (.ref j)) Q E s:=by
 cases tp
 .exact wpAny_nextOf_list_end hh g t hx q
 .exact vA hh g t hx q
@[reducible]def a6 (h:Heap) (z TI TO:Addr) (f0 f1:Value):Prop:=h.get? z=some { cls:=.type "zip",dict:=none,data:=.fields #[f0,f1,.bool false,.ref TI,.ref TO],slots:=#[] }
variable {z TI TO i1 i2 l1 l2:Addr}{k1 k2:Nat}{tp1 tp2:Bool}{xs ys:Array Value}{x y a b f1:Value}
def oq (D:ZipApart z TI TO i1 i2 l1 l2)(hz:a6 s.heap z TI TO .none f1)(hI:IsPair s.heap TI (.ref i1) (.ref i2))(hO:IsPair s.heap TO a b)
  (g1:aJ tp1 s.heap i1 l1 k1) (g2:aJ tp2 s.heap i2 l2 k2) (t1:aZ tp1 s.heap l1 xs) (t2:aZ tp2 s.heap l2 ys) (hx:xs[k1]? =some x) (hy:ys[k2]? =some y)
  (q:∀ h',a6 h' z TI TO (rawInt s.heap.objs.size) (.bool false)->IsPair h' TO x y->aJ tp1 h' i1 l1 (k1+1)->aJ tp2 h' i2 l2 (k2+1)->IsPair h' s.heap.objs.size x y->h'.objs.size=s.heap.objs.size+1->
   (∀ c o,c≠z->c≠TO->c≠i1->c≠i2->s.heap.get? c=some o->h'.get? c=some o)->Q (some (.ref s.heap.objs.size)) { s with heap:=h' }):wpAny (model prog w) A (pyNext (.ref z)) Q E s:=by
 have hZ:s.TypeIs (.ref z) "zip":=⟨_,hz,rfl⟩;unfold pyNext;refine ad (wpAny_attempt (wpAny_callSpecial?_slot (name:=Str.ofString "__next__") hZ F.slot_zip_next (wpAny_call_entry F.slot_zip_next hZ F.entry_zip_next ?_ (F.args_zip_next_1 _))));show wpAny _ _ (field (.ref z) 2 >>= _) _ _ _;refine ad (ap (x:=.bool false) hz rfl rfl ?_);show wpAny _ _ (field (.ref z) 3 >>= _) _ _ _;refine ad (ap (x:=.ref TI) hz rfl rfl ?_);refine ad (wpAny_seqItems hI rfl ?_);show wpAny _ _ (Builtin.SmallTypes.ownedTupleIsFree (.ref z) >>= _) _ _ _;refine ad ?_;unfold Builtin.SmallTypes.ownedTupleIsFree;refine ad (ap (x:=.none) hz rfl rfl (am ?_));simp only[if_true];refine ad (wpAny_rule ?_);refine ad (ap (x:=.ref TO) hz rfl rfl ?_);refine ad (wpAny_setField_rec hz (by simp) λp1 z1 b1=>?_)
 replace z1:a6 p1 z TI TO .ellipsis f1:=z1
 refine ad ?_;simp only[List.zipIdx_cons,List.zipIdx_nil,forIn_cons,forIn_nil];refine ad (ad (wpAny_onRaise ?_));show wpAny _ _ (Builtin.SmallTypes.nextOf (.ref i1) >>= _) _ _ _;refine ad (de (g1.to λo e=>b1.extBut _ o D.i1z e) (t1.to λo e=>b1.extBut _ o D.l1z e) hx λp2 g1b b2=>am ?_);have hO2:IsPair p2 TO a b:=b2.extBut _ _ D.TOi1 (b1.extBut _ _ D.TOz hO);refine ad (wpAny_seqItems hO2 rfl ?_);refine ad (wpAny_updateSeq_pair hO2 λp3 hO3 b3=>?_)
 replace hO3:IsPair p3 TO x b:=hO3
 refine ad (wpAny_letGo (am ?_));refine ad (ad (wpAny_onRaise ?_));show wpAny _ _ (Builtin.SmallTypes.nextOf (.ref i2) >>= _) _ _ _;refine ad (de (g2.to λo e=>b3.extBut _ o D.TOi2.symm (b2.extBut _ o D.i12.symm (b1.extBut _ o D.i2z e))) (t2.to λo e=>b3.extBut _ o D.l2TO (b2.extBut _ o D.l2i1 (b1.extBut _ o D.l2z e))) hy λp4 g2b b4=>am ?_);have hO4:IsPair p4 TO x b:=b4.extBut _ _ D.TOi2 hO3;refine ad (wpAny_seqItems hO4 rfl ?_);refine ad (wpAny_updateSeq_pair hO4 λp5 hO5 b5=>?_)
 replace hO5:IsPair p5 TO x y:=hO5
 refine ad (wpAny_letGo (am (am ?_)));refine ad (wpAny_seqItems hO5 rfl ?_);refine ad (wpAny_newTuple ?_);have hsz:p5.objs.size=s.heap.objs.size:=by rw[b5.1,b4.1,b3.1,b2.1,b1.1]
 have z5:a6 p5 z TI TO .ellipsis f1:=b5.extBut _ _ D.TOz.symm (b4.extBut _ _ D.i2z.symm (b3.extBut _ _ D.TOz.symm (b2.extBut _ _ D.i1z.symm z1)));have k5:∀ c o,c≠z->c≠TO->c≠i1->c≠i2->s.heap.get? c=some o->p5.get? c=some o:=λc o n1 n2 n3 n4 e=>b5.extBut _ _ n2 (b4.extBut _ _ n4 (b3.extBut _ _ n2 (b2.extBut _ _ n3 (b1.extBut _ _ n1 e))))
 have g15:aJ tp1 p5 i1 l1 (k1+1):=g1b.to λo e=>b5.extBut _ o D.TOi1.symm (b4.extBut _ o D.i12 (b3.extBut _ o D.TOi1.symm e))
 have g25:aJ tp2 p5 i2 l2 (k2+1):=g2b.to λo e=>b5.extBut _ o D.TOi2.symm e
 have zlt:z<p5.objs.size:=ss z5;show wpAny _ _ (Builtin.SmallTypes.ownedTupleHandOut (.ref z) (.ref p5.objs.size) >>= _) _ _ _;refine ad ?_;unfold Builtin.SmallTypes.ownedTupleHandOut;have z6:a6 (p5.push { cls:=.type "tuple",data:=.seq #[x,y] }) z TI TO .ellipsis f1:=sn _ z5;refine ad (wpAny_setField_rec z6 (by simp) λp7 z7 b7=>?_)
 replace z7:a6 p7 z TI TO (rawInt p5.objs.size) f1:=z7
 refine wpAny_setField_rec z7 (by simp) λp8 z8 b8=>?_
 replace z8:a6 p8 z TI TO (rawInt p5.objs.size) (.bool false):=z8
 have up:∀ c o,c≠z->p5.get? c=some o->p8.get? c=some o:=λc o n1 e=>b8.extBut _ _ n1 (b7.extBut _ _ n1 (sn _ e))
 have hT:IsPair p8 p5.objs.size x y:=b8.extBut _ _ (Nat.ne_of_gt zlt) (b7.extBut _ _ (Nat.ne_of_gt zlt) (sw _ rfl));have h8:p8.objs.size=p5.objs.size+1:=by rw[b8.1,b7.1,Heap.size_push]
 rw[hsz]at z8 hT h8;refine am ⟨_,rfl,?_⟩;rw[hsz];exact am (q p8 z8 (up _ _ D.TOz hO5) (g15.to λo e=>up _ o D.i1z e) (g25.to λo e=>up _ o D.i2z e) hT h8 λc o n1 n2 n3 n4 e=>up c o n1 (k5 c o n1 n2 n3 n4 e))
def zS {Q:Fin->Shared->Prop}(hh:A.handled=none)(D:ZipApart z TI TO i1 i2 l1 l2)(hz:a6 s.heap z TI TO .none f1)(hI:IsPair s.heap TI (.ref i1) (.ref i2))(hO:IsPair s.heap TO a b)
  (g1:aJ tp1 s.heap i1 l1 k1) (g2:aJ tp2 s.heap i2 l2 k2) (t1:aZ tp1 s.heap l1 xs) (t2:aZ tp2 s.heap l2 ys) (hx:xs[k1]? =none\/ys[k2]? =none)
  (q:∀ h' e,(∀ c o,c≠z->c≠TO->c≠i1->c≠i2->s.heap.get? c=some o->h'.get? c=some o)->(∃ o,h'.get? e=some o/\o.cls=.type "StopIteration")->E (.ref e) { s with heap:=h' }):
  wpAny (model prog w) A (Builtin.«zip.__next__» ⟨[.ref z],[]⟩) Q E s:=by
 show wpAny _ _ (field (.ref z) 2 >>= _) _ _ _;refine ad (ap (x:=.bool false) hz rfl rfl ?_);show wpAny _ _ (field (.ref z) 3 >>= _) _ _ _;refine ad (ap (x:=.ref TI) hz rfl rfl ?_);refine ad (wpAny_seqItems hI rfl ?_);show wpAny _ _ (Builtin.SmallTypes.ownedTupleIsFree (.ref z) >>= _) _ _ _;refine ad ?_;unfold Builtin.SmallTypes.ownedTupleIsFree;refine ad (ap (x:=.none) hz rfl rfl (am ?_));simp only[if_true];refine ad (wpAny_rule ?_);refine ad (ap (x:=.ref TO) hz rfl rfl ?_);refine ad (wpAny_setField_rec hz (by simp) λp1 z1 b1=>?_)
 replace z1:a6 p1 z TI TO .ellipsis f1:=z1
 refine ad ?_;simp only[List.zipIdx_cons,List.zipIdx_nil,forIn_cons,forIn_nil];refine ad (ad (wpAny_onRaise ?_));show wpAny _ _ (Builtin.SmallTypes.nextOf (.ref i1) >>= _) _ _ _;cases e1:xs[k1]? with
 |none=>
  refine ad (i9 hh (g1.to λo e=>b1.extBut _ o D.i1z e) (t1.to λo e=>b1.extBut _ o D.l1z e) e1 λp2 e b2 he=>?_);obtain⟨oe,ho,hc⟩:=he;have z2:a6 p2 z TI TO .ellipsis f1:=b2 _ _ D.i1z.symm z1;have ne:e≠z:=λn=>by subst n;rw[z2]at ho;cases ho;simp at hc
  exact wpAny_setField_rec z2 (by simp) λp3 _ b3=>q p3 e (λc o n1 _ n3 _ v=>b3.extBut _ _ n1 (b2 _ _ n3 (b1.extBut _ _ n1 v))) ⟨oe,b3.extBut _ _ ne ho,hc⟩
 |some x=>
  have e2:ys[k2]? =none:=by rcases hx with h|h;(rw[e1]at h;cases h);exact h
  refine ad (de (g1.to λo e=>b1.extBut _ o D.i1z e) (t1.to λo e=>b1.extBut _ o D.l1z e) e1 λp2 g1b b2=>am ?_);have hO2:IsPair p2 TO a b:=b2.extBut _ _ D.TOi1 (b1.extBut _ _ D.TOz hO);refine ad (wpAny_seqItems hO2 rfl ?_);refine ad (wpAny_updateSeq_pair hO2 λp3 hO3 b3=>?_);refine ad (wpAny_letGo (am ?_));refine ad (ad (wpAny_onRaise ?_));show wpAny _ _ (Builtin.SmallTypes.nextOf (.ref i2) >>= _) _ _ _;refine ad (i9 hh (g2.to λo e=>b3.extBut _ o D.TOi2.symm (b2.extBut _ o D.i12.symm (b1.extBut _ o D.i2z e))) (t2.to λo e=>b3.extBut _ o D.l2TO (b2.extBut _ o D.l2i1 (b1.extBut _ o D.l2z e))) e2 λp4 e b4 he=>?_);obtain⟨oe,ho,hc⟩:=he;have z4:a6 p4 z TI TO .ellipsis f1:=b4 _ _ D.i2z.symm (b3.extBut _ _ D.TOz.symm (b2.extBut _ _ D.i1z.symm z1));have ne:e≠z:=λn=>by subst n;rw[z4]at ho;cases ho;simp at hc
  exact wpAny_setField_rec z4 (by simp) λp5 _ b5=>q p5 e (λc o n1 n2 n3 n4 v=>b5.extBut _ _ n1 (b4 _ _ n4 (b3.extBut _ _ n2 (b2.extBut _ _ n3 (b1.extBut _ _ n1 v))))) ⟨oe,b5.extBut _ _ ne ho,hc⟩
def jX {Q:Option Obj->Shared->Prop}(h:Q (s.heap.get? c) s):wpAny (model prog w) A (loadIfAlive c) Q E s:=λ_ _ _=>h
def jY {Q:Bool->Shared->Prop}(hz:a6 s.heap z TI TO (.int T t) (.bool fb))(hT:s.heap.get? T.toNat=some oT)(q:∀ h',a6 h' z TI TO (.int T t) (.bool true)->Heap.SameBut z s.heap h'->Q false { s with heap:=h' }):
  wpAny (model prog w) A (Builtin.SmallTypes.ownedTupleIsFree (.ref z)) Q E s:=by
 unfold Builtin.SmallTypes.ownedTupleIsFree;refine ad (ap (x:=.int T t) hz rfl rfl ?_);refine ad (jX ?_);rw[hT];refine ad (ap (x:=.bool fb) hz rfl rfl ?_);cases fb
 .refine ad (wpAny_setField_rec hz (by simp) λp1 z1 b1=>am ?_);exact q p1 z1 b1
 .exact ad (am (am (q s.heap hz (Heap.SameBut.refl ..))))
def xg (D:ZipApart z TI TO i1 i2 l1 l2)(hz:a6 s.heap z TI TO (.int T t) (.bool fb))(hT:s.heap.get? T.toNat=some oT)(hI:IsPair s.heap TI (.ref i1) (.ref i2))
  (g1:aJ tp1 s.heap i1 l1 k1) (g2:aJ tp2 s.heap i2 l2 k2) (t1:aZ tp1 s.heap l1 xs) (t2:aZ tp2 s.heap l2 ys) (hx:xs[k1]? =some x) (hy:ys[k2]? =some y)
  (q:∀ h',a6 h' z TI TO (.int T t) (.bool true)->aJ tp1 h' i1 l1 (k1+1)->aJ tp2 h' i2 l2 (k2+1)->IsPair h' s.heap.objs.size x y->h'.objs.size=s.heap.objs.size+1->
   (∀ c o,c≠z->c≠i1->c≠i2->s.heap.get? c=some o->h'.get? c=some o)->Q (some (.ref s.heap.objs.size)) { s with heap:=h' }):wpAny (model prog w) A (pyNext (.ref z)) Q E s:=by
 have hZ:s.TypeIs (.ref z) "zip":=⟨_,hz,rfl⟩;unfold pyNext;refine ad (wpAny_attempt (wpAny_callSpecial?_slot (name:=Str.ofString "__next__") hZ F.slot_zip_next (wpAny_call_entry F.slot_zip_next hZ F.entry_zip_next ?_ (F.args_zip_next_1 _))));show wpAny _ _ (field (.ref z) 2 >>= _) _ _ _;refine ad (ap (x:=.bool false) hz rfl rfl ?_);show wpAny _ _ (field (.ref z) 3 >>= _) _ _ _;refine ad (ap (x:=.ref TI) hz rfl rfl ?_);refine ad (wpAny_seqItems hI rfl ?_);show wpAny _ _ (Builtin.SmallTypes.ownedTupleIsFree (.ref z) >>= _) _ _ _;refine ad (jY hz hT λp1 z1 b1=>?_);simp only[Bool.false_eq_true,if_false];simp only[List.forIn_toArray,forIn_cons,forIn_nil];refine ad (ad (ad (bd ?_)));show wpAny _ _ (Builtin.SmallTypes.nextOf (.ref i1) >>= _) _ _ _;refine ad (de (g1.to λo e=>b1.extBut _ o D.i1z e) (t1.to λo e=>b1.extBut _ o D.l1z e) hx λp2 g1b b2=>am (am ?_));dsimp only;refine ad (ad (bd ?_));show wpAny _ _ (Builtin.SmallTypes.nextOf (.ref i2) >>= _) _ _ _;refine ad (de (g2.to λo e=>b2.extBut _ o D.i12.symm (b1.extBut _ o D.i2z e)) (t2.to λo e=>b2.extBut _ o D.l2i1 (b1.extBut _ o D.l2z e)) hy λp3 g2b b3=>am (am (am ?_)));dsimp only;refine ad (wpAny_newTuple ?_ (hsz:=fits (nl rfl)));have hsz:p3.objs.size=s.heap.objs.size:=by rw[b3.1,b2.1,b1.1]
 refine am ⟨_,rfl,?_⟩;have z3:a6 p3 z TI TO (.int T t) (.bool true):=b3.extBut _ _ D.i2z.symm (b2.extBut _ _ D.i1z.symm z1);rw[hsz];refine am (q _ (sn _ z3) (g1b.to λo e=>sn _ (b3.extBut _ o D.i12 e)) (g2b.to λo e=>sn _ e) (by rw[<-hsz];exact sw _ rfl) (by rw[Heap.size_push,hsz]) λc o n1 n2 n3 e=>?_);exact sn _ (b3.extBut _ _ n3 (b2.extBut _ _ n2 (b1.extBut _ _ n1 e)))
def uu {Q:Fin->Shared->Prop}(hh:A.handled=none)(D:ZipApart z TI TO i1 i2 l1 l2)(hz:a6 s.heap z TI TO (.int T t) (.bool fb))(hT:s.heap.get? T.toNat=some oT)(hI:IsPair s.heap TI (.ref i1) (.ref i2))
  (g1:aJ tp1 s.heap i1 l1 k1) (g2:aJ tp2 s.heap i2 l2 k2) (t1:aZ tp1 s.heap l1 xs) (t2:aZ tp2 s.heap l2 ys) (hx:xs[k1]? =none\/ys[k2]? =none)
  (q:∀ h' e,(∀ c o,c≠z->c≠i1->c≠i2->s.heap.get? c=some o->h'.get? c=some o)->(∃ o,h'.get? e=some o/\o.cls=.type "StopIteration")->E (.ref e) { s with heap:=h' }):
  wpAny (model prog w) A (Builtin.«zip.__next__» ⟨[.ref z],[]⟩) Q E s:=by
 show wpAny _ _ (field (.ref z) 2 >>= _) _ _ _;refine ad (ap (x:=.bool false) hz rfl rfl ?_);show wpAny _ _ (field (.ref z) 3 >>= _) _ _ _;refine ad (ap (x:=.ref TI) hz rfl rfl ?_);refine ad (wpAny_seqItems hI rfl ?_);show wpAny _ _ (Builtin.SmallTypes.ownedTupleIsFree (.ref z) >>= _) _ _ _;refine ad (jY hz hT λp1 z1 b1=>?_);simp only[Bool.false_eq_true,if_false];simp only[List.forIn_toArray,forIn_cons,forIn_nil];refine ad (ad (ad (bd ?_)));show wpAny _ _ (Builtin.SmallTypes.nextOf (.ref i1) >>= _) _ _ _;cases e1:xs[k1]? with
 |none=>exact ad (i9 hh (g1.to λo e=>b1.extBut _ o D.i1z e) (t1.to λo e=>b1.extBut _ o D.l1z e) e1 λp2 e b2 he=>q p2 e (λc o n1 n2 n3 v=>b2 _ _ n2 (b1.extBut _ _ n1 v)) he)
 |some x=>
  have e2:ys[k2]? =none:=by rcases hx with h|h;(rw[e1]at h;cases h);exact h
  refine ad (de (g1.to λo e=>b1.extBut _ o D.i1z e) (t1.to λo e=>b1.extBut _ o D.l1z e) e1 λp2 g1b b2=>am (am ?_));dsimp only;refine ad (ad (bd ?_));show wpAny _ _ (Builtin.SmallTypes.nextOf (.ref i2) >>= _) _ _ _;exact ad (i9 hh (g2.to λo e=>b2.extBut _ o D.i12.symm (b1.extBut _ o D.i2z e)) (t2.to λo e=>b2.extBut _ o D.l2i1 (b1.extBut _ o D.l2z e)) e2 λp4 e b4 he=>q p4 e (λc o n1 n2 n3 v=>b4 _ _ n3 (b2.extBut _ _ n2 (b1.extBut _ _ n1 v))) he)
def sV (hh:A.handled=none)(D:ZipApart z TI TO i1 i2 l1 l2)(hz:a6 s.heap z TI TO .none f1)(hI:IsPair s.heap TI (.ref i1) (.ref i2))(hO:IsPair s.heap TO a b)
  (g1:aJ tp1 s.heap i1 l1 k1) (g2:aJ tp2 s.heap i2 l2 k2) (t1:aZ tp1 s.heap l1 xs) (t2:aZ tp2 s.heap l2 ys) (hx:xs[k1]? =none\/ys[k2]? =none)
  (q:∀ h',(∀ c o,c≠z->c≠TO->c≠i1->c≠i2->s.heap.get? c=some o->h'.get? c=some o)->Q none { s with heap:=h' }):wpAny (model prog w) A (pyNext (.ref z)) Q E s:=by
 have hT:s.TypeIs (.ref z) "zip":=⟨_,hz,rfl⟩;unfold pyNext;refine ad (wpAny_attempt (wpAny_callSpecial?_slot (name:=Str.ofString "__next__") hT F.slot_zip_next (wpAny_call_entry F.slot_zip_next hT F.entry_zip_next (zS hh D hz hI hO g1 g2 t1 t2 hx λh' e k ⟨o,ho,hc⟩=>?_) (F.args_zip_next_1 _))));exact ad (wpAny_isInstance (T:="StopIteration") (b:=true) ⟨o,ho,hc⟩ isSubtype_stop (am (q _ k)))
def rY (hh:A.handled=none)(D:ZipApart z TI TO i1 i2 l1 l2)(hz:a6 s.heap z TI TO (.int T t) (.bool fb))(hT:s.heap.get? T.toNat=some oT)(hI:IsPair s.heap TI (.ref i1) (.ref i2))
  (g1:aJ tp1 s.heap i1 l1 k1) (g2:aJ tp2 s.heap i2 l2 k2) (t1:aZ tp1 s.heap l1 xs) (t2:aZ tp2 s.heap l2 ys) (hx:xs[k1]? =none\/ys[k2]? =none)
  (q:∀ h',(∀ c o,c≠z->c≠i1->c≠i2->s.heap.get? c=some o->h'.get? c=some o)->Q none { s with heap:=h' }):wpAny (model prog w) A (pyNext (.ref z)) Q E s:=by
 have hT':s.TypeIs (.ref z) "zip":=⟨_,hz,rfl⟩;unfold pyNext;refine ad (wpAny_attempt (wpAny_callSpecial?_slot (name:=Str.ofString "__next__") hT' F.slot_zip_next (wpAny_call_entry F.slot_zip_next hT' F.entry_zip_next (uu hh D hz hT hI g1 g2 t1 t2 hx λh' e k ⟨o,ho,hc⟩=>?_) (F.args_zip_next_1 _))));exact ad (wpAny_isInstance (T:="StopIteration") (b:=true) ⟨o,ho,hc⟩ isSubtype_stop (am (q _ k)))
abbrev qO (tp:Bool)(c:Addr):Obj:=match tp with
 |true=>{ cls:=.type "tuple_iterator",data:=.fields #[.ref c,.int 0 0] }
 |false=>{ cls:=.type "list_iterator",data:=.fields #[.ref c,.int 0 0] }
def kx {vs:Array Value}{Q:EL}(t:aZ tp s.heap c vs)(q:Q (.ref s.heap.objs.size) { s with heap:=s.heap.push (qO tp c) }):wpAny (model prog w) A (pyIter (.ref c)) Q E s:=by
 cases tp
 .exact wpAny_pyIter_list t q
 .exact wpAny_pyIter_tuple t q
@[reducible]def AL (a:Array Value):Obj:={ cls:=.type "tuple",data:=.seq a }
@[reducible]def Av (m n:Addr):Obj:={ cls:=.type "zip",data:=.fields #[.none,.bool false,.bool false,.ref m,.ref n] }
def Bc {l:Addr}:(qO tp l).isFreed=false:=by cases tp<;>rfl
def B7 {n:Nat}(o:Obj)(hn:h.objs.size=n)(ho:o.isFreed=false:=by first|rfl|exact Bc):∃ h',h.push o=h'/\h'.get? n=some o/\h'.objs.size=n+1/\∀ c o',h.get? c=some o'->h'.get? c=some o':=
 ⟨_,rfl,hn▸sw _ ho,by rw[Heap.size_push,hn],λ_ _ e=>sn _ e⟩
def Ee {i l:Addr}(e:h.get? i=some (qO tp l)):aJ tp h i l 0:=by
 cases tp
 .exact⟨_,e,rfl,rfl⟩
 .exact⟨_,e,rfl,rfl⟩
noncomputable abbrev xp (h:Heap)(tp1 tp2:Bool)(l1 l2:Addr):Heap:=((((h.push (qO tp1 l1)).push (qO tp2 l2)).push (AL #[.ref h.objs.size,.ref (h.objs.size+1)])).push (AL #[.none,.none])).push (Av (h.objs.size+2) (h.objs.size+3))
def vh (tp1 tp2:Bool)(l1 l2:Addr)(xs ys:Array Value):Meets (Builtin.«zip.__new__» ⟨[.type "zip",.ref l1,.ref l2],[]⟩)
  (λ_ R s=>aZ tp1 s.heap l1 xs/\aZ tp2 s.heap l2 ys/\R (.ok (.ret (.ref (s.heap.objs.size+4)))) { s with heap:=xp s.heap tp1 tp2 l1 l2 }):=.of_wp λprog w A R s h=>by
 obtain⟨hp,g,d,tk,os⟩:=s;obtain⟨t1,t2,q⟩:=h;have hsub:=sub_zip;have t2':aZ tp2 (hp.push (qO tp1 l1)) l2 ys:=t2.to λo e=>sn _ e
 wp_walk using kx (s:=⟨hp,g,d,tk,os⟩) t1,kx (s:=⟨hp.push (qO tp1 l1),g,d,tk,os⟩) t2'
 refine⟨_,rfl,?_⟩;simp only[Heap.size_push,Nat.add_assoc]at q⊢;exact q
def kB {Q:EL}(t1:aZ tp1 s.heap l1 xs)(t2:aZ tp2 s.heap l2 ys)
  (q:∀ h',a6 h' (s.heap.objs.size+4) (s.heap.objs.size+2) (s.heap.objs.size+3) .none (.bool false)->IsPair h' (s.heap.objs.size+2) (.ref s.heap.objs.size) (.ref (s.heap.objs.size+1))->
   IsPair h' (s.heap.objs.size+3) .none .none->aJ tp1 h' s.heap.objs.size l1 0->aJ tp2 h' (s.heap.objs.size+1) l2 0->h'.objs.size=s.heap.objs.size+5->
   (∀ c o,s.heap.get? c=some o->h'.get? c=some o)->Q (.ref (s.heap.objs.size+4)) { s with heap:=h' }):
  wpAny (model prog w) A (call (.type "zip") [.ref l1,.ref l2]) Q E s:=by
 refine callType_new F.called_zip (by decide) (F.typeCall_zip_2 _ _) (F.newCall_zip_2 _ _) (λobj=>F.args_object_init_3 obj _ _) F.entry_zip_new (vh tp1 tp2 l1 l2 xs ys) ⟨t1,t2,?_⟩;generalize hn:s.heap.objs.size=n at q⊢;have hz:xp s.heap tp1 tp2 l1 l2=((((s.heap.push (qO tp1 l1)).push (qO tp2 l2)).push (AL #[.ref n,.ref (n+1)])).push (AL #[.none,.none])).push (Av (n+2) (n+3)):=by rw[<-hn]
 obtain⟨_,a1,e0,z0,k0⟩:=B7 (qO tp1 l1) hn;obtain⟨_,a2,e1,z1,k1⟩:=B7 (qO tp2 l2) z0;obtain⟨_,a3,e2,z2,k2⟩:=B7 (AL #[.ref n,.ref (n+1)]) z1;obtain⟨_,a4,e3,z3,k3⟩:=B7 (AL #[.none,.none]) z2;obtain⟨_,a5,e4,z4,k4⟩:=B7 (Av (n+2) (n+3)) z3;rw[hz,a1,a2,a3,a4,a5];exact⟨⟨_,e4,rfl⟩,q _ e4 (k4 _ _ (k3 _ _ e2)) (k4 _ _ e3) ((Ee e0).to λo e=>k4 _ _ (k3 _ _ (k2 _ _ (k1 _ _ e)))) ((Ee e1).to λo e=>k4 _ _ (k3 _ _ (k2 _ _ e))) z4 λc o e=>k4 _ _ (k3 _ _ (k2 _ _ (k1 _ _ (k0 _ _ e))))⟩
def rF {n:Addr}(a1:l1<n)(a2:l2<n):ZipApart (n+4) (n+2) (n+3) n (n+1) l1 l2:=by
 constructor<;>(intro e;have e':=(show @Eq Nat _ _ from e);have b1:=(show @LT.lt Nat _ l1 n from a1);have b2:=(show @LT.lt Nat _ l2 n from a2);omega)
def pA {m:Nat}{T:Addr}{Q:EK}(hz:a6 s.heap z TI TO (rawInt T) f1)(q:∀ h',a6 h' z TI TO .none f1->Heap.SameBut z s.heap h'->Q () { s with heap:=h' }):
  wpAny (model prog w) A (letOwnedTupleGo (.Tuple elts m pos) (.ref z) (.ref T)) Q E s:=by
 unfold letOwnedTupleGo;refine ad (wpAny_load hz ?_);show wpAny _ _ (if(["enumerate","zip","dict_itemiterator","dict_reverseitemiterator","odict_iterator","itertools.zip_longest","itertools.pairwise"].contains "zip"&&(#[rawInt T,f1,.bool false,.ref TI,.ref TO]:Array Value)[0]? ==some (rawInt T))=true then _ else _) Q E s;rw[if_pos (by simp)];exact ad (wpAny_rule (wpAny_setField_rec hz (by simp) λh' z' b'=>q h' z' b'))
def gy {f0:Value}{Q:EL}(hz:a6 s.heap z TI TO f0 f1)(h:Q (.ref z) s):wpAny (model prog w) A (pyIter (.ref z)) Q E s:=by
 have hT:s.TypeIs (.ref z) "zip":=⟨_,hz,rfl⟩;refine wpAny_pyIter_slot hT F.slot_zip_iter (wpAny_call_entry F.slot_zip_iter hT F.entry_zip_iter ?_ (F.args_zip_iter_1 _));show wpAny _ _ (ret (.ref z)) _ _ s;exact am ⟨_,rfl,"zip",_,hT,F.slot_zip_next.lookup,h⟩
end
variable {X:Cx}{Y:EM}{U:St}{H:Hp}{s:Shared}
def Inv.we {h':Heap}{t':Nat}{ch:List Addr}(I:Inv X Y U H s)(k:∀ b u,b ∉ ch->s.heap.get? b=some u->h'.get? b=some u) (hf:∀ b ∈ ch,fH X Y H b):Inv X Y U H { s with heap:=h',toks:=t' }:=by
 have nch:∀ b u,H b=some u->b ∉ ch:=λb u e z=>by rw[(hf b z).1]at e;cases e
 refine I.step (g':=s.gens) (d':=s.drawn) (ch:=ch) (λb hb=>?_) (λb o _ _ hc e _=>k b o hc e) (λb o _ _ hc e _=>⟨o.slots,k b o hc e⟩) (λ_ _ _ _ n=>n)
  (λb o hc e=>⟨o,k b o hc e⟩) (λ_ _ e=>e) (λ_ _ _ e=>e) (λb ps e=>⟨#[],by rw[e];simp⟩) (λm hm=>?_) (λb u e=>?_) I.bare
 .obtain⟨_,f1,_,f3,f4,f5⟩:=hf b hb;exact⟨f3,f1,f4,f5⟩
 .obtain⟨o,es,ep,ho,r⟩:=hm;exact⟨o,es,ep,k _ o (λz=>(hf _ z).2.1 rfl) ho,r⟩
 .refine(I.hok b u e).dr (λc v hc q=>k c v ?_ q) (λ_ q=>q) λ_ _ q=>q
  rcases hc with rfl|hc
  .exact nch _ _ e
  .exact nch _ _ hc
abbrev Sq (K:W.Frag)(tp:Bool)(H:Hp)(c:Addr)(xs:List V):Prop:=match tp with
 |true=>bp K H c xs
 |false=>aK K H c xs
def Inv.sq {xs:List V}(I:Inv X Y U H s)(h:Sq X.K tp H c xs):∃ its:List Value,Vals xs its/\aZ tp s.heap c its.toArray:=by
 cases tp
 .obtain⟨its,r,p,_⟩:=I.list h;exact⟨its,r,p.isList⟩
 .obtain⟨its,r,p,_⟩:=I.tuple h;exact⟨its,r,p⟩
def Inv.sh {xs ys:List V}(I:Inv X Y U H s)(h:Sq X.K tp H c xs)(h':Sq X.K tp H c ys):xs=ys:=by
 cases tp
 .exact I.gR h h'
 .exact I.fK h h'
abbrev CP (K:W.Frag)(tp1:Bool)(l1:Addr)(tp2:Bool)(l2:Addr):It:=
 ⟨λi H=>∃ xs ys x y,Sq K tp1 H l1 xs/\Sq K tp2 H l2 ys/\xs[i]? =some x/\ys[i]? =some y,
  λi H v H'=>∃ T x y,H T=none/\v=.ref T/\H'=upd H T (.tup [x,y])/\(∀ xs,Sq K tp1 H l1 xs->xs[i]? =some x)/\∀ ys,Sq K tp2 H l2 ys->ys[i]? =some y,
  λi H=>∃ xs ys,Sq K tp1 H l1 xs/\Sq K tp2 H l2 ys/\(xs.length<=i\/ys.length<=i)⟩
def tK {P:Program}{w:World}{K:W.Frag}{tp1 tp2:Bool}{z TI TO i1 i2 l1 l2:Addr}(D:ZipApart z TI TO i1 i2 l1 l2):
  Turn P w K (.Tuple elts k pos) (CP K tp1 l1 tp2 l2) [z,TI,TO,i1,i2] z (λi h=>(∃ f1,a6 h z TI TO .none f1)/\IsPair h TI (.ref i1) (.ref i2)/\(∃ a b,IsPair h TO a b)/\aJ tp1 h i1 l1 i/\aJ tp2 h i2 l2 i) where
 mem:=by simp
 obj:=λi h st b hb=>by
  obtain⟨⟨f1,hz⟩,hI,⟨a,b',hO⟩,g1,g2⟩:=st;have it:∀ {tp:Bool}{j c:Addr}{k:Nat},aJ tp h j c k->∃ o,h.get? j=some o/\∀ v,o.data≠.cell v:=λ{tp j c k} g=>by
   cases tp
   .obtain⟨o,e,_,d⟩:=(show h.IsListIter j c k from g);exact⟨o,e,λv z=>by rw[d]at z;cases z⟩
   .obtain⟨o,e,_,d⟩:=(show h.IsTupleIter j c k from g);exact⟨o,e,λv z=>by rw[d]at z;cases z⟩
  simp only[li,not_mem_nil,or_false]at hb;rcases hb with rfl|rfl|rfl|rfl|rfl
  .exact⟨_,hz,λv e=>by cases(show Data.fields _=Data.cell v from e)⟩
  .exact⟨_,hI,λv e=>by cases(show Data.seq _ _=Data.cell v from e)⟩
  .exact⟨_,hO,λv e=>by cases(show Data.seq _ _=Data.cell v from e)⟩
  .exact it g1
  .exact it g2
 keep:=λi h h' st k=>by
  obtain⟨⟨f1,hz⟩,hI,⟨a,b',hO⟩,g1,g2⟩:=st;exact⟨⟨f1,k z (by simp) _ hz⟩,k TI (by simp) _ hI,⟨a,b',k TO (by simp) _ hO⟩,g1.to λo e=>k i1 (by simp) o e,g2.to λo e=>k i2 (by simp) o e⟩
 item:=by
  intro X hP hw hK hc i Y s U H E I hf st hg;subst hP hw hK;obtain⟨xs,ys,x,y,hq1,hq2,hx,hy⟩:=hg;obtain⟨⟨f1,hz⟩,hI,⟨a,b,hO⟩,g1,g2⟩:=st;obtain⟨is1,r1,t1⟩:=I.sq hq1;obtain⟨is2,r2,t2⟩:=I.sq hq2;obtain⟨u,hu,ru⟩:=r1.get hx;obtain⟨v,hv,rv⟩:=r2.get hy;have n0:∀ {c o},s.heap.get? c=some o->c≠s.heap.objs.size:=λe=>nw (ss e)
  refine oq D hz hI hO g1 g2 t1 t2 (x:=u) (y:=v) (by simpa using hu) (by simpa using hv) λh1 z1 o1 j1 j2 hT hs1 k1=>?_
  have I1:Inv X Y U (upd H s.heap.objs.size (.tup [x,y])) { s with heap:=h1,toks:=s.toks }:=
   I.kG (ch:=[z,TI,TO,i1,i2]) (λb o hb q=>k1 b o (λe=>hb (by simp[e])) (λe=>hb (by simp[e])) (λe=>hb (by simp[e])) (λe=>hb (by simp[e])) q) hf (pc _)
    ⟨fits (nl rfl),[u,v],.cons ru (.cons rv .nil),⟨_,hT,rfl,_,rfl⟩⟩
  refine⟨_,rfl,pA z1 λh2 z2 b2=>?_⟩;obtain⟨f0,f1',f2,f3,f4,f5⟩:=hf z (by simp);have I2:=I1.turned (h':=h2) (t':=s.toks) (it:=z) (λb o hb q=>(b2.2 b hb).trans q) (by rw[af (n0 hz)];exact f0) f1' f3 f4 f5;refine⟨.ref s.heap.objs.size,_,I2,rfl,⟨_,x,y,I.hok.fresh (pc _),rfl,rfl,λzs hz'=>?_,λzs hz'=>?_⟩,⟨⟨_,z2⟩,?_,⟨_,_,b2.extBut _ _ D.TOz o1⟩,j1.to λo e=>b2.extBut _ o D.i1z e,j2.to λo e=>b2.extBut _ o D.i2z e⟩,λb hb=>?_⟩
  .rw[I.sh hz' hq1];exact hx
  .rw[I.sh hz' hq2];exact hy
  .exact b2.extBut _ _ D.TIz (k1 _ _ D.TIz D.TITO D.TIi1 D.TIi2 hI)
  .have hb':b≠s.heap.objs.size:=by
    simp only[li,not_mem_nil,or_false]at hb;rcases hb with rfl|rfl|rfl|rfl|rfl
    .exact n0 hz
    .exact n0 hI
    .exact n0 hO
    .exact nw g1.lt
    .exact nw g2.lt
   rw[af hb'];exact(hf b hb).1
 done:=by
  intro X hP hw hK hc i Y s U H E I hf st hg;subst hP hw hK;obtain⟨xs,ys,hq1,hq2,hx⟩:=hg;obtain⟨⟨f1,hz⟩,hI,⟨a,b,hO⟩,g1,g2⟩:=st;obtain⟨is1,r1,t1⟩:=I.sq hq1;obtain⟨is2,r2,t2⟩:=I.sq hq2;have e1:=r1.length;have e2:=r2.length;refine sV (I.ok.hd hc) D hz hI hO g1 g2 t1 t2 (by simp;omega) λh' k'=>⟨rfl,?_⟩
  exact I.we (t':=s.toks) (ch:=[z,TI,TO,i1,i2]) (λb o hb q=>k' b o (λe=>hb (by simp[e])) (λe=>hb (by simp[e])) (λe=>hb (by simp[e])) (λe=>hb (by simp[e])) q) hf
 self:=λ_ _ _ _ _ st h=>by
  obtain⟨⟨f1,hz⟩,_⟩:=st;exact gy hz h
def sG:bootBuiltins "zip"=some (.type "zip"):=by decide+kernel
abbrev Ce (K:W.Frag)(v u:V)(H:Hp)(R:It->Hp->Prop):Prop:=∃ tp1 l1 tp2 l2,v=.ref l1/\u=.ref l2/\(∃ xs,Sq K tp1 H l1 xs)/\(∃ ys,Sq K tp2 H l2 ys)/\R (CP K tp1 l1 tp2 l2) H
abbrev Dy (K:W.Frag)(ta:TA):TI:=λU H R=>ta U H λvs H1=>∃ v u,vs=[v,u]/\Ce K v u H1 R
def yJ {a b:Expr}{ta:TA}{p pos':Pos}(hg:Gl X "zip") (hm:X.mg "zip"=none) (ha:PA X [a,b] ta) (hs:bm [a,b] X.env=(false,eval a X.env)::bm [b] X.env:=by rfl) (hpl:(backTo pos (bm [b] X.env)).any (·.1)=false:=by rfl):
  PI X (.Tuple elts k pos') (.Call (.Name "zip" p) [a,b] [] pos) (Dy X.K ta):=by
 intro Y s U H R I h;refine Call_ (cP I hg hm sG (PyProof.Rows.callWith_type1 (au (ha pos Y s U H _ I h) λus s1 ⟨vs,H1,I1,r1,q1⟩=>?_) hs hpl));obtain⟨v,u,e,tp1,l1,tp2,l2,e1,e2,⟨xs,q1⟩,⟨ys,q2⟩,q⟩:=q1;subst e e1 e2;cases r1 with
 |cons r rr=>
  cases rr with
  |cons r' rr'=>
   cases rr';cases r;cases r';obtain⟨is1,s1',t1⟩:=I1.sq q1;obtain⟨is2,s2',t2⟩:=I1.sq q2;refine kB t1 t2 λh' hz hI hO g1 g2 hsz hk=>?_
   refine gy hz ?_;refine⟨s1.heap.objs.size+4,[s1.heap.objs.size+4,s1.heap.objs.size+2,s1.heap.objs.size+3,s1.heap.objs.size,s1.heap.objs.size+1],_,_,H1,rfl,I1.kept (t':=s1.toks) hk,tK (rF t1.lt t2.lt),⟨⟨_,hz⟩,hI,⟨_,_,hO⟩,g1,g2⟩,λb hb=>?_,q⟩;have hb':s1.heap.objs.size<=b:=by
    simp only[li,not_mem_nil,or_false]at hb;rcases hb with rfl|rfl|rfl|rfl|rfl<;>first|exact pc _|exact Nat.le_add_right _ _
   exact I1.p9 hb' (I1.hok.fresh hb')
def jJ:entryFor table "zip.__getattribute__"=some Builtin.«object.__getattribute__»:=entryFor_alias (id':="object.__getattribute__") (by kernel_rfl) (by first|rfl|decide+kernel) (by decide+kernel) (by kernel_rfl)
def lr:typeLookup (.type "zip") "keys"=pure none:=by rw[typeLookup_type,builtinLookup_eq_fast];kernel_rfl
def qE:typeLookup (.type "zip") "__getattr__"=pure none:=by rw[typeLookup_type,builtinLookup_eq_fast];kernel_rfl
def pO (a:Addr)(vs:Array Value)(u:Tok):Meets (Builtin.«object.__getattribute__» ⟨[.ref a,.str "keys" u],[]⟩) (λA R s=>s.heap.get? a=some { cls:=.type "zip",dict:=none,data:=.fields vs,slots:=#[] }/\raisesAttr (.ref a) "keys" A R s):=
 Meets.of_wp λprog w A R s ⟨hx,hs⟩=>by
  obtain⟨hp,g,d,tk,os⟩:=s;have hT:(⟨hp,g,d,tk,os⟩:Shared).TypeIs (.ref a) "zip":=⟨_,hx,rfl⟩;have f4:=lr;unfold Builtin.«object.__getattribute__»
  repeat(any_goals first|assumption|wp_step)
  exact wpAny_raiseAttrError hs.1 hs.2 (attrMsg_fits (by decide+kernel) (by rw[sizeLine_eq];decide+kernel))
section
variable {prog:Program}{w:World}{A:Around}{E:EL}{s:Shared}{a:Addr}{vs:Array Value}
def qK (hA:A.handled=none)(hx:s.heap.get? a=some { cls:=.type "zip",dict:=none,data:=.fields vs,slots:=#[] })
  (q:∀ h' t',(∀ c u,s.heap.get? c=some u->h'.get? c=some u)->Q none { s with heap:=h',toks:=t' }):wpAny (model prog w) A (getAttr? (.ref a) "keys") Q E s:=by
 obtain⟨hp,g,d,tk,os⟩:=s;have hT:∀ t',(⟨hp,g,d,t',os⟩:Shared).TypeIs (.ref a) "zip":=λ_=>⟨_,hx,rfl⟩
 have f1:=sub_AttributeError;have f3:=PySem.F.slot_zip_getattribute.lookup;have f4:=PySem.F.slot_zip_getattribute.bind (.ref a);have f5:=qE;unfold getAttr? getAttrBy? getAttrBy
 repeat(any_goals first|assumption|((with_reducible show wpAny _ _ (call (Value.builtin "zip.__getattribute__") _ _) _ _ _);refine call_meets PySem.F.slot_zip_getattribute (hT _) jJ (PySem.F.args_zip_getattribute_2 _ _) (pO a vs _) ⟨hx,hA,λh' tk' e he=>?_⟩)|wp_step)
 obtain⟨t1,u1,e1⟩:=he.there;show wpAny _ _ (getattributeRaised _ _ _ _ _ _ _) _ _ _;unfold getattributeRaised
 repeat(any_goals first|assumption|wp_step)
 exact q _ _ he.keeps
end
structure Zs (h:Heap) (tp1 tp2:Bool) (z TI TO i1 i2 l1 l2:Addr) (i:Nat) (xs ys:Array Value):Prop where
 zo:(∃ f1,a6 h z TI TO .none f1)\/∃ (T:Int) (fb:Bool) (o:Obj),a6 h z TI TO (rawInt T) (.bool fb)/\h.get? T.toNat=some o/\T.toNat≠z/\T.toNat≠TO/\T.toNat≠i1/\T.toNat≠i2
 hI:IsPair h TI (.ref i1) (.ref i2)
 hO:∃ a b,IsPair h TO a b
 g1:aJ tp1 h i1 l1 i
 g2:aJ tp2 h i2 l2 i
 t1:aZ tp1 h l1 xs
 t2:aZ tp2 h l2 ys
variable {d:Addr}
section
variable {prog:Program}{w:World}{A:Around}{E:EL}{s:Shared}{tp1 tp2:Bool}{z TI TO i1 i2 l1 l2:Addr}{i:Nat}{xs ys:Array Value}{x y:Value}
def Zs.next (D:ZipApart z TI TO i1 i2 l1 l2)(Z:Zs s.heap tp1 tp2 z TI TO i1 i2 l1 l2 i xs ys)(hx:xs[i]? =some x)(hy:ys[i]? =some y)
  (q:∀ h',Zs h' tp1 tp2 z TI TO i1 i2 l1 l2 (i+1) xs ys->IsPair h' s.heap.objs.size x y->h'.objs.size=s.heap.objs.size+1->(∀ c o,c≠z->c≠TO->c≠i1->c≠i2->s.heap.get? c=some o->h'.get? c=some o)->Q (some (.ref s.heap.objs.size)) { s with heap:=h' }):
  wpAny (model prog w) A (pyNext (.ref z)) Q E s:=by
 obtain⟨zo,hI,⟨a,b,hO⟩,g1,g2,t1,t2⟩:=Z;have n0:∀ {c o},s.heap.get? c=some o->s.heap.objs.size≠c:=λe=>Nat.ne_of_gt (ss e)
 rcases zo with⟨f1,hz⟩|⟨T,fb,o,hz,hT,n1,n2,n3,n4⟩
 .refine oq D hz hI hO g1 g2 t1 t2 hx hy λh' z1 o1 j1 j2 p1 sz k=>?_
  refine q h' ⟨.inr ⟨s.heap.objs.size,false,_,z1,p1,n0 hz,n0 hO,Nat.ne_of_gt g1.lt,Nat.ne_of_gt g2.lt⟩,k _ _ D.TIz D.TITO D.TIi1 D.TIi2 hI,⟨_,_,o1⟩,j1,j2,t1.to λo e=>k _ o D.l1z D.l1TO D.l1i1 D.l1i2 e,t2.to λo e=>k _ o D.l2z D.l2TO D.l2i1 D.l2i2 e⟩ p1 sz k
 .refine xg D hz hT hI g1 g2 t1 t2 hx hy λh' z1 j1 j2 p1 sz k=>?_
  exact q h' ⟨.inr ⟨T,true,o,z1,k _ _ n1 n3 n4 hT,n1,n2,n3,n4⟩,k _ _ D.TIz D.TIi1 D.TIi2 hI,⟨a,b,k _ _ D.TOz D.TOi1 D.TOi2 hO⟩,j1,j2,t1.to λo e=>k _ o D.l1z D.l1i1 D.l1i2 e,t2.to λo e=>k _ o D.l2z D.l2i1 D.l2i2 e⟩ p1 sz λc o m1 _ m3 m4 e=>k c o m1 m3 m4 e
def Zs.stop (hh:A.handled=none)(D:ZipApart z TI TO i1 i2 l1 l2)(Z:Zs s.heap tp1 tp2 z TI TO i1 i2 l1 l2 i xs ys)(hx:xs[i]? =none\/ys[i]? =none)
  (q:∀ h',(∀ c o,c≠z->c≠TO->c≠i1->c≠i2->s.heap.get? c=some o->h'.get? c=some o)->Q none { s with heap:=h' }):wpAny (model prog w) A (pyNext (.ref z)) Q E s:=by
 obtain⟨zo,hI,⟨a,b,hO⟩,g1,g2,t1,t2⟩:=Z;rcases zo with⟨f1,hz⟩|⟨T,fb,o,hz,hT,_⟩
 .exact sV hh D hz hI hO g1 g2 t1 t2 hx q
 .exact rY hh D hz hT hI g1 g2 t1 t2 hx λh' k=>q h' λc o m1 _ m3 m4 e=>k c o m1 m3 m4 e
def Zs.keep {h':Heap}(Z:Zs h tp1 tp2 z TI TO i1 i2 l1 l2 i xs ys)(k:∀ c o,h.get? c=some o->c≠d->h'.get? c=some o) (n:d≠z/\d≠TI/\d≠TO/\d≠i1/\d≠i2/\d≠l1/\d≠l2) (hd:∃ o,h'.get? d=some o):Zs h' tp1 tp2 z TI TO i1 i2 l1 l2 i xs ys:=by
 obtain⟨zo,hI,⟨a,b,hO⟩,g1,g2,t1,t2⟩:=Z;obtain⟨m1,m2,m3,m4,m5,m6,m7⟩:=n;refine⟨?_,k _ _ hI m2.symm,⟨a,b,k _ _ hO m3.symm⟩,g1.to λo e=>k _ o e m4.symm,g2.to λo e=>k _ o e m5.symm,t1.to λo e=>k _ o e m6.symm,t2.to λo e=>k _ o e m7.symm⟩;rcases zo with⟨f1,hz⟩|⟨T,fb,o,hz,hT,r⟩
 .exact .inl ⟨f1,k _ _ hz m1.symm⟩
 .by_cases e:T.toNat=d
  .obtain⟨o',ho⟩:=hd;exact .inr ⟨T,fb,o',k _ _ hz m1.symm,by rw[e];exact ho,r⟩
  .exact .inr ⟨T,fb,o,k _ _ hz m1.symm,k _ _ hT e,r⟩
end
def di:plainId "dict.update.loop"=true:=by decide+kernel
def iP:entryFor table "dict.update.loop"=some Builtin.«dict.update.loop»:=entryFor_of_tree (by kernel_rfl)
variable {E:EL}
section
variable {prog:Program}{w:World}{A:Around}{tp1 tp2:Bool}{z TI TO i1 i2 l1 l2 d:Addr}{xs ys:Array Value}{Ky:Type} [DecidableEq Ky] {knd:KeyKind prog w Ky}
def tw (hh:A.handled=none)(D:ZipApart z TI TO i1 i2 l1 l2)(nd:d≠z/\d≠TI/\d≠TO/\d≠i1/\d≠i2/\d≠l1/\d≠l2)(ks:List Ky)(hk:∀ (j:Nat) x,xs[j]? =some x->∃ k,ks[j]? =some k/\knd.is k x=true) (hz:xs.size=ys.size):
  ∀ (m i:Nat),xs.size-i=m->i<=xs.size->∀ (s:Shared) (kvs:List (Ky×Value)) (R:Result->Shared->Prop),Zs s.heap tp1 tp2 z TI TO i1 i2 l1 l2 i xs ys->s.heap.DictOf knd d kvs->kvs.length+m<=bn->
  (∀ h' t',h'.DictOf knd d (merged kvs ((ks.zip ys.toList).drop i))->(∀ c o,c≠z->c≠TO->c≠i1->c≠i2->c≠d->s.heap.get? c=some o->h'.get? c=some o)->R (.ok (.ret .none)) { s with heap:=h',toks:=t' })->
  wpAny (model prog w) A.in1 (Builtin.«dict.update.loop» ⟨[.ref d,.ref z,rawInt i,.none],[]⟩) (λfin s'=>match fin with| .done f=>R (.ok f) s'| .again c'=>c'.quiet=true/\codeAny (model prog w) A c' R s') (λe s'=>R (.error e) s') s:=by
 intro m
 induction m with
 |zero=>
  intro i hm hi s kvs R Z dd hl q;show wpAny _ _ (pyNext (.ref z) >>= _) _ _ _;refine ad (Z.stop (show A.in1.handled=none from hh) D (.inl (by simp;omega)) λh' k=>?_);show wpAny _ _ (Builtin.Dict.addKeywords d [] >>= _) _ _ _;refine ad (am (am ?_));have e:(ks.zip ys.toList).drop i=[]:=by
   rw[List.drop_eq_nil_iff,List.length_zip];simp
   omega
  rw[e]at q;refine q h' s.toks ?_ λc o n1 n2 n3 n4 _ e=>k c o n1 n2 n3 n4 e
  obtain⟨o,es,ep,ho,r⟩:=dd;exact⟨o,es,ep,k _ _ nd.1 nd.2.2.1 nd.2.2.2.1 nd.2.2.2.2.1 ho,r⟩
 |succ m ih=>
  intro i hm hi s kvs R Z dd hl q;have h1:i<xs.size:=by omega
  have h2:i<ys.size:=by omega
  have e1:xs[i]? =some xs[i]:=Array.getElem?_eq_getElem h1;have e2:ys[i]? =some ys[i]:=Array.getElem?_eq_getElem h2;obtain⟨k,hk1,hk2⟩:=hk i _ e1;show wpAny _ _ (pyNext (.ref z) >>= _) _ _ _;refine ad (Z.next D e1 e2 λh' Z' p sz fr=>?_);show wpAny _ _ (holding [_] _ >>= _) _ _ _;refine ad (bd ?_);refine ad ?_;have hT:({ s with heap:=h' }:Shared).TypeIs (.ref s.heap.objs.size) "tuple":=⟨_,p,rfl⟩;refine wpAny_tryCatch ?_;unfold Builtin.Dict.pairItems;refine ad (wpAny_typeOf hT ?_);rw[if_pos (by decide)];refine ad (wpAny_seqItems p rfl (am ?_));show wpAny _ _ (holding [_,_] (dictSet d xs[i] ys[i])) _ _ _;refine bd ?_;have dd':h'.DictOf knd d kvs:=by
   obtain⟨o,es,ep,ho,r⟩:=dd;exact⟨o,es,ep,fr _ _ nd.1 nd.2.2.1 nd.2.2.2.1 nd.2.2.2.2.1 ho,r⟩
  refine wpAny_dictSet_pairs (s:={ s with heap:=h' }) (hsz:=by omega) hk2 dd' λh2' d2 b2=>?_
  show wpAny _ _ (pure (Fin.again (.builtin "dict.update.loop" ⟨[.ref d,.ref z,rawInt ((i:Int)+1),.none],[]⟩))) _ _ _;refine am ⟨plainId_quiet di _,codeAny_builtin iP ?_⟩;rw[Around.under_plainId di _,show((i:Int)+1)=((i+1:Nat):Int) by push_cast;rfl];have hd:∃ o,h2'.get? d=some o:=let⟨o,_,_,ho,_⟩:=d2;⟨o,ho⟩;refine ih (i+1) nofun nofun { s with heap:=h2',toks:=s.toks+1 } (stored kvs k ys[i]) R (Z'.keep (λc o e n=>b2.extBut _ _ n e) nd hd) d2 ?_ λh3 t3 d3 f3=>?_
  .have:(stored kvs k ys[i]).length<=kvs.length+1:=by
    unfold stored
    split
    .rw[ce];omega
    .rw[ci];simp
   omega
  .have ed:(ks.zip ys.toList).drop i=(k,ys[i])::(ks.zip ys.toList).drop (i+1):=by
    have:(ks.zip ys.toList)[i]? =some (k,ys[i]):=by
     rw[List.getElem?_zip_eq_some];exact⟨hk1,by simpa using h2⟩
    obtain⟨hlt,he⟩:=s0.mp this;rw[List.drop_eq_getElem_cons hlt,he]
   refine q h3 t3 ?_ λc o n1 n2 n3 n4 n5 e=>f3 c o n1 n2 n3 n4 n5 (b2.extBut _ _ n5 (fr c o n1 n2 n3 n4 e))
   rw[ed];exact d3
def jA {Q:EL}(hh:A.handled=none)(D:ZipApart z TI TO i1 i2 l1 l2)(ks:List Ky)(hk:∀ (j:Nat) x,xs[j]? =some x->∃ k,ks[j]? =some k/\knd.is k x=true) (hz:xs.size=ys.size) (hn:ks.Nodup) (hkl:ks.length=xs.size) (hsz:xs.size<=bn)
  (Z:Zs s.heap tp1 tp2 z TI TO i1 i2 l1 l2 0 xs ys) (hzo:∃ f1,a6 s.heap z TI TO .none f1)
  (q:∀ h' t',h'.DictOf knd s.heap.objs.size (ks.zip ys.toList)->(∀ c o,c≠z->c≠TO->c≠i1->c≠i2->s.heap.get? c=some o->h'.get? c=some o)->Q (.ref s.heap.objs.size) { s with heap:=h',toks:=t' }):
  wpAny (model prog w) A (call (.type "dict") [.ref z]) Q E s:=by
 refine callType_codes (Q₁:=λobj s1=>obj=.ref s.heap.objs.size/\s1={ s with heap:=s.heap.push { cls:=.type "dict",data:=.dict #[] } }) PySem.F.kt_called_dict (PySem.F.kt_typeCall_dict_1 _) PySem.F.entry_dict_init (kt_code_dict_new _ ⟨rfl,rfl⟩) ?_;rintro obj s1 ⟨rfl,rfl⟩;have dn:(s.heap.push { cls:=.type "dict",data:=.dict #[] }).DictOf knd s.heap.objs.size []:=Heap.DictOf.new s.heap;refine⟨dn.typeIs,PySem.F.args_dict_init_2 _ _,?_⟩;unfold Builtin.«dict.__init__»;refine ad ?_;unfold Builtin.Dict.selfAndRest;refine ad (wpAny_notOrdered_dict dn.typeIs ?_);show wpAny _ _ (pure (s.heap.objs.size,[Value.ref z])) _ _ _;refine am ?_;show wpAny _ _ (Builtin.Dict.updateFrom "dict.__init__" s.heap.objs.size (.ref z) [] .none) _ _ _;unfold Builtin.Dict.updateFrom;obtain⟨f1,hz0⟩:=hzo;have hz1:(s.heap.push { cls:=.type "dict",data:=.dict #[] }).get? z=some _:=sn _ hz0;have hT:({ s with heap:=s.heap.push { cls:=.type "dict",data:=.dict #[] } }:Shared).TypeIs (.ref z) "zip":=⟨_,hz1,rfl⟩;refine ad (wpAny_typeOf hT ?_);rw[if_pos (by decide)];refine ad (qK hh hz1 λh1 t1 k1=>?_);rw[if_pos (show(none:Option Value).isNone=true from rfl)];refine ad (wpAny_rule ?_);refine ad (gy (s:={ s with heap:=h1,toks:=t1 }) (k1 _ _ hz1) ?_);have n0:∀ {c o},s.heap.get? c=some o->s.heap.objs.size≠c:=λe=>Nat.ne_of_gt (ss e)
 have nd:s.heap.objs.size≠z/\s.heap.objs.size≠TI/\s.heap.objs.size≠TO/\s.heap.objs.size≠i1/\s.heap.objs.size≠i2/\s.heap.objs.size≠l1/\s.heap.objs.size≠l2:=by
  obtain⟨a,b,hO⟩:=Z.hO;exact⟨n0 hz0,n0 Z.hI,n0 hO,Nat.ne_of_gt Z.g1.lt,Nat.ne_of_gt Z.g2.lt,Nat.ne_of_gt Z.t1.lt,Nat.ne_of_gt Z.t2.lt⟩
 have kk:∀ c o,s.heap.get? c=some o->h1.get? c=some o:=λc o e=>k1 _ _ (sn _ e)
 have d1:h1.DictOf knd s.heap.objs.size []:=by
  obtain⟨o,es,ep,ho,r⟩:=dn;exact⟨o,es,ep,k1 _ _ ho,r⟩
 refine am ⟨plainId_quiet di _,codeAny_builtin iP ?_⟩;rw[Around.under_plainId di _];refine tw (A:=A.in1) (d:=s.heap.objs.size) hh D nd ks hk hz _ 0 rfl (Nat.zero_le _) { s with heap:=h1,toks:=t1 } [] _ (Z.keep (λc o e _=>kk c o e) nd (let⟨o,_,_,ho,_⟩:=d1;⟨o,ho⟩)) d1 (by simpa using hsz) λh' t' d' f'=>?_
 rw[drop_zero,merged_nil_of_nodup _ (by rw[List.map_fst_zip (by simp;omega)];exact hn)]at d';exact⟨rfl,q h' t' d' λc o n1 n2 n3 n4 e=>f' c o n1 n2 n3 n4 (n0 e).symm (kk c o e)⟩
end
def uj:bootBuiltins "dict"=some (.type "dict"):=by decide+kernel
def xF {P:Program}{w:World}:∀ {ks:List Key}{us:List Value},Vals (ks.map kV) us->∀ (j:Nat) u,us[j]? =some u->∃ k,ks[j]? =some k/\(az P w).is k u=true
 | [],_,.nil,j,u,h=>by simp at h
 |k::ks,_,.cons r rs,0,u,h=>by
  simp at h;subst h;exact⟨k,rfl,k9 r⟩
 |k::ks,_,.cons r rs,j+1,u,h=>by
  simp at h;obtain⟨k',e1,e2⟩:=xF (P:=P) (w:=w) rs j u h;exact⟨k',by simpa using e1,e2⟩
def xR:∀ {ks:List Key}{ys:List V}{us:List Value},Vals ys us->KV (ks.zip ys) (ks.zip us)
 | [],_,_,_=>by simp[List.zip];exact .nil
 |_::_,_,_,.nil=>.nil
 |k::ks,_,_,.cons r rs=>.cons ⟨rfl,r⟩ (xR rs)
abbrev Eb (K:W.Frag)(v u:V)(H:Hp)(Q:VK):Prop:=∃ tp1 l1 tp2 l2,∃ (ks:List Key) (ys:List V),v=.ref l1/\u=.ref l2/\Sq K tp1 H l1 (ks.map kV)/\Sq K tp2 H l2 ys/\ks.Nodup/\ks.length=ys.length/\ks.length<=1000/\∀ p,H p=none->Q (.ref p) (upd H p (.dK (ks.zip ys)))
abbrev En (K:W.Frag)(ta:TA):TE:=λU H Q=>ta U H λvs H1=>∃ v u,vs=[v,u]/\Eb K v u H1 Q
def xk {a b:Expr}{ta:TA}{p p2 pos2:Pos}(hc:X.calm=true)(hg:Gl X "dict") (hm:X.mg "dict"=none) (hg2:Gl X "zip") (hm2:X.mg "zip"=none) (ha:PA X [a,b] ta)
  (hs:bm [a,b] X.env=(false,eval a X.env)::bm [b] X.env:=by rfl) (hpl:(backTo pos2 (bm [b] X.env)).any (·.1)=false:=by rfl):
  PE X (.Call (.Name "dict" p) [.Call (.Name "zip" p2) [a,b] [] pos2] [] pos) (En X.K ta):=by
 intro Y s U H Q I h;have h1:bm [.Call (.Name "zip" p2) [a,b] [] pos2] X.env=[(false,eval (.Call (.Name "zip" p2) [a,b] [] pos2) X.env)]:=rfl;refine Call_ (cP I hg hm uj (PyProof.Rows.callWith_type1 ?_ h1 rfl));rw[h1];show wpAny _ _ (spliced ((false,eval (.Call (.Name "zip" p2) [a,b] [] pos2) X.env)::backTo pos [])) _ _ _;refine Calls.spliced_cons ?_;refine Call_ (cP I hg2 hm2 sG (PyProof.Rows.callWith_type1 (au (ha pos2 Y s U H _ I h) λus s1 ⟨vs,H1,I1,r1,q1⟩=>?_) hs hpl));obtain⟨v,u,e,tp1,l1,tp2,l2,ks,ys,e1,e2,q1,q2,kn,kl,kz,q⟩:=q1;subst e e1 e2;cases r1 with
 |cons r rr=>
  cases rr with
  |cons r' rr'=>
   cases rr';cases r;cases r';obtain⟨is1,v1,t1⟩:=I1.sq q1;obtain⟨is2,v2,t2⟩:=I1.sq q2;refine kB t1 t2 λh' hz hI hO g1 g2 hsz hk=>?_
   refine Calls.spliced_nil ?_;have n1:is1.length=ks.length:=by rw[<-v1.length,ce]
   have n2:is2.length=ks.length:=by rw[<-v2.length,kl]
   refine jA (s:={ s1 with heap:=h' }) (knd:=az X.prog X.w) (I1.ok.hd hc) (rF t1.lt t2.lt) ks (λj x hx=>xF v1 j x (by simpa using hx)) (by simp;omega) kn (by simp;omega) (by simp;rw[n1];exact fits kz)
    ⟨.inl ⟨_,hz⟩,hI,⟨_,_,hO⟩,g1,g2,t1.to λo e=>hk _ o e,t2.to λo e=>hk _ o e⟩ ⟨_,hz⟩ λh2 t2' d2 f2=>?_
   have lt0:∀ {c o},s1.heap.get? c=some o->c<s1.heap.objs.size:=λe=>ss e
   have hfree:H1 h'.objs.size=none:=I1.hok.fresh (by rw[hsz];exact Nat.le_add_right _ _);refine⟨.ref h'.objs.size,_,I1.laid (a:=h'.objs.size) (o:=.dK (ks.zip ys)) (t':=t2') (λc o e=>?_) (by rw[hsz];exact Nat.le_add_right _ _) ⟨?_,?_,_,xR v2,by simpa using d2⟩,rfl,q _ hfree⟩
   .have hl:=lt0 e;refine f2 c o (nw (mo hl (Nat.le_add_right _ _))) (nw (mo hl (Nat.le_add_right _ _))) (nw hl) (nw (mo hl (Nat.le_add_right _ _))) (hk c o e)
   .rw[List.length_zip];exact fits (Nat.le_trans (Nat.min_le_left _ _) kz)
   .exact beq_eq_false_iff_ne.mpr (Nat.ne_of_gt (mo I1.big (by rw[hsz];exact Nat.le_add_right _ _)))
section
variable {X:Cx}{Y:EM}{U:St}{H:Hp}{s:Shared}{a:Addr}{kvs:List (Key×V)}{A:Around}{E:EL}
def uB {Q:EL}(I:Inv X Y U H s)(e:Rd H a (.dK kvs))(h:∀ p s',H p=none->Inv X Y U (upd H p (.dK kvs)) s'->Q (.ref p) s'):wpAny (model X.prog X.w) A (call (.type "dict") [.ref a]) Q E s:=by
 obtain⟨z,hd,vs,rel,dd⟩:=fY I.hok e;refine kt_call_dict hd dd (by rw[<-rel.length];exact z) λh' dd' hs=>?_
 refine h _ _ (I.hok.fresh (pc _)) (I.laid (a:=s.heap.objs.size) (o:=.dK kvs) (t':=s.toks) (λb q hq=>?_) (pc _) (ui z (beq_eq_false_iff_ne.mpr (Ne.symm (nw I.big))) rel dd'));exact(hs.2 b (nw (ss hq))).trans (sn _ hq)
end
variable {A:Around}
section
variable {X:Cx}{Y:EM}{U:St}{H:Hp}{s:Shared}
def kf {x:V}{u t:Value}(I:Inv X Y U H s)(rx:RelV x u)(ty:eO X.K H x t):∃ P:Heap->Prop,KitX X.K u t P/\P s.heap/\u≠.builtin "__main__.__loader__#opaque":=by
 cases ty with
 |non=>cases(show u=Value.none from rx);exact⟨_,kitx_none,True.intro,λz=>nomatch z⟩
 |bl y=>cases(show u=Value.bool y from rx);exact⟨_,kitx_bool,True.intro,λz=>nomatch z⟩
 |int i=>obtain⟨t,q⟩:=(show ∃ t,u=Value.int i t from rx);cases q;exact⟨_,kitx_int,True.intro,λz=>nomatch z⟩
 |str y=>obtain⟨t,q⟩:=(show ∃ t,u=Value.str y t from rx);cases q;exact⟨_,kitx_str,True.intro,λz=>nomatch z⟩
 |flt y=>obtain⟨t,q⟩:=(show ∃ t,u=Value.float y t from rx);cases q;exact⟨_,kitx_float,True.intro,λz=>nomatch z⟩
 | @lst a xs ea=>
  cases(show u=Value.ref a from rx);obtain⟨_,_,n,_,h1⟩:=(show ao X.prog X.w H s.heap a (.lst xs) from I.hok a _ ea);exact⟨_,kitx_list,⟨_,h1,rfl⟩,λz=>nomatch z⟩
 | @fZ a ob xs ea=>
  cases(show u=Value.ref a from rx);obtain⟨_,_,_,n,_,h1⟩:=(show ao X.prog X.w H s.heap a (.fZ ob (.lst xs)) from I.hok a _ ea);exact⟨_,kitx_list,⟨_,h1,rfl⟩,λz=>nomatch z⟩
 | @tup a xs ea=>
  cases(show u=Value.ref a from rx);obtain⟨_,_,_,p⟩:=(show ao X.prog X.w H s.heap a (.tup xs) from I.hok a _ ea);obtain⟨o,h1,h2,_⟩:=p;exact⟨_,kitx_tuple,⟨o,h1,h2⟩,λz=>nomatch z⟩
 | @dK a kvs ea=>
  cases(show u=Value.ref a from rx);obtain⟨_,_,vs,_,p⟩:=(show ao X.prog X.w H s.heap a (.dK kvs) from ea.ok I.hok);obtain⟨o,es,ep,h1,h2,_⟩:=p;exact⟨_,kitx_dict,⟨o,h1,h2.1⟩,λz=>nomatch z⟩
 | @dT a kvs ea=>
  cases(show u=Value.ref a from rx);obtain⟨_,_,xs,_,o,es,ep,h1,h2,_⟩:=(show ao X.prog X.w H s.heap a (.dT kvs) from I.hok a _ ea);exact⟨_,kitx_dict,⟨o,h1,h2.1⟩,λz=>nomatch z⟩
 | @ins a C dx fs ea cl ha hn htk hm=>
  cases(show u=Value.ref a from rx);obtain⟨mA,O,_⟩:=dm I.hok ea;obtain⟨od,J,_⟩:=O.look;exact⟨_,kitx_own (cl.get _) cl.hd ha hn htk hm,J,λz=>nomatch z⟩
def jg {Q:EL}{u t:Value}{p:Addr}{cs:List Addr}{b:Bool}{P:Heap->Prop}(I:Inv X Y U H s)(Z:KitX X.K u t P)(hp:P s.heap)(hx:u≠.builtin "__main__.__loader__#opaque")
  (ep:H p=some (.tup (cs.map V.ref))) (e:kitAny X.K t (cs.map Value.ref)=some b) (h:∀ tk,Q (.bool b) { s with toks:=tk }):wpAny (model X.prog X.w) A (call (.builtin "isinstance") [u,.ref p]) Q E s:=by
 obtain⟨its,r,pl,_⟩:=I.tuple (bp.of ep);have er:∀ {cs:List Addr}{us:List Value},Vals (cs.map V.ref) us->us=cs.map Value.ref:=by
  intro cs
  induction cs with
  |nil=>intro us h;cases h;rfl
  |cons c cs ih=>
   intro us h;cases h with
   |cons r1 r2=>
    rw[ih r2,show _=Value.ref c from r1]
    rfl
 obtain rfl:=er r;obtain⟨⟨c,d,da,sl⟩,h1,h2,n,h3⟩:=(show s.heap.IsTuple p (cs.map Value.ref).toArray from pl);subst h2;obtain rfl:=h3;exact kia_tup Z I.aY hp h1 e hx h
end
def jz:∀ {ns:List Int}{us:List Value},Vals (ns.map V.int) us->∃ xs:List (Int×Tok),us=xs.map (λp=>Value.int p.1 p.2)/\xs.map (·.1)=ns
 | [],_,h=>by cases h;exact⟨[],rfl,rfl⟩
 |n::ns,_,h=>by
  cases h with
  |cons r1 r2=>
   obtain⟨t,rfl⟩:=r1;obtain⟨xs,rfl,e⟩:=jz r2;exact⟨(n,t)::xs,rfl,by simp[e]⟩
def qg (hc:X.calm=true):bz X (.builtin "min") (λxs H Q=>∃ p,∃ (ns:List Int) (m:Int),xs=[.ref p]/\aK X.K H p (ns.map V.int)/\m ∈ ns/\(∀ a ∈ ns,m<=a)/\Q (.int m) H):=by
 intro Y s U H xs us Q I r h;obtain⟨p,ns,m,rfl,hq,hm,hl,q⟩:=h;obtain⟨u,rfl,rx⟩:=vals1 r;cases rx;obtain⟨its,r',pl,hz⟩:=I.list hq;obtain⟨ps,rfl,en⟩:=jz r';have hL:s.heap.IsList p (intItems ps.toArray):=by
  have:=pl.isList;simpa[intItems] using this
 have h0:0<ps.toArray.size:=by
  rw[ge];cases ps with
  |nil=>simp at en;subst en;simp at hm
  |cons=>simp
 refine min_intList (I.ok.hd hc) hL h0 λv h' tk hv hk=>?_
 obtain⟨t,rfl⟩:=intItems_at hv;obtain⟨h1,h2⟩:=argBest_lt (numAt ps.toArray) (ps.toArray.size-1);have at_:∀ j,j<ps.length->numAt ps.toArray j ∈ ns:=λj hj=>by
  rw[<-en];refine List.mem_map.mpr ⟨ps[j],getElem_mem hj,?_⟩;simp[numAt,hj]
 rw[ge]at h0 h1 h2;have e:numAt ps.toArray (argBest (λi j=>decide (numAt ps.toArray i<numAt ps.toArray j)) (ps.toArray.size-1))=m:=by
  refine Int.le_antisymm ?_ (hl _ (at_ _ ?_))
  .rw[<-en]at hm;obtain⟨x,hx,rfl⟩:=List.mem_map.mp hm;obtain⟨j,hj,rfl⟩:=List.mem_iff_getElem.mp hx;have:=h2 j nofun;have e2:numAt ps.toArray j=ps[j].1:=by simp[numAt,hj]
   rw[e2]at this;simpa using this
  .rw[ge]
   omega
 rw[e];exact⟨.int m,H,I.kept hk,⟨_,rfl⟩,q⟩
def BN (d:Addr)(hd:(d ==sysModules)=false)(dd:Option Addr)(ep:Nat)(sl:Array (Option Value)):Meets (Builtin.«dict.__eq__» ⟨[.ref d,.ref d],[]⟩) (λ_ R s=>s.heap.get? d=some ⟨.type "dict",dd,.dict #[] ep,sl⟩/\R (.ok (.ret (.bool true))) s):=by
 intro prog w A R s hs;obtain⟨h,g,dp,tt,os⟩:=s;obtain⟨ho,q⟩:=hs;have hT:(⟨h,g,dp,tt,os⟩:Shared).TypeIs (.ref d) "dict":=⟨_,ho,rfl⟩;unfold Builtin.«dict.__eq__»
 k_delta "equality"
 unfold Builtin.Dict.dictSlotArgs;refine ad (ad (wpAny_notOrdered_dict hT ?_));show wpAny _ _ (pure (Value.ref d,[Value.ref d]) >>= _) _ _ _;refine ad (am (am ?_));have hi:=PySem.F.kt_sub_dict;show wpAny _ _ (isInstance (.ref d) (.type "dict") >>= _) _ _ _;unfold Builtin.Dict.samePairs;simp only[Std.Legacy.Range.forIn_eq_forIn_range']
 repeat(any_goals first|assumption|wp_step)
variable {dd:Option Addr}{sl:Array (Option Value)}
def BV (hd:(d ==sysModules)=false){ep:Nat}(ho:s.heap.get? d=some ⟨.type "dict",dd,.dict #[] ep,sl⟩) (hu:A.units<cLine):SeqAt.RcAt A s (.ref d) (.ref d) true:=λprog w E Q h=>
 richCompare_meets_room (op:=.Eq) ⟨_,ho,rfl⟩ ⟨_,ho,rfl⟩ PySem.F.slot_dict_eq PySem.F.entry_dict_eq (PySem.F.args_dict_eq_2 _ _) (BN d hd dd ep sl) ⟨ho,show Value.bool true≠Value.notImplemented/\Q (.bool true) s from⟨(λx=>nomatch x),h⟩⟩ hu
abbrev ue (K:W.Frag)(H:Hp)(a:Addr):Prop:=(∃ xs,aK K H a xs)\/(∃ xs,bp K H a xs)\/H a=some (.dK [])
def vj {a:Addr}(I:Inv X Y U H s)(h:ue X.K H a)(hu:A.units+2<cLine):SeqAt.RcAt A s (.ref a) (.ref a) true:=by
 rcases h with⟨xs,h⟩|⟨xs,h⟩|h
 .obtain⟨ia,ra,pa,_⟩:=I.list h;have rc:=SeqAt.RcAt.lists (A:=A) (e:=λ_=>true) pa.isList pa.isList rfl nofun λj h1 h2=>SeqAt.EqAt.same _
  have e:(List.range ia.toArray.size).all (λ_=>true)=true:=by simp
  rwa [e]at rc
 .obtain⟨ia,ra,pa,_⟩:=I.tuple h;have rc:=SeqAt.RcAt.tuples (A:=A) (e:=λ_=>true) (show s.heap.IsTuple a ia.toArray from pa) (show s.heap.IsTuple a ia.toArray from pa) nofun λj h1 h2=>SeqAt.EqAt.same _
  have e:((List.range (min ia.toArray.size ia.toArray.size)).all (λ_=>true)&&ia.toArray.size ==ia.toArray.size)=true:=by simp
  rwa [e]at rc
 .obtain⟨z,hd,vs,rel,dd⟩:=fY I.hok (.inl h);cases rel;obtain⟨⟨c,d,da,sl⟩,es,ep,ho,hx,he,_,hp,_⟩:=dd;have e0:es=#[]:=by
   cases hp':es.toList with
   |nil=>exact Array.toList_eq_nil_iff.mp hp'
   |cons a b=>rw[hp']at hp;cases hp
  subst e0;obtain rfl:da=.dict #[] ep:=he;obtain⟨rfl,_⟩:=hx;exact BV hd ho nofun
section
variable {prog:Program}{w:World}{A:Around}{E:EL}{s:Shared}{T:String}{r d:Addr}{n:Nat}{P:Nat->Value->Prop}{OK:Heap->Prop}
end
abbrev lP (tp:Bool):String:=match tp with
 |true=>"tuple"
 |false=>"list"
abbrev tJ (K:W.Frag)(C:Addr):Bool:=findIn K (.ref C) "__eq__" ==some (some (.builtin "object.__eq__"))&&subIn K (.ref C) (.type "str") ==some false&&subIn K (.ref C) (.type "object") ==some true
def m9 {prog:Program}{w:World}{K:Frag}{C:Addr}{R:Result->Shared->Prop}(X:K.In s.heap)(hm:makesIn K C=true)(hi:findIn K (.ref C) "__init__"=some (some (.builtin "object.__init__")))
  (h:R (.ok (.ret (.ref (s.heap.objs.size+1)))) { s with heap:=(s.heap.push emptyDict).push (instObj C s.heap.objs.size) }):codeAny (model prog w) A (.call (.ref C) ⟨[],[]⟩) R s:=by
 obtain⟨hh,g,d,t,os⟩:=s;have Y:=makes_of (M:=model prog w) X hm;refine make_core Y (looks_findIn X hi) (λz=>Looks.of_pure (oi_bind z)) (.inr ⟨rfl,rfl⟩) ?_;have k:∀ b o,hh.get? b=some o->((hh.push emptyDict).push (instObj C hh.objs.size)).get? b=some o:=λb o e=>sn _ (sn _ e)
 have hx:((hh.push emptyDict).push (instObj C hh.objs.size)).get? (hh.objs.size+1)=some (instObj C hh.objs.size):=by heap_get
 have t1:Looks (model prog w) ((hh.push emptyDict).push (instObj C hh.objs.size)) (typeOf (.ref (hh.objs.size+1))) (.ref C):=Looks.andThen (Looks.ld hx) .now;have t2:Looks (model prog w) ((hh.push emptyDict).push (instObj C hh.objs.size)) (isInstance (.ref (hh.objs.size+1)) (.type "object")) true:=t1.andThen (Y.top.keeps k);refine codeAny_call_builtin oi_plain entry_oi (@check_slot (model prog w) _ _ _ "object.__init__" "object" "__init__" (.ref (hh.objs.size+1)) [] [] _ oi_kind oi_split t2 (oi_args _) ?_);rw[oi_run];exact am ⟨rfl,h⟩
structure D4 (K:Frag) (C:Addr):Prop where
 makes:makesIn K C=true
 init:findIn K (.ref C) "__init__"=some (some (.builtin "object.__init__"))
 kp:keepIn K (.ref C)=true
abbrev C4 (C:Addr):TE:=λ_ H Q=>∀ x dx,H x=none->H dx=none->dx≠x->Q (.ref x) (upd (upd H dx (.own x)) x (.ins C dx []))
def su {C:Addr}{x:Str}{p:Pos}(M:D4 X.K C)(hg:Gl X x)(hm:X.mg x=some (.ref C))(hdb:(x ==("__debug__":Str))=false):PE X (.Call (.Name x p) [] [] pos) (C4 C):=by
 intro Y s U H Q I h;refine bv (aO I hg hm ?_ hdb);refine W.callWith_K0 I.aY M.kp (wpAny_call (m9 I.aY M.makes M.init ?_));have I2:=Inv.made (C:=C) I;exact⟨.ref (s.heap.objs.size+1),_,I2,rfl,h (s.heap.objs.size+1) s.heap.objs.size (I.hok.fresh (Nat.le_succ _)) (I.hok.fresh (pc _)) (nw (Nat.lt_succ_self _))⟩
@[reducible]def VV:List (V×V)->List (Value×Value)->Prop:=Paired λp q=>RelV p.1 q.1/\RelV p.2 q.2
abbrev PQ (X:Cx)(pos:Pos)(keys:List (Option Expr))(values:List Expr)(t:St->Hp->(List (V×V)->Hp->Prop)->Prop):Prop:=
 ∀ (Y:EM) (s:Shared) (U:St) (H:Hp) (Q:List (V×V)->Hp->Prop),Inv X Y U H s->t U H Q->
  wpAny (model X.prog X.w) X.A (evalPairs (pairTrees keys values X.env pos)) (λvs s'=>∃ ps H',Inv X Y U H' s'/\VV ps vs/\Q ps H') X.xe s
def Ao:PQ X pos [] [] (λ_ H Q=>Q [] H):=λY s U H Q I h=>pairTrees_nil_walk ⟨[],H,I,.nil,h⟩
def vU {k v:Expr}{ks:List (Option Expr)}{vs:List Expr}{tk tv:TE}{t:St->Hp->(List (V×V)->Hp->Prop)->Prop}(hk:PE X k tk)(hv:PE X v tv)(hr:PQ X pos ks vs t):
  PQ X pos (some k::ks) (v::vs) (λU H Q=>tk U H λx H1=>tv U H1 λy H2=>t U H2 λps H3=>Q ((x,y)::ps) H3):=λY s U H Q I h=>
 pairTrees_cons_walk (au (hk Y s U H _ I h) λu s1 ⟨x,H1,I1,rx,q1⟩=>au (hv Y s1 U H1 _ I1 q1) λw2 s2 ⟨y,H2,I2,ry,q2⟩=>
  au (hr Y s2 U H2 _ I2 q2) λws s3 ⟨ps,H3,I3,rel,q3⟩=>⟨(x,y)::ps,H3,I3,.cons ⟨rx,ry⟩ rel,q3⟩)
abbrev nc (K:W.Frag)(C:Addr):Bool:=findIn K (.ref C) "__ne__" ==some (some (.builtin "object.__ne__"))&&tJ K C
section
variable {A:Around}{s:Shared}{l C dx:Addr}{od:Option Obj}{K:W.Frag}{prog:Program}{w:World}{E:EL}
def Cn (X:K.In s.heap)(I:InstAt s.heap l (instObj C dx) C od)(h1:findIn K (.ref C) "__eq__"=some (some (.builtin "object.__eq__"))) (h3:subIn K (.ref C) (.type "object")=some true) (h:Q (some (.bool true)) s):wpAny (model prog w) A (callSpecialIfBound? (.ref l) "__eq__" [.ref l]) Q E s:=by
 simp only[callSpecialIfBound?,bindSpecialIfBound?];refine bd (ad (ad (ad (I.type.here ((looks_findIn X h1).here ?_)))));simp only[PySem.F.cmp_object.eq.bind];have fin:wpAny (model prog w) A (call (.builtin "object.__eq__") ([.ref l]++[.ref l]) >>= λv=>pure (some v)) Q E s:=by
  refine ad (wpAny_call (codeAny_call_builtin PySem.F.cmp_object.eq.plain PySem.F.cmpEntry_eq ?_));simp only[checkBuiltinCall,PySem.F.cmpKind_eq,PySem.F.cmpSplit_eq];refine ad (ad (I.type.here ((looks_subIn X h3).here ?_)));rw[if_neg (by simp)];have ha:=PySem.F.cmpArgs_eq (.ref l) (.ref l);have h0:(match Manifest.signature? "object.__eq__" with|some sig=>Bind.checkArgs "object.__eq__" sig { pos:=[Value.ref l]++[Value.ref l] }|x=>pure ())=pure ():=ha;refine wpAny_of_eq h0 ?_;exact objEq_entry_same (am h)
 refine ad (wpAny_askSetting (wpAny_ite ?_))
 split
 .exact ad (am (am fin))
 .exact wpAny_tryCatch (ad (am (am fin)))
def BC (X:K.In s.heap)(I:InstAt s.heap l (instObj C dx) C od)(h1:findIn K (.ref C) "__eq__"=some (some (.builtin "object.__eq__"))) (h2:findIn K (.ref C) "__ne__"=some (some (.builtin "object.__ne__"))) (h3:subIn K (.ref C) (.type "object")=some true) (hu:A.units+2<cLine) (h:Q (some (.bool false)) s):wpAny (model prog w) A (callSpecialIfBound? (.ref l) "__ne__" [.ref l]) Q E s:=by
 simp only[callSpecialIfBound?,bindSpecialIfBound?];refine bd (ad (ad (ad (I.type.here ((looks_findIn X h2).here ?_)))));simp only[PySem.F.cmp_object.ne.bind];have fin:wpAny (model prog w) A (call (.builtin "object.__ne__") ([.ref l]++[.ref l]) >>= λv=>pure (some v)) Q E s:=by
  refine ad (wpAny_call (codeAny_call_builtin PySem.F.cmp_object.ne.plain PySem.F.cmpEntry_ne ?_));simp only[checkBuiltinCall,PySem.F.cmpKind_ne,PySem.F.cmpSplit_ne];refine ad (ad (I.type.here ((looks_subIn X h3).here ?_)));rw[if_neg (by simp)];have ha:=PySem.F.cmpArgs_ne (.ref l) (.ref l);have h0:(match Manifest.signature? "object.__ne__" with|some sig=>Bind.checkArgs "object.__ne__" sig { pos:=[Value.ref l]++[Value.ref l] }|x=>pure ())=pure ():=ha;refine wpAny_of_eq h0 ?_;unfold Builtin.«object.__ne__»;show wpAny _ _ (pure (Value.ref l,[Value.ref l]) >>= _) _ _ _;refine ad (am ?_);refine ad (wpAny_cRoomFor (show A.units+1<cLine by omega) ?_);refine ad (Cn X I h1 h3 ?_);refine ad (bi ?_);exact am (am h)
 refine ad (wpAny_askSetting (wpAny_ite ?_))
 split
 .exact ad (am (am fin))
 .exact wpAny_tryCatch (ad (am (am fin)))
def qc (X:K.In s.heap)(I:InstAt s.heap l (instObj C dx) C od)(hC:nc K C=true)(hu:A.units+3<cLine):SeqAt.RcNeAt A s (.ref l) (.ref l) false:=λprog w E Q h=>by
 unfold nc tJ at hC;simp only[lv,beq_iff_eq]at hC;obtain⟨h0,⟨h1,h2⟩,h3⟩:=hC;simp only[richCompare,PySem.cmpInfo_NotEq]
 try with_reducible refine bd ?_
 refine ad (wpAny_cRoomFor nofun ?_);show wpAny _ _ (typeOf (Value.ref l) >>= _) _ _ _;refine ad (I.type.here (ad (I.type.here ?_)));rw[if_neg (by simp)];refine ad (am ?_);rw[if_neg (by simp)];refine ad ?_;simp only[tryCompare];refine ad (BC X I h1 h0 h3 nofun ?_);exact am (am h)
def AY (d:Addr)(hd:(d ==sysModules)=false)(dd:Option Addr)(ep:Nat)(sl:Array (Option Value)):Meets (Builtin.«dict.__ne__» ⟨[.ref d,.ref d],[]⟩) (λ_ R s=>s.heap.get? d=some ⟨.type "dict",dd,.dict #[] ep,sl⟩/\R (.ok (.ret (.bool false))) s):=by
 intro prog w A R s hs;obtain⟨h,g,dp,tt,os⟩:=s;obtain⟨ho,q⟩:=hs;have hT:(⟨h,g,dp,tt,os⟩:Shared).TypeIs (.ref d) "dict":=⟨_,ho,rfl⟩;unfold Builtin.«dict.__ne__»
 k_delta "equality"
 unfold Builtin.Dict.dictSlotArgs;refine ad (ad (wpAny_notOrdered_dict hT ?_));show wpAny _ _ (pure (Value.ref d,[Value.ref d]) >>= _) _ _ _;refine ad (am (am ?_));have hi:=PySem.F.kt_sub_dict;show wpAny _ _ (isInstance (.ref d) (.type "dict") >>= _) _ _ _;unfold Builtin.Dict.samePairs;simp only[Std.Legacy.Range.forIn_eq_forIn_range']
 repeat(any_goals first|assumption|wp_step)
def w4 (hd:(d ==sysModules)=false){ep:Nat}(ho:s.heap.get? d=some ⟨.type "dict",dd,.dict #[] ep,sl⟩) (hu:A.units<cLine):SeqAt.RcNeAt A s (.ref d) (.ref d) false:=λprog w E Q h=>
 richCompare_meets_room (op:=.NotEq) ⟨_,ho,rfl⟩ ⟨_,ho,rfl⟩ PySem.F.slot_dict_ne PySem.F.entry_dict_ne (PySem.F.args_dict_ne_2 _ _) (AY d hd dd ep sl) ⟨ho,show Value.bool false≠Value.notImplemented/\Q (.bool false) s from⟨(λx=>nomatch x),h⟩⟩ hu
abbrev rz (K:W.Frag)(H:Hp)(a:Addr):Prop:=(∃ xs,bp K H a xs)\/H a=some (.dK [])\/(∃ C dx fs,H a=some (.ins C dx fs)/\nc K C=true)\/∃ xs,aK K H a xs
def wL {a:Addr}(I:Inv X Y U H s)(h:rz X.K H a)(hu:A.units+3<cLine):SeqAt.RcNeAt A s (.ref a) (.ref a) false:=by
 rcases h with⟨xs,h⟩|h|⟨C,dx,fs,h,hn⟩|⟨xs,h⟩
 .obtain⟨ia,ra,pa,_⟩:=I.tuple h;have rc:=SeqAt.RcNeAt.tuples (A:=A) (e:=λ_=>true) (show s.heap.IsTuple a ia.toArray from pa) (show s.heap.IsTuple a ia.toArray from pa) nofun λj h1 h2=>SeqAt.EqAt.same _
  have e:((List.range (min ia.toArray.size ia.toArray.size)).all (λ_=>true)&&ia.toArray.size ==ia.toArray.size)=true:=by simp
  rw[e]at rc;exact rc
 .obtain⟨z,hd,vs,rel,dd⟩:=fY I.hok (.inl h);cases rel;obtain⟨⟨c,d,da,sl⟩,es,ep,ho,hx,he,_,hp,_⟩:=dd;have e0:es=#[]:=by
   cases hp':es.toList with
   |nil=>exact Array.toList_eq_nil_iff.mp hp'
   |cons a b=>rw[hp']at hp;cases hp
  subst e0;obtain rfl:da=.dict #[] ep:=he;obtain⟨rfl,_⟩:=hx;exact w4 hd ho nofun
 .obtain⟨mA,o,_⟩:=dm I.hok h;obtain⟨od,i,_⟩:=o.look;exact qc I.aY i hn hu
 .obtain⟨ia,ra,pa,_⟩:=I.list h;have rc:=SeqAt.RcNeAt.lists (A:=A) (e:=λ_=>true) pa.isList pa.isList rfl nofun λj h1 h2=>SeqAt.EqAt.same _
  have e:(List.range ia.toArray.size).all (λ_=>true)=true:=by simp
  rw[e]at rc;exact rc
end
end L2
namespace L2
open PySem PySem.Spec PyProof.Rows
section
variable {X:Cx}{tg:Expr}
end
end L2
namespace L2
open PySem PySem.Spec PySem.W PyProof.Rows
open PySem.AutoSeq1 (wpAny_loadPart')
section
variable {prog:Program}{w:World}{A:Around}{E:EL}{s:Shared}
end
section
variable {X:Cx}{Y:EM}{U:St}{H:Hp}{s:Shared}
end
def pI {X:Cx}(hc:X.calm=true):bz X (.builtin "sum") (λxs H Q=>∃ p,∃ (ns:List Int),xs=[.ref p]/\aK X.K H p (ns.map V.int)/\Q (.int ns.sum) H):=by
 intro Y s U H xs us Q I r h;obtain⟨p,ns,rfl,hq,q⟩:=h;obtain⟨u,rfl,rx⟩:=vals1 r;cases rx;obtain⟨its,r',pl,hz⟩:=I.list hq;obtain⟨ps,rfl,en⟩:=jz r';have hL:s.heap.IsList p (intItems ps.toArray):=by
  have:=pl.isList;simpa[intItems] using this
 refine sum_intListG (I.ok.hd hc) hL λh' tk t' hk=>?_
 have e2:preSum (numAt ps.toArray) ps.toArray.size=ns.sum:=by
  rw[preSum_eq,take_of_length_le (by simp),<-en]
 rw[e2];exact⟨.int ns.sum,H,I.kept hk,⟨_,rfl⟩,q⟩
section
variable {prog:Program}{w:World}{A:Around}{E:EL}{s:Shared}
variable {z TI TO i1 i2 i3 l1 l2 l3:Addr}{k1 k2 k3:Nat}{tp1 tp2 tp3:Bool}{xs ys zs:Array Value}{x y v a b c f1:Value}
end
variable {X:Cx}{e es:Expr}{te:TE}{ts:TO}{p2 pos:Pos}
def oZ:∀ {xs:List V}{us:List Value},xs.length=us.length->(∀ (j:Nat) (x:V) (u:Value),xs[j]? =some x->us[j]? =some u->RelV x u)->Vals xs us
 | [],[],_,_=>.nil
 |x::xs,u::us,e,h=>.cons (h 0 x u rfl rfl) (oZ (Nat.succ.inj e) λj a b e1 e2=>h (j+1) a b e1 e2)
def oo:∀ {kvs:List (Key×V)}{vs:List (Key×Value)},KV kvs vs->kvs.map (·.1)=vs.map (·.1)
 |_,_,.nil=>rfl
 |_,_,.cons r rs=>by rw[map_cons,map_cons,r.1,oo rs]
def mj {Y:EM}{U:St}{H:Hp}{s:Shared}{Q:VK}{d:Addr}{kvs:List (Key×V)}(hc:X.calm=true)(I:Inv X Y U H s)(e:Rd H d (.dK kvs))(q:∀ p,H p=none->Q (.ref p) (upd H p (.lst (kvs.map (λkv=>kV kv.1))))):
  wpAny (model X.prog X.w) X.A (call (.type "list") [.ref d]) (EP X Y U Q) X.xe s:=by
 obtain⟨hz,hd,vs,rel,dd⟩:=fY I.hok e;obtain⟨o,es,ep,ho,hx,he,hk,hp,hn⟩:=dd;have hA:s.heap.DictAt (az X.prog X.w) d vs ep:=⟨o,es,ho,hx,he,hk,hp,hn⟩;have hl:vs.length<=bn:=by rw[<-rel.length];exact hz
 refine kdl_call (kdl_dict hd) (I.ok.hd hc) hA hl λh' tk acc c' hk' hD hi=>?_
 have r:Vals (kvs.map (λkv=>kV kv.1)) acc.toList:=oZ ((ce ..).trans (rel.length.trans (hi.1.symm.trans Array.length_toList.symm))) λj x u e1 e2=>by
  rw[ii]at e1;obtain⟨⟨k,y⟩,ek,rfl⟩:=lw.mp e1;obtain⟨k',y',ek',hs⟩:=hi.2 j u (by rw[<-Array.getElem?_toList];exact e2);have ekk:k=k':=by
   have h2:(kvs.map (·.1))[j]? =(vs.map (·.1))[j]? :=by rw[oo rel]
   rw[ii,ii,ek,ek']at h2;exact Option.some.inj h2
  subst ekk;rcases ar hs with⟨i,t,rfl,rfl⟩|⟨z,t,rfl,rfl⟩
  .exact⟨t,rfl⟩
  .exact⟨t,rfl⟩
 exact⟨.ref _,_,I.laid (t':=tk) hk' (pc _) (show ao X.prog X.w _ h' _ (.lst (kvs.map (λkv=>kV kv.1))) from⟨by rw[ce];exact hz,acc.toList,c',r,by rw[Array.toArray_toList];exact hD⟩),rfl,q _ (I.hok.fresh (pc _))⟩
end L2
namespace L2
open PySem PySem.Spec PyProof.Rows
abbrev yC (z:Str):It:=⟨λi _=>i<z.cps.size,λi H x H'=>H'=H/\∃ c,z.cps[i]? =some c/\x=.str ⟨#[c]⟩,λi _=>z.cps.size<=i⟩
def qY {P:Program}{w:World}{K:W.Frag}{tg:Expr}(it:Addr)(z:Str)(t:Tok):Turn P w K tg (yC z) [it] it (λi h=>h.IsStrIter it (strIterType z) z t i) where
 mem:=by simp
 obj:=λi h st b hb=>by
  have e:b=it:=by simpa using hb
  subst e;obtain⟨o,e,c,d⟩:=st;exact⟨o,e,λv z=>by rw[d]at z;cases z⟩
 keep:=λi h h' st k=>let⟨o,ho,r⟩:=st;⟨o,k it (by simp) o ho,r⟩
 item:=by
  intro X hP hw hK hc i Y s U H E I hf st hg;subst hP hw hK;obtain⟨f0,f1,f2,f3,f4,f5⟩:=hf it (by simp);have go:∀ T,(T="str_ascii_iterator"\/T="str_iterator")->strIterType z=T->wpAny (model X.prog X.w) X.A (pyNext (.ref it)) (λr s1=>∃ u,r=some u/\
   wpAny (model X.prog X.w) X.A (letOwnedTupleGo tg (.ref it) u) (λ_ s2=>∃ x H',Inv X Y U H' s2/\RelV x u/\(yC z).yld i H x H'/\s2.heap.IsStrIter it (strIterType z) z t (i+1)/\∀ b ∈ [it],H' b=none) E s1) E s:=by
   intro T hT eT;rw[eT]at st⊢;have fin:∀ v h' tk,SignAt z i v->h'.IsStrIter it T z t (i+1)->(∀ b o,b ∉ [it]->s.heap.get? b=some o->h'.get? b=some o)->∃ u,some v=some u/\
    wpAny (model X.prog X.w) X.A (letOwnedTupleGo tg (.ref it) u) (λ_ s2=>∃ x H',Inv X Y U H' s2/\RelV x u/\(yC z).yld i H x H'/\s2.heap.IsStrIter it T z t (i+1)/\∀ b ∈ [it],H' b=none) E { s with heap:=h',toks:=tk }:=by
    intro v h' tk hv st' kk;obtain⟨c,u,hc',rfl⟩:=hv;have I1:Inv X Y U H { s with heap:=h',toks:=tk }:=I.turned (λb o hb e=>kk b o (by simpa using hb) e) f0 f1 f3 f4 f5;obtain⟨o,e,cc,d⟩:=id st';exact⟨_,rfl,nO (s:={ s with heap:=h',toks:=tk }) e cc d (by rcases hT with rfl|rfl<;>decide) ⟨.str ⟨#[c]⟩,H,I1,⟨u,rfl⟩,⟨rfl,c,hc',rfl⟩,st',λb hb=>(hf b hb).1⟩⟩
   rcases hT with rfl|rfl
   .exact(Walks.strAscii (prog:=X.prog) (w:=X.w) (I.ok.hd hc) it z t).item i s _ _ hg st fin
   .exact(Walks.strWide (prog:=X.prog) (w:=X.w) (I.ok.hd hc) it z t).item i s _ _ hg st fin
  have hz:strIterType z="str_ascii_iterator"\/strIterType z="str_iterator":=by unfold strIterType;split<;>simp
  exact go _ hz rfl
 done:=by
  intro X hP hw hK hc i Y s U H E I hf st hg;subst hP hw hK;obtain⟨f0,f1,f2,f3,f4,f5⟩:=hf it (by simp);have hx:z.cps[i]? =none:=Array.getElem?_eq_none hg;have fin:∀ h',Heap.ExtBut it s.heap h'->(none:Option Value)=none/\Inv X Y U H { s with heap:=h' }:=λh' eb=>⟨rfl,I.turned (t':=s.toks) (λb o hb e=>eb b o hb e) f0 f1 f3 f4 f5⟩
  unfold strIterType at st
  split at st
  .exact wpAny_pyNext_ascii_end (I.ok.hd hc) st hx fin
  .exact wpAny_pyNext_wide_end (I.ok.hd hc) st hx fin
 self:=λ_ _ _ _ _ st h=>by
  unfold strIterType at st
  split at st
  .exact wpAny_pyIter_striter_ascii st h
  .exact wpAny_pyIter_striter_wide st h
def uf {X:Cx}{tg:Expr}{Y:EM}{U:L2.St}{H1:Hp}{s1:Shared}{R:It->Hp->Prop}{z:Str}{v:Value}(I1:Inv X Y U H1 s1)(r:RelV (.str z) v)(q:R (yC z) H1):
  wpAny (model X.prog X.w) X.A (pyIter v) (BM X Y U tg R) X.xe s1:=by
 obtain⟨t,rfl⟩:=r;refine wpAny_pyIter_strU ?_;refine⟨s1.heap.objs.size,[s1.heap.objs.size],_,_,H1,rfl,I1.kept (t':=s1.toks) λb o e=>sn _ e,qY _ z t,⟨_,sw _ rfl,rfl,rfl⟩,λb hb=>?_,q⟩;have e:b=s1.heap.objs.size:=by simpa using hb
 subst e;exact I1.p9 (pc _) (I1.hok.fresh (pc _))
def Inv.fZ {X:Cx}{Y:EM}{U:L2.St}{H:Hp}{s:Shared}{d:Addr}{kvs:List (Key×V)}(I:Inv X Y U H s)(e:H d=some (.dK kvs)):∃ o,Inv X Y U (upd H d (.fZ o (.dK kvs))) s:=by
 obtain⟨_,_,vs,rel,o,es,ep,ho,r⟩:=id (show ao X.prog X.w H s.heap d (.dK kvs) from I.hok d _ e);have ne:∀ b u,H b=some u->u≠.dK kvs->b≠d:=λb u hb hn z=>by subst z;rw[e]at hb;cases hb;exact hn rfl
 refine⟨o,I.step (h':=s.heap) (t':=s.toks) (g':=s.gens) (d':=s.drawn) (ch:=[]) (λ_ z=>nomatch z) (λb o _ _ _ e _=>e) (λb o _ _ _ e _=>⟨o.slots,e⟩) (λb o _ _ n=>by rw[af (λz=>by subst z;rw[e]at n;cases n)];exact n) (λb o _ e=>⟨o,e⟩)
  (λb xs h=>by rw[af (ne b _ h (λz=>by cases z))];exact h) (λb o u h=>by rw[af (ne b _ h (λz=>by cases z))];exact h) (λb ps h=>⟨#[],by rw[af (ne b _ h (λz=>by cases z)),h];simp⟩) (λm hm=>hm) (λb u hb=>?_) I.bare⟩
 have dr:∀ b u,H b=some u->ao X.prog X.w (upd H d (.fZ o (.dK kvs))) s.heap b u:=λb u hb=>(I.hok b u hb).dr (λ_ _ _ e=>e) (λc hc=>by rw[af (ne c _ hc (λz=>by cases z))];exact hc) (λc xs hc=>by rw[af (ne c _ hc (λz=>by cases z))];exact hc)
 by_cases z:b=d
 .subst z;rw[aj]at hb;cases hb;exact⟨ho,dr _ _ e⟩
 .rw[af z]at hb;exact dr b u hb
section
variable {X:Cx}
end
inductive jF (K:W.Frag) (H:Hp):Nat->V->V->Bool->Prop where
 |flat {n:Nat}{x y:V}(fx:aH x=true) (fy:aH y=true):jF K H n x y (lG x y)
 |same {n:Nat}(a:Addr):jF K H (n+1) (.ref a) (.ref a) true
 |ll {n:Nat}{a b:Addr}{xs ys:List V}{e:Nat->Bool}(ha:aK K H a xs) (hb:aK K H b ys) (hl:xs.length=ys.length) (h:∀ j x y,xs[j]? =some x->ys[j]? =some y->jF K H (n+1) x y (e j)):jF K H (n+2) (.ref a) (.ref b) ((List.range xs.length).all e)
 |tt {n:Nat}{a b:Addr}{xs ys:List V}{e:Nat->Bool}(ha:bp K H a xs) (hb:bp K H b ys) (h:∀ j x y,xs[j]? =some x->ys[j]? =some y->jF K H (n+1) x y (e j)):jF K H (n+2) (.ref a) (.ref b) ((List.range (min xs.length ys.length)).all e&&xs.length ==ys.length)
variable {A:Around}
section
variable {X:Cx}{Y:EM}{s:Shared}{U:St}{H:Hp}
def rS {y x:V}{u v:Value}(ry:RelV y u)(rx:RelV x v)(fy:aH y=true)(fx:aH x=true):SeqAt.RcAt A s u v (lG y x):=by
 cases y<;>first|cases fy|skip
 all_goals (cases x<;>first|cases fx|skip)
 all_goals (first|(obtain⟨t,rfl⟩:=ry)|cases ry)
 all_goals (first|(obtain⟨t',rfl⟩:=rx)|cases rx)
 .exact SeqAt.RcAt.none_none
 .exact SeqAt.RcAt.none_bool _
 .exact SeqAt.RcAt.none_int _ _
 .exact SeqAt.RcAt.none_str _ _
 .exact SeqAt.RcAt.bool_none _
 .exact SeqAt.RcAt.bool_bool _ _
 .exact SeqAt.RcAt.bool_int _ _ _
 .exact SeqAt.RcAt.bool_str _ _ _
 .exact SeqAt.RcAt.int_none _ _
 .exact SeqAt.RcAt.int_bool _ _ _
 .exact SeqAt.RcAt.int_int _ _ _ _
 .exact SeqAt.RcAt.int_str _ _ _ _
 .exact SeqAt.RcAt.str_none _ _
 .exact SeqAt.RcAt.str_bool _ _ _
 .exact SeqAt.RcAt.str_int _ _ _ _
 .exact SeqAt.RcAt.str_str _ _ _ _
def lz {y x:V}{u v:Value}(ry:RelV y u)(rx:RelV x v)(fy:aH y=true)(fx:aH x=true):SeqAt.RcNeAt A s u v (!lG y x):=by
 cases y<;>first|cases fy|skip
 all_goals (cases x<;>first|cases fx|skip)
 all_goals (first|(obtain⟨t,rfl⟩:=ry)|cases ry)
 all_goals (first|(obtain⟨t',rfl⟩:=rx)|cases rx)
 .exact SeqAt.RcNeAt.none_none
 .exact SeqAt.RcNeAt.none_bool _
 .exact SeqAt.RcNeAt.none_int _ _
 .exact SeqAt.RcNeAt.none_str _ _
 .exact SeqAt.RcNeAt.bool_none _
 .exact SeqAt.RcNeAt.bool_bool _ _
 .exact SeqAt.RcNeAt.bool_int _ _ _
 .exact SeqAt.RcNeAt.bool_str _ _ _
 .exact SeqAt.RcNeAt.int_none _ _
 .exact SeqAt.RcNeAt.int_bool _ _ _
 .exact SeqAt.RcNeAt.int_int _ _ _ _
 .exact SeqAt.RcNeAt.int_str _ _ _ _
 .exact SeqAt.RcNeAt.str_none _ _
 .exact SeqAt.RcNeAt.str_bool _ _ _
 .exact SeqAt.RcNeAt.str_int _ _ _ _
 .exact SeqAt.RcNeAt.str_str _ _ _ _
def eqv_refl (I:Inv X Y U H s):∀ {n:Nat}{x y:V}{b:Bool},jF X.K H n x y b->x=y->b=true:=by
 intro n x y b h
 induction h with
 | @flat n x y fx fy=>
  rintro rfl;cases x<;>first|(exact absurd fx Bool.false_ne_true)|simp[lG]
 |same a=>intro _;rfl
 | @ll n a b xs ys e ha hb hl h ih=>
  intro z;cases z;have:=I.gR ha hb;subst this;rw[all_eq_true];intro j hj;have hj':j<xs.length:=mem_range.mp hj;exact ih j _ _ (le hj') (le hj') rfl
 | @tt n a b xs ys e ha hb h ih=>
  intro z;cases z;have:=I.fK ha hb;subst this;rw[beq_self_eq_true,Bool.and_true,Nat.min_self,all_eq_true];intro j hj;have hj':j<xs.length:=mem_range.mp hj;exact ih j _ _ (le hj') (le hj') rfl
def j6 (I:Inv X Y U H s):∀ {n:Nat}{x y:V}{b:Bool},jF X.K H n x y b->∀ {A:Around}{u v:Value},A.units+n<cLine->RelV x u->RelV y v->
  (SeqAt.EqAt A s u v b)/\(x=y\/SeqAt.RcAt A s u v b/\SeqAt.RcNeAt A s u v (!b)):=by
 intro n x y b h
 induction h with
 |flat fx fy=>intro A u v _ rx ry;exact⟨tS rx ry fx fy,.inr ⟨rS rx ry fx fy,lz rx ry fx fy⟩⟩
 |same a=>intro A u v _ rx ry;cases rx;cases ry;exact⟨SeqAt.EqAt.same _,.inl rfl⟩
 | @ll n a b xs ys e ha hb hl h ih=>
  intro A u v hu rx ry;have hall:=jF.ll ha hb hl h;cases rx;cases ry
  by_cases hab:a=b
  .subst hab;have z:=eqv_refl I hall rfl;rw[z];exact⟨SeqAt.EqAt.same _,.inl rfl⟩
  obtain⟨ia,ra,pa,_⟩:=I.list ha;obtain⟨ib,rb,pb,_⟩:=I.list hb;have e1:ia.toArray.size=xs.length:=by rw[ge,ra.length]
  have e2:ib.toArray.size=ys.length:=by rw[ge,rb.length]
  have he:∀ j (h1:j<ia.toArray.size) (h2:j<ib.toArray.size),SeqAt.EqAt A.in1 s ia.toArray[j] ib.toArray[j] (e j):=λj h1 h2=>by
   obtain⟨x1,f1,r1⟩:=gq ra h1;obtain⟨y1,f2,r2⟩:=gq rb h2;exact(ih j x1 y1 f1 f2 (by show A.units+1+(n+1)<cLine;omega) r1 r2).1
  have rc:=SeqAt.RcAt.lists (A:=A) pa.isList pb.isList (by rw[e1,e2,hl]) nofun he;have rn:=SeqAt.RcNeAt.lists (A:=A) pa.isList pb.isList (by rw[e1,e2,hl]) nofun he;rw[e1]at rc rn;exact⟨SeqAt.EqAt.of_refs hab rc,.inr ⟨rc,rn⟩⟩
 | @tt n a b xs ys e ha hb h ih=>
  intro A u v hu rx ry;have hall:=jF.tt ha hb h;cases rx;cases ry
  by_cases hab:a=b
  .subst hab;have z:=eqv_refl I hall rfl;rw[z];exact⟨SeqAt.EqAt.same _,.inl rfl⟩
  obtain⟨ia,ra,pa,_⟩:=I.tuple ha;obtain⟨ib,rb,pb,_⟩:=I.tuple hb;have e1:ia.toArray.size=xs.length:=by rw[ge,ra.length]
  have e2:ib.toArray.size=ys.length:=by rw[ge,rb.length]
  have he:∀ j (h1:j<ia.toArray.size) (h2:j<ib.toArray.size),SeqAt.EqAt A.in1 s ia.toArray[j] ib.toArray[j] (e j):=λj h1 h2=>by
   obtain⟨x1,f1,r1⟩:=gq ra h1;obtain⟨y1,f2,r2⟩:=gq rb h2;exact(ih j x1 y1 f1 f2 (by show A.units+1+(n+1)<cLine;omega) r1 r2).1
  have rc:=SeqAt.RcAt.tuples (A:=A) (show s.heap.IsTuple a ia.toArray from pa) (show s.heap.IsTuple b ib.toArray from pb) nofun he;have rn:=SeqAt.RcNeAt.tuples (A:=A) (show s.heap.IsTuple a ia.toArray from pa) (show s.heap.IsTuple b ib.toArray from pb) nofun he;rw[e1,e2]at rc rn;exact⟨SeqAt.EqAt.of_refs hab rc,.inr ⟨rc,rn⟩⟩
@[irreducible] noncomputable def g4 (K:W.Frag) (neg:Bool):R2:=λx y H Q=>∃ n b,jF K H n x y b/\n<=100/\(aH x=true\/x≠y\/(neg=false/\∃ a,x=.ref a/\ue K H a)\/(neg=true/\∃ a,x=.ref a/\rz K H a))/\Q (.bl (if neg then !b else b)) H
def zH (hu:X.A.units+200<cLine):bS X (compareOp .Eq) (g4 X.K false):=by
 intro Y s U H x y v u Q I rx ry h;unfold g4 at h;obtain⟨n,b,e,hn,hx,q⟩:=h;rcases(j6 I e (A:=X.A) nofun rx ry).2 with z|⟨z,_⟩
 .subst z;rcases hx with hx|hx
  .have z:=eqv_refl I e rfl;have r:=rS (s:=s) (A:=X.A) rx ry hx hx;have z2:=eqv_refl I (jF.flat (K:=X.K) (H:=H) (n:=0) hx hx) rfl;rw[z2]at r;rw[z]at q;exact PySem.EqBoolInt.of_rc r ⟨.bl true,H,I,rfl,q⟩
  rcases hx with hx|⟨_,a,rfl,hs⟩|⟨hx,_⟩
  .exact absurd rfl hx
  .have z:=eqv_refl I e rfl;rw[z]at q;cases rx;cases ry;exact PySem.EqBoolInt.of_rc (vj (A:=X.A) I hs nofun) ⟨.bl true,H,I,rfl,q⟩
  .cases hx
 .exact PySem.EqBoolInt.of_rc z ⟨.bl b,H,I,rfl,q⟩
def zw (hu:X.A.units+200<cLine):bS X (compareOp .NotEq) (g4 X.K true):=by
 intro Y s U H x y v u Q I rx ry h;unfold g4 at h;obtain⟨n,b,e,hn,hx,q⟩:=h;rcases(j6 I e (A:=X.A) nofun rx ry).2 with z|⟨_,z⟩
 .subst z;rcases hx with hx|hx
  .have z:=eqv_refl I e rfl;have r:=lz (s:=s) (A:=X.A) rx ry hx hx;have z2:=eqv_refl I (jF.flat (K:=X.K) (H:=H) (n:=0) hx hx) rfl;rw[z2]at r;rw[z]at q;exact PySem.EqBoolInt.of_rcne r ⟨.bl false,H,I,rfl,q⟩
  rcases hx with hx|⟨hx,_⟩|⟨_,a,rfl,hs⟩
  .exact absurd rfl hx
  .cases hx
  .have z:=eqv_refl I e rfl;rw[z]at q;cases rx;cases ry;exact PySem.EqBoolInt.of_rcne (wL (A:=X.A) I hs nofun) ⟨.bl false,H,I,rfl,q⟩
 .exact PySem.EqBoolInt.of_rcne z ⟨.bl (!b),H,I,rfl,q⟩
end
@[irreducible] noncomputable def qz (K:W.Frag) (a b:Addr) (H:Hp) (Q:VK):Prop:=(∃ xs ys,H a=some (.lst xs)/\H b=some (.lst ys)/\xs.length+ys.length<=100000/\∀ p,H p=none->Q (.ref p) (upd H p (.lst (xs++ys))))\/sR K (.ref a) (.ref b) H Q
@[irreducible] noncomputable def vM (K:W.Frag) (a:Addr) (k:Int) (H:Hp) (Q:VK):Prop:=(∃ xs,H a=some (.lst xs)/\ -1000<=k/\k<=1000/\xs.length<=1000/\∀ p,H p=none->Q (.ref p) (upd H p (.lst (re k.toNat xs).flatten)))\/False
abbrev zj (K:W.Frag):R2:=λx y H Q=>match x,y with
 | .int i,.int j=>Q (.int (i+j)) H
 | .str a,.str b=>a.length+b.length<=100000/\Q (.str (a++b)) H
 | .ref a,.ref b=>qz K a b H Q
 |_,_=>False
abbrev zZ:R2:=λx y H Q=>match x,y with
 | .int i,.int j=>Q (.int (i-j)) H
 |_,_=>False
abbrev Au (K:W.Frag):R2:=λx y H Q=>match x,y with
 | .int i,.int j=>pR i j/\Q (.int (i*j)) H
 | .ref a,.int k=>vM K a k H Q
 |_,_=>False
abbrev zi:R2:=λx y H Q=>match x,y with
 | .int i,.int j=>(0<j/\j<1073741824)/\Q (.int (i / j)) H
 |_,_=>False
abbrev yz:R2:=λx y H Q=>match x,y with
 | .int i,.int j=>0<j/\Q (.int (i % j)) H
 |_,_=>False
abbrev zl:R2:=λx y H Q=>match x,y with
 | .int i,.int j=>wb i j/\Q (.int (i ^ j.toNat)) H
 |_,_=>False
abbrev vR (K:W.Frag)(op:Operator):R2:=match op with
 | .Add=>zj K
 | .Sub=>zZ
 | .Mult=>Au K
 | .FloorDiv=>zi
 | .Mod=>yz
 | .Pow=>zl
 |_=>λ_ _ _ _=>False
section
variable {X:Cx}
def f9 {n:Nat}(h:n<=1000000):n<=bn:=by rw[sizeLine_eq];omega
def zF (op:Operator):bS X (binaryOp op) (vR X.K op):=by
 intro Y s U H x y v u Q I rx ry h;cases op with
 |Add=>
  have h':zj X.K x y H Q:=h;unfold zj at h'
  split at h'
  .exact yp Y s U H _ _ v u Q I rx ry ⟨_,_,rfl,rfl,h'⟩
  .exact mF Y s U H _ _ v u Q I rx ry ⟨_,_,rfl,rfl,f9 nofun,h'.2⟩
  .unfold qz at h';rcases h' with⟨xs,ys,ha,hb,hz,q⟩|h'
   .exact yR Y s U H _ _ v u Q I rx ry ⟨_,_,xs,ys,rfl,rfl,ha,hb,f9 nofun,q⟩
   .exact vI Y s U H _ _ v u Q I rx ry h'
  .exact h'.elim
 |Sub=>
  have h':zZ x y H Q:=h;unfold zZ at h'
  split at h'
  .exact y9 Y s U H _ _ v u Q I rx ry ⟨_,_,rfl,rfl,h'⟩
  .exact h'.elim
 |Mult=>
  have h':Au X.K x y H Q:=h;unfold Au at h'
  split at h'
  .exact yS Y s U H _ _ v u Q I rx ry ⟨_,_,rfl,rfl,h'.1,h'.2⟩
  .rename_i k;unfold vM at h';rcases h' with⟨xs,ha,h1,h2,hz,q⟩|h'
   .refine yK Y s U H _ _ v u Q I rx ry ⟨_,k,xs,rfl,rfl,ha,by omega,by omega,f9 ?_,q⟩;have:xs.length*k.toNat<=1000*1000:=Nat.mul_le_mul hz nofun
    omega
   .exact h'.elim
  .exact h'.elim
 |FloorDiv=>
  have h':zi x y H Q:=h;unfold zi at h'
  split at h'
  .exact wy Y s U H _ _ v u Q I rx ry ⟨_,_,rfl,rfl,h'.1,h'.2⟩
  .exact h'.elim
 |Mod=>
  have h':yz x y H Q:=h;unfold yz at h'
  split at h'
  .exact zB Y s U H _ _ v u Q I rx ry ⟨_,_,rfl,rfl,h'.1,h'.2⟩
  .exact h'.elim
 |Pow=>
  have h':zl x y H Q:=h;unfold zl at h'
  split at h'
  .exact yv Y s U H _ _ v u Q I rx ry ⟨_,_,rfl,rfl,h'.1,h'.2⟩
  .exact h'.elim
 |_=>exact(show False from h).elim
abbrev pS (f:Int->Int->Bool):R2:=λx y H Q=>match x,y with
 | .int i,.int j=>Q (.bl (f i j)) H
 |_,_=>False
@[irreducible] noncomputable def uI (K:W.Frag) (neg:Bool):R2:=λx y H Q=>match y with
 | .ref p=>(∃ xs,(aK K H p xs\/bp K H p xs)/\aH x=true/\xs.all aH=true/\Q (.bl (if neg then !AG x xs else AG x xs)) H)\/(∃ o,qy H p x o/\Q (.bl (if neg then !o.isSome else o.isSome)) H)\/False
 | .str j=>∃ i,x=.str i/\Q (.bl (if neg then !(!(Builtin.Str.occurrences j i 0 j.length 1).isEmpty) else !(Builtin.Str.occurrences j i 0 j.length 1).isEmpty)) H
 |_=>False
@[irreducible] noncomputable def xP (neg:Bool):R2:=λx y H Q=>match y with
 | .non=>Q (.bl (if neg then !decide (x=.non) else decide (x=.non))) H
 | .bl b=>False
 | .ref b=>False
 |_=>False
abbrev j7 (K:W.Frag)(op:CmpOp):R2:=match op with
 | .Eq=>g4 K false
 | .NotEq=>g4 K true
 | .Lt=>pS λi j=>decide (i<j)
 | .LtE=>pS λi j=>decide (i<=j)
 | .Gt=>pS λi j=>decide (j<i)
 | .GtE=>pS λi j=>decide (j<=i)
 | .In=>uI K false
 | .NotIn=>λ_ _ _ _=>False
 | .Is=>xP false
 | .IsNot=>xP true
def jo {f:Int->Int->Bool}{op:CmpOp}(ho:bS X (compareOp op) (vE λi j=>.bl (f i j))):bS X (compareOp op) (pS f):=by
 intro Y s U H x y v u Q I rx ry h;unfold pS at h
 split at h
 .exact ho Y s U H _ _ v u Q I rx ry ⟨_,_,rfl,rfl,h⟩
 .exact h.elim
def yl (hu:X.A.units+200<cLine)(op:CmpOp):bS X (compareOp op) (j7 X.K op):=by
 cases op with
 |Eq=>exact zH hu
 |NotEq=>exact zw hu
 |Lt=>exact jo AZ
 |LtE=>exact jo AQ
 |Gt=>exact jo Bv
 |GtE=>exact jo B1
 |In=>
  intro Y s U H x y v u Q I rx ry h;have h':uI X.K false x y H Q:=h;unfold uI at h'
  split at h'
  .rcases h' with⟨xs,hx,f1,f2,q⟩|⟨o,g,q⟩|z
   .exact qr Y s U H _ _ v u Q I rx ry ⟨_,xs,rfl,hx,f1,f2,q⟩
   .cases ry;exact Di nofun I g rx λs3 I3=>⟨.bl o.isSome,H,I3,rfl,q⟩
   .exact z.elim
  .obtain⟨i,rfl,q⟩:=h';exact qk Y s U H _ _ v u Q I rx ry ⟨_,_,rfl,rfl,q⟩
  .exact h'.elim
 |NotIn=>exact λ_ _ _ _ _ _ _ _ _ _ _ _ h=>(show False from h).elim
 |Is=>
  intro Y s U H x y v u Q I rx ry h;have h':xP false x y H Q:=h;unfold xP at h'
  split at h'
  .exact yh Y s U H _ _ v u Q I rx ry ⟨rfl,h'⟩
  .exact h'.elim
  .exact h'.elim
  .exact h'.elim
 |IsNot=>
  intro Y s U H x y v u Q I rx ry h;have h':xP true x y H Q:=h;unfold xP at h'
  split at h'
  .exact vH Y s U H _ _ v u Q I rx ry ⟨rfl,h'⟩
  .exact h'.elim
  .exact h'.elim
  .exact h'.elim
@[irreducible] noncomputable def ya (K:W.Frag):R2:=λx y H Q=>match x with
 | .ref p=>(∃ xs i v,y=.int i/\(aK K H p xs\/bp K H p xs)/\qH xs i=some v/\Q v H)\/∃ v,qy H p y (some v)/\Q v H
 | .str z=>False
 |_=>False
def lU (hu:X.A.units+200<cLine):BD X (ya X.K):=by
 intro value slice Y s U H x y v u Q I rx ry h hs;unfold ya at h
 split at h
 .rcases h with⟨xs,i,w,rfl,hx,ha,q⟩|⟨w,g,q⟩
  .rcases hx with hx|hx
   .exact vD value slice Y s U H _ _ v u Q I rx ry ⟨_,xs,i,w,rfl,rfl,hx,ha,q⟩ hs
   .exact yt value slice Y s U H _ _ v u Q I rx ry ⟨_,xs,i,w,rfl,rfl,hx,ha,q⟩ hs
  .cases rx;exact tail_any (jZ I g) PySem.F.slot_dict_getitem.lookup (qm nofun I g ry λw' s3 I3 rw'=>⟨w,H,I3,rw',q⟩) hs
 .exact h.elim
 .exact h.elim
@[irreducible] noncomputable def kZ:qF:=λo i v H Q=>match o with
 | .ref p=>(∃ xs k j,i=.int k/\H p=some (.lst xs)/\uO xs.length k=some j/\Q (upd H p (.lst (xs.set j v))))\/∃ H4,BJ H p i v H4/\Q H4
 |_=>False
def nH (hu:X.A.units+200<cLine):xa X kZ:=by
 intro Y s U H o i v ov iv u Q I ro ri rv h;unfold kZ at h
 split at h
 .rcases h with⟨xs,k,j,rfl,hp,hj,q⟩|⟨H4,g,q⟩
  .exact set_list Y s U H _ _ v ov iv u Q I ro ri rv ⟨_,xs,k,j,rfl,rfl,hp,hj,q⟩
  .cases ro;exact pF nofun I g ri rv λs4 I4=>⟨H4,I4,q⟩
 .exact h.elim
@[irreducible] noncomputable def yd (K:W.Frag):V->Option Int->Option Int->Hp->VK->Prop:=λx lo hi H Q=>match x with
 | .ref a=>(∃ xs,aK K H a xs/\∀ p,H p=none->Q (.ref p) (upd H p (.lst (dq xs lo hi))))\/False
 | .str z=>False
 |_=>False
def zk:CI X (yd X.K):=by
 intro Y s U H x v vl vu lo hi sl Q I rx hs pl pu h;unfold yd at h
 split at h
 .rcases h with⟨xs,hx,q⟩|h
  .exact uQ Y s U H _ v vl vu lo hi sl Q I rx hs pl pu ⟨_,xs,rfl,hx,q⟩
  .exact h.elim
 .exact h.elim
 .exact h.elim
end
end L2
namespace L3
open PySem L2
set_option genSizeOf false
inductive Bf where
 |len|list|tuple|int|str|min|max|abs|all|any|dict|sum
 deriving DecidableEq
inductive Lm where
 |append|extend|insert|pop|clear|reverse|count
 deriving DecidableEq
inductive Sm where
 |join|split|starts
 deriving DecidableEq
inductive Cl where
 |own (c:Nat)|ty (n:String)
mutual
inductive Ex where
 |v (i:Nat)|int (i:Int)|bl (b:Bool)|non|str (x:Str)|gl (x:Str)
 |bin (op:Operator) (a b:Ex)|neg (a:Ex)|not (a:Ex)|and (a b:Ex)|or (a b:Ex)
 |cmp (op:CmpOp) (a b:Ex)|cmp2 (o1 o2:CmpOp) (a b c:Ex)|cmp3 (o1 o2 o3:CmpOp) (a b c d:Ex)
 |ife (c:Tx) (a b:Ex)|tup (es:d5)|lst (es:d5)|ix (a i:Ex)|sl (a:Ex) (lo hi:Cy)
 |fld (a:Ex) (f:Str)|call (f:Nat) (es:d5)|meth (a:Ex) (m:Str) (es:d5)|lm (m:Lm) (a:Ex) (es:d5)|make (c:Nat) (es:d5)|bini (es:d5)|cini (c:Nat) (es:d5)
 |bf (b:Bf) (es:d5)|sm (m:Sm) (a b:Ex)|isi (a:Ex) (c:Cl)|lc (elt:Ex) (sel:List Nat) (it:xJ)|lci (elt:Ex) (c:Tx) (sel:List Nat) (it:xJ)|lct (elt:Ex) (n:Nat) (sel:List Nat) (it:xJ)|lcu (elt:Ex) (c:Tx) (n:Nat) (sel:List Nat) (it:xJ)|dnew|up (a:Ex)|dzip (a b:Ex)|isiT (a:Ex) (cs:List Nat)|vals (tp:Bool) (a:Ex)|mk0 (c:Nat)|disp (ks:List Str) (es:d5)|lix (a b:Ex)|rev (a b:Ex)|dget (a k d:Ex)
inductive Tx where
 |not (a:Tx)|and (a b:Tx)|or (a b:Tx)|cmp (op:CmpOp) (a b:Ex)|cmp2 (o1 o2:CmpOp) (a b c:Ex)|val (e:Ex)
inductive d5 where
 |nil|cons (e:Ex) (es:d5)
inductive Cy where
 |no|yes (e:Ex)
inductive xJ where
 |rng1 (a:Ex)|rng2 (a b:Ex)|rng3 (a b c:Ex)|enm (a:Ex)|enf (a:Ex)|seq (a:Ex)|zip (a b:Ex)|zip3 (a b c:Ex)
end
inductive CB where
 |nm (i:Nat)|tp (is:List Nat)|nt (i:Nat) (is:List Nat)
mutual
inductive Sx where
 |asg (i:Nat) (e:Ex)|asgT (is:List Nat) (e:Ex)|par (is:List Nat) (es:d5)|sub (o i v:Ex)|fld (o:Ex) (f:Str) (v:Ex)
 |aug (i:Nat) (op:Operator) (e:Ex)|augS (o i:Ex) (op:Operator) (e:Ex)
 |ret (e:Ex)|retN|pass|brk|cont|expr (e:Ex)
 |ife (c:Tx) (a b:ie)|whl (c:Tx) (b:ie)|for (t:CB) (it:xJ) (b:ie)|rais (e:Ex)|tryx (b:ie) (hs:uH)
inductive ie where
 |nil|cons (s:Sx) (r:ie)
inductive uH where
 |nil|cons (c:Nat) (i:Nat) (b:ie) (hs:uH)
end
structure aA where
 ps:List Str
 N:List Str
 dfl:List V
 body:ie
/-- what of the text never changes. gfn,gcl:the global names of defs and classes,by number;gbl:built-in names that are not shadowed;gbi:classes of exceptions whose __init__ is the built-in one;na:class and name that no class of it has;
  me:class,name,def;ini:class,its __init__;oc,xc:plain classes,classes of exceptions;sub,subT:isinstance -/
structure Tab where
 fns:List aA
 gfn:List (Str×Nat)
 gcl:List (Str×Nat)
 gbl:List Str
 gbi:List Str
 na:List (Nat×Str)
 me:List ((Nat×Str)×Nat)
 ini:List (Nat×Nat)
 ini0:List Nat
 inip:List Nat
 oc:List Nat
 xc:List Nat
 sub:List ((Nat×Nat)×Bool)
 subT:List ((Nat×String)×Bool)
 subB:List ((String×String)×Bool)
 subO:List ((String×Nat)×Bool)
 cin:List (Nat×Nat):=[]
structure Rt where
 K:W.Frag
 fad:Nat->Addr
 cad:Nat->Addr
 gl:Str->Option V
structure Gx where
 T:Tab
 R:Rt
 Ψ:Nat->Sp
 cm:Bool
@[irreducible] noncomputable def gb (c:Bool) (A B:Prop):Prop:=match c with
 |true=>A
 |false=>B
def c5 (c:Bool)(A B:Prop):gb c A B=(if c=true then A else B):=by unfold gb;cases c<;>rfl
abbrev yN (K:W.Frag)(x:V)(H:Hp)(Q:Bool->Hp->Prop):Prop:=match x with
 | .bl k=>Q k H
 |y=>∃ k,wN K y H k/\Q k H
abbrev tyName:V->Hp->Option String
 | .non,_=>some "NoneType"
 | .bl _,_=>some "bool"
 | .int _,_=>some "int"
 | .str _,_=>some "str"
 | .ref a,H=>match H a with
  |some (.lst _)=>some "list"
  |some (.tup _)=>some "tuple"
  |some (.dK _)=>some "dict"
  |some (.fZ _ (.dK _))=>some "dict"
  |_=>none
 |_,_=>none
@[irreducible] noncomputable def kD (G:Gx) (b:Bf) (vs:List V) (H:Hp) (Q:VK):Prop:=match b with
 | .len=>∃ x n,vs=[x]/\BQ G.R.K x H n/\Q (.int n) H
 | .list=>(∃ p ys,vs=[.ref p]/\(aK G.R.K H p ys\/bp G.R.K H p ys)/\∀ l,H l=none->Q (.ref l) (upd H l (.lst ys)))\/(G.cm=true/\∃ p kvs,vs=[.ref p]/\Rd H p (.dK kvs)/\∀ l,H l=none->Q (.ref l) (upd H l (.lst (kvs.map (λkv=>kV kv.1)))))
 | .tuple=>∃ p ys,vs=[.ref p]/\((aK G.R.K H p ys/\∀ l,H l=none->Q (.ref l) (upd H l (.tup ys)))\/(bp G.R.K H p ys/\Q (.ref p) H))
 | .int=>False
 | .str=>(∃ i,vs=[.int i]/\i.natAbs.log2<1920/\Q (.str (toString i)) H)\/∃ z,vs=[.str z]/\Q (.str z) H
 | .min=>G.cm=true/\((∃ i j,vs=[.int i,.int j]/\Q (.int (if j<i then j else i)) H)\/∃ p,∃ (ns:List Int) (m:Int),vs=[.ref p]/\aK G.R.K H p (ns.map V.int)/\m ∈ ns/\(∀ a ∈ ns,m<=a)/\Q (.int m) H)
 | .max=>False
 | .abs=>False
 | .all=>G.cm=true/\∃ p,∃ bs:List Bool,vs=[.ref p]/\aK G.R.K H p (bs.map V.bl)/\Q (.bl (bs.all id)) H
 | .any=>False
 | .dict=>∃ p kvs,vs=[.ref p]/\H p=some (.dK kvs)/\∀ l,H l=none->Q (.ref l) (upd H l (.dK kvs))
 | .sum=>G.cm=true/\∃ p,∃ ns:List Int,vs=[.ref p]/\aK G.R.K H p (ns.map V.int)/\Q (.int ns.sum) H
@[irreducible] noncomputable def yP (m:Lm) (p:Addr) (xs:List V) (vs:List V) (H:Hp) (Q:VK):Prop:=match m with
 | .append=>False
 | .extend=>∃ b zs,vs=[.ref b]/\H b=some (.lst zs)/\xs.length+zs.length<=10000/\Q .non (upd H p (.lst (xs++zs)))
 | .insert=>∃ i y,vs=[.int i,y]/\0<=i/\i<=xs.length/\xs.length<=10000/\Q .non (upd H p (.lst (xs.take i.toNat++y::xs.drop i.toNat)))
 | .pop=>False
 | .clear=>False
 | .reverse=>False
 | .count=>False
abbrev dflt (G:Gx)(f n:Nat):List V:=match G.T.fns[f]? with
 |some d=>d.dfl.drop (n+d.dfl.length-d.ps.length)
 |none=>[]
abbrev d5.len:d5->Nat
 | .nil=>0
 | .cons _ es=>es.len+1
abbrev pe (G:Gx)(H:Hp)(a:Addr)(i:Nat):Prop:=(G.T.oc.contains i=true/\∃ dx fs,H a=some (.ins (G.R.cad i) dx fs))\/(G.T.xc.contains i=true/\∃ dx fs fr,H a=some (.exc (G.R.cad i) dx fs fr))
@[irreducible] noncomputable def eZ (G:Gx) (c:Cl) (x:V) (H:Hp) (Q:VK):Prop:=match c with
 | .ty n=>(∃ t b,tyName x H=some t/\G.T.subB.lookup (t,n)=some b/\Q (.bl b) H)\/∃ a i b,x=.ref a/\pe G H a i/\G.T.subT.lookup (i,n)=some b/\Q (.bl b) H
 | .own j=>(∃ t b,tyName x H=some t/\G.T.subO.lookup (t,j)=some b/\Q (.bl b) H)\/∃ a i b,x=.ref a/\pe G H a i/\G.T.sub.lookup (i,j)=some b/\Q (.bl b) H
abbrev anyS (G:Gx)(i:Nat):List Nat->Option Bool
 | []=>some false
 |c::r=>match G.T.sub.lookup (i,c) with
  |some true=>some true
  |some false=>anyS G i r
  |none=>none
abbrev wU (G:Gx)(t:String):List Nat->Option Bool
 | []=>some false
 |c::r=>match G.T.subO.lookup (t,c) with
  |some true=>some true
  |some false=>wU G t r
  |none=>none
@[irreducible] noncomputable def kc (G:Gx) (cs:List Nat) (x:V) (H:Hp) (Q:VK):Prop:=(∃ t b,tyName x H=some t/\wU G t cs=some b/\Q (.bl b) H)\/∃ a i b,x=.ref a/\pe G H a i/\anyS G i cs=some b/\Q (.bl b) H
@[irreducible] noncomputable def lN (G:Gx) (f:Str) (x:V) (H:Hp) (Q:VK):Prop:=∃ a i fs v,x=.ref a/\((G.T.oc.contains i=true/\∃ dx,H a=some (.ins (G.R.cad i) dx fs))\/(G.T.xc.contains i=true/\∃ dx fr,H a=some (.exc (G.R.cad i) (some dx) fs fr)))/\
 G.T.na.contains (i,f)=true/\fs.lookup f=some v/\Q v H
@[irreducible] noncomputable def zJ (G:Gx) (f:Str) (x y:V) (H:Hp) (Q:Hp->Prop):Prop:=∃ a i,x=.ref a/\G.T.na.contains (i,f)=true/\
 ((∃ dx fs,G.T.oc.contains i=true/\H a=some (.ins (G.R.cad i) dx fs)/\fs.length<1000/\Q (upd H a (.ins (G.R.cad i) dx (bT f y fs))))\/
  (∃ d fs fr,G.T.xc.contains i=true/\H a=some (.exc (G.R.cad i) (some d) fs fr)/\fs.length<1000/\Q (upd H a (.exc (G.R.cad i) (some d) (bT f y fs) fr)))\/
  (∃ fr,G.T.xc.contains i=true/\H a=some (.exc (G.R.cad i) none [] fr)/\∀ d,H d=none->Q (upd (upd H d (.own a)) a (.exc (G.R.cad i) (some d) [(f,y)] fr))))
abbrev Dr (op:Operator)(x y:V)(H:Hp)(Q:VK):Prop:=match op,x,y with
 | .Add,.int i,.int j=>Q (.int (i+j)) H
 | .Sub,.int i,.int j=>Q (.int (i-j)) H
 |_,_,_=>False
@[irreducible] noncomputable def t6 (K:W.Frag) (x y:V) (H:Hp) (Q:VK):Prop:=match x,y with
 | .ref p,.int i=>∃ xs v,aK K H p xs/\0<=i/\xs[i.toNat]? =some v/\Q v H
 |_,_=>False
abbrev vy (U:St):List Nat->List V->St
 |i::is,x::xs=>vy (U.set i (some x)) is xs
 |_,_=>U
@[irreducible] noncomputable def vW (xs:List V) (H:Hp) (Q:VK):Prop:=xs.length<=10000/\∀ p,H p=none->Q (.ref p) (upd H p (.lst xs))
@[irreducible] noncomputable def dZ (xs:List V) (H:Hp) (Q:VK):Prop:=xs.length<=10000/\∀ p,H p=none->Q (.ref p) (upd H p (.tup xs))
@[irreducible] noncomputable def newD (H:Hp) (Q:VK):Prop:=∀ p,H p=none->Q (.ref p) (upd H p (.dK []))
@[irreducible] noncomputable def vO (l:Addr) (H:Hp) (R:It->Hp->Prop):Prop:=(∃ xs,H l=some (.lst xs))/\R (BH l) H
@[irreducible] noncomputable def rm (K:W.Frag) (p:Addr) (H:Hp) (R:It->Hp->Prop):Prop:=((∃ xs,aK K H p xs)/\R (yb K p) H)\/((∃ xs,bp K H p xs)/\R (C6 K p) H)\/False
@[irreducible] noncomputable def vd (K:W.Frag) (x y:V) (H:Hp) (R:It->Hp->Prop):Prop:=Ce K x y H R
@[irreducible] noncomputable def ud (C:Addr) (H:Hp) (Q:VK):Prop:=∀ x dx,H x=none->H dx=none->dx≠x->Q (.ref x) (upd (upd H dx (.own x)) x (.ins C dx []))
@[irreducible] noncomputable def BK (K:W.Frag) (x y:V) (H:Hp) (Q:VK):Prop:=Eb K x y H Q
@[irreducible] noncomputable def t8 (te:TE) (J:It) (σ₀:St) (H1:Hp) (Q:VK):Prop:=LC te J σ₀ H1 Q
def rH: @t8= @LC:=by
 funext te J U H Q
 unfold t8
 rfl
@[irreducible] noncomputable def DN (tc:TT) (te:TE) (J:It) (σ₀:St) (H1:Hp) (Q:VK):Prop:=LCg (d7 0) tc te J σ₀ H1 Q
def y8: @DN= @LCg (d7 0):=by
 funext tc te J U H Q
 unfold DN
 rfl
abbrev gl (is:List Nat):vX:=λvs U H Q=>vs.length=is.length/\Q (vy U is vs) H
@[irreducible] noncomputable def LCt (K:W.Frag) (n:Nat) (te:TE) (J:It) (σ₀:St) (H1:Hp) (Q:VK):Prop:=LCg (uR K n (gl (List.range n))) yes te J σ₀ H1 Q
def sD {K:W.Frag}{n:Nat}:LCt K n=LCg (uR K n (gl (List.range n))) yes:=by
 funext te J U H Q
 unfold LCt
 rfl
mutual
noncomputable def wE (G:Gx):Ex->St->Hp->VK->XK->Prop
 | .v i,U,H,Q,_=>match U[i]? with
  |some (some x)=>Q x H
  |_=>False
 | .int i,_,H,Q,_=>Q (.int i) H
 | .bl b,_,H,Q,_=>Q (.bl b) H
 | .non,_,H,Q,_=>Q .non H
 | .str x,_,H,Q,_=>Q (.str x) H
 | .gl x,_,H,Q,_=>match G.R.gl x with
  |some v=>Q v H
  |none=>False
 | .bin op a b,U,H,Q,E=>wE G a U H (λx H1=>wE G b U H1 (λy H2=>vR G.R.K op x y H2 Q) E) E
 | .neg a,U,H,Q,E=>wE G a U H (λx H1=>match x with| .int i=>Q (.int (-i)) H1|_=>False) E
 | .not a,U,H,Q,E=>wE G a U H (λx H1=>match x with| .bl c=>Q (.bl (!c)) H1|_=>False) E
 | .and a b,U,H,Q,E=>wE G a U H (λx H1=>match x with| .bl c=>gb c (wE G b U H1 Q E) (Q (.bl false) H1)|_=>False) E
 | .or a b,U,H,Q,E=>wE G a U H (λx H1=>match x with| .bl c=>gb c (Q (.bl true) H1) (wE G b U H1 Q E)|_=>False) E
 | .cmp op a b,U,H,Q,E=>wE G a U H (λx H1=>wE G b U H1 (λy H2=>j7 G.R.K op x y H2 Q) E) E
 | .cmp2 o1 o2 a b c,U,H,Q,E=>wE G a U H (λx H1=>wE G b U H1 (λy H2=>j7 G.R.K o1 x y H2 λz H3=>match z with| .bl k=>gb k (wE G c U H3 (λw H4=>j7 G.R.K o2 y w H4 Q) E) (Q (.bl false) H3)|_=>False) E) E
 | .cmp3 o1 o2 o3 a b c d,U,H,Q,E=>False
 | .ife c a b,U,H,Q,E=>wT G c U H (λk H1=>gb k (wE G a U H1 Q E) (wE G b U H1 Q E)) E
 | .tup es,U,H,Q,E=>wEs G es U H (λxs H1=>dZ xs H1 Q) E
 | .lst es,U,H,Q,E=>wEs G es U H (λxs H1=>vW xs H1 Q) E
 | .ix a i,U,H,Q,E=>wE G a U H (λx H1=>wE G i U H1 (λy H2=>ya G.R.K x y H2 Q) E) E
 | .sl a lo hi,U,H,Q,E=>wE G a U H (λx H1=>wO G lo U H1 (λl H2=>wO G hi U H2 (λu H3=>yd G.R.K x l u H3 Q) E) E) E
 | .fld a f,U,H,Q,E=>wE G a U H (λx H1=>lN G f x H1 Q) E
 | .call f es,U,H,Q,E=>G.cm=true/\wEs G es U H (λvs H1=>G.Ψ f (vs++dflt G f es.len) H1 Q E) E
 | .meth a m es,U,H,Q,E=>G.cm=true/\wE G a U H (λx H1=>∃ p i dx fs f,x=.ref p/\H1 p=some (.ins (G.R.cad i) dx fs)/\fs.lookup m=none/\G.T.me.lookup (i,m)=some f/\
   wEs G es U H1 (λvs H2=>G.Ψ f (x::(vs++dflt G f (es.len+1))) H2 Q E) E) E
 | .lm m a es,U,H,Q,E=>wE G a U H (λx H1=>∃ p xs0,x=.ref p/\H1 p=some (.lst xs0)/\wEs G es U H1 (λvs H2=>∃ xs,H2 p=some (.lst xs)/\yP m p xs vs H2 Q) E) E
 | .make c es,U,H,Q,E=>G.cm=true/\match G.T.ini.lookup c with
  |none=>G.T.ini0.contains c=true/\wEs G es U H (λvs H1=>vs.length=1/\∀ x,H1 x=none->Q (.ref x) (upd H1 x (.exc (G.R.cad c) none [] true))) E
  |some f=>if G.T.xc.contains c=true then wEs G es U H (λvs H1=>vs.length<=1000/\∀ x,H1 x=none->G.Ψ f (.ref x::(vs++dflt G f (es.len+1))) (upd H1 x (.exc (G.R.cad c) none [] true)) (λv H2=>v=.non/\Q (.ref x) H2) E) E
   else wEs G es U H (λvs H1=>∀ x dx,H1 x=none->H1 dx=none->dx≠x->G.Ψ f (.ref x::(vs++dflt G f (es.len+1))) (upd (upd H1 dx (.own x)) x (.ins (G.R.cad c) dx [])) (λv H2=>v=.non/\Q (.ref x) H2) E) E
 | .bini es,U,H,Q,E=>wEs G es U H (λvs H1=>∃ a i dx fs fr v,vs=[.ref a,v]/\H1 a=some (.exc (G.R.cad i) dx fs fr)/\G.T.xc.contains i=true/\Q .non H1) E
 | .cini c es,U,H,Q,E=>G.cm=true/\match G.T.cin.lookup c with
  |some f=>wEs G es U H (λvs H1=>G.Ψ f (vs++dflt G f es.len) H1 Q E) E
  |none=>False
 | .bf b es,U,H,Q,E=>wEs G es U H (λvs H1=>kD G b vs H1 Q) E
 | .isi a c,U,H,Q,E=>wE G a U H (λx H1=>eZ G c x H1 Q) E
 | .lc elt sel it,U,H,Q,E=>G.cm=true/\wI G it U H (λJ H1=>t8 (λσ' H' Q'=>wE G elt σ' H' Q' (λ_ _=>False)) J (none::eY U sel) H1 Q) E
 | .lci elt c sel it,U,H,Q,E=>False
 | .lct elt n sel it,U,H,Q,E=>G.cm=true/\wI G it U H (λJ H1=>LCt G.R.K n (λσ' H' Q'=>wE G elt σ' H' Q' (λ_ _=>False)) J (re n none++eY U sel) H1 Q) E
 | .lcu elt c n sel it,U,H,Q,E=>False
 | .dnew,_,H,Q,_=>newD H Q
 | .sm m a b,U,H,Q,E=>False
 | .up a,U,H,Q,E=>False
 | .isiT a cs,U,H,Q,E=>wE G a U H (λx H1=>∀ p,H1 p=none->kc G cs x (upd H1 p (.tup (cs.map λc=>.ref (G.R.cad c)))) Q) E
 | .mk0 c,_,H,Q,_=>ud (G.R.cad c) H Q
 | .disp ks es,U,H,Q,E=>False
 | .dget a k d,U,H,Q,E=>False
 | .rev a b,U,H,Q,E=>False
 | .lix a b,U,H,Q,E=>False
 | .vals tp a,U,H,Q,E=>False
 | .dzip a b,U,H,Q,E=>G.cm=true/\wE G a U H (λx H1=>wE G b U H1 (λy H2=>BK G.R.K x y H2 Q) E) E
noncomputable def wT (G:Gx):Tx->St->Hp->(Bool->Hp->Prop)->XK->Prop
 | .not a,U,H,Q,E=>wT G a U H (λc H1=>Q (!c) H1) E
 | .and a b,U,H,Q,E=>wT G a U H (λc H1=>gb c (wT G b U H1 Q E) (Q false H1)) E
 | .or a b,U,H,Q,E=>wT G a U H (λc H1=>gb c (Q true H1) (wT G b U H1 Q E)) E
 | .cmp op a b,U,H,Q,E=>wE G a U H (λx H1=>wE G b U H1 (λy H2=>j7 G.R.K op x y H2 λz H3=>match z with| .bl k=>Q k H3|_=>False) E) E
 | .cmp2 o1 o2 a b c,U,H,Q,E=>wE G a U H (λx H1=>wE G b U H1 (λy H2=>j7 G.R.K o1 x y H2 λz H3=>match z with| .bl k=>gb k (wE G c U H3 (λw H4=>j7 G.R.K o2 y w H4 λz H5=>match z with| .bl k=>Q k H5|_=>False) E) (Q false H3)|_=>False) E) E
 | .val e,U,H,Q,E=>wE G e U H (λx H1=>yN G.R.K x H1 Q) E
noncomputable def wEs (G:Gx):d5->St->Hp->(List V->Hp->Prop)->XK->Prop
 | .nil,_,H,Q,_=>Q [] H
 | .cons e es,U,H,Q,E=>wE G e U H (λx H1=>wEs G es U H1 (λxs H2=>Q (x::xs) H2) E) E
noncomputable def wO (G:Gx):Cy->St->Hp->(Option Int->Hp->Prop)->XK->Prop
 | .no,_,H,Q,_=>Q none H
 | .yes e,U,H,Q,E=>wE G e U H (λx H1=>match x with| .int i=>Q (some i) H1|_=>False) E
noncomputable def wI (G:Gx):xJ->St->Hp->(It->Hp->Prop)->XK->Prop
 | .rng1 a,U,H,R,E=>wE G a U H (λx H1=>match x with| .int j=>-(2 ^ 62)<=j/\j<2 ^ 62/\R (AN 0 j.toNat) H1|_=>False) E
 | .rng2 a b,U,H,R,E=>False
 | .rng3 a b c,U,H,R,E=>False
 | .enm a,U,H,R,E=>wE G a U H (λx H1=>match x with| .ref l=>vO l H1 R|_=>False) E
 | .enf a,U,H,R,E=>False
 | .seq a,U,H,R,E=>wE G a U H (λx H1=>match x with| .ref p=>rm G.R.K p H1 R| .str z=>R (yC z) H1|_=>False) E
 | .zip a b,U,H,R,E=>wE G a U H (λx H1=>wE G b U H1 (λy H2=>vd G.R.K x y H2 R) E) E
 | .zip3 a b c,U,H,R,E=>False
end
abbrev C0 (D:Ends)(f:St->Hp->Prop):Ends:={ D with nx:=f }
abbrev Cd (D:Ends)(N:St->Hp->Prop):Ends:={ D with nx:=N,ct:=N,bk:=D.nx }
abbrev EH (D:Ends)(i:Nat):Ends:={ nx:=λσ' H'=>D.nx (σ'.set i none) H',rt:=D.rt,bk:=λσ' H'=>D.bk (σ'.set i none) H',ct:=λσ' H'=>D.ct (σ'.set i none) H' }
abbrev wG (U:St)(t:CB)(K:W.Frag)(x:V)(H:Hp)(Q:St->Prop):Prop:=match t with
 | .nm i=>Q (U.set i (some x))
 | .tp is=>∃ a xs,x=.ref a/\(bp K H a xs\/aK K H a xs)/\xs.length=is.length/\Q (vy U is xs)
 | .nt i is=>∃ a y b ys,x=.ref a/\bp K H a [y,.ref b]/\bp K H b ys/\ys.length=is.length/\Q (vy (U.set i (some y)) is ys)
@[irreducible] noncomputable def hX (J:It) (D:Ends) (F:(St->Hp->Prop)->V->St->Hp->Prop) (U:St) (H1:Hp):Prop:=∃ W:Nat->Nat->St->Hp->Prop,(∃ m,W 0 m U H1)/\∀ i m U H,W i m U H->
 (J.stop i H/\D.nx U H)\/(J.go i H/\∃ N:St->Hp->Prop,(∀ σ' H',N σ' H'->∃ m',m'<m/\W (i+1) m' σ' H')/\∀ x H',J.yld i H x H'->F N x U H')
mutual
noncomputable def wS:Sx->Gx->Ends->(St->XK)->St->Hp->Prop
 | .asg i e,G,D,E,U,H=>wE G e U H (λx H1=>D.nx (U.set i (some x)) H1) (E U)
 | .asgT is e,G,D,E,U,H=>False
 | .par is es,G,D,E,U,H=>False
 | .sub o i v,G,D,E,U,H=>wE G v U H (λy H1=>wE G o U H1 (λov H2=>wE G i U H2 (λiv H3=>kZ ov iv y H3 (λH4=>D.nx U H4)) (E U)) (E U)) (E U)
 | .fld o f v,G,D,E,U,H=>wE G v U H (λy H1=>wE G o U H1 (λx H2=>zJ G f x y H2 (λH3=>D.nx U H3)) (E U)) (E U)
 | .aug i op e,G,D,E,U,H=>False
 | .augS o i op e,G,D,E,U,H=>wE G o U H (λov H1=>wE G i U H1 (λiv H2=>t6 G.R.K ov iv H2 (λx H3=>wE G e U H3 (λy H4=>Dr op x y H4 (λz H5=>kZ ov iv z H5 (λH6=>D.nx U H6))) (E U))) (E U)) (E U)
 | .ret e,G,D,E,U,H=>wE G e U H D.rt (E U)
 | .retN,_,D,_,_,H=>False
 | .pass,_,D,_,U,H=>False
 | .brk,_,D,_,U,H=>False
 | .cont,_,D,_,U,H=>False
 | .expr e,G,D,E,U,H=>wE G e U H (λ_ H1=>D.nx U H1) (E U)
 | .ife c a b,G,D,E,U,H=>wT G c U H (λk H1=>gb k (wB a G D E U H1) (wB b G D E U H1)) (E U)
 | .whl c b,G,D,E,U,H=>False
 | .for t it b,G,D,E,U,H=>G.cm=true/\wI G it U H (λJ H1=>hX J D (λN x U H'=>wG U t G.R.K x H' λσ2=>wB b G (Cd D N) E σ2 H') U H1) (E U)
 | .rais e,G,_,E,U,H=>G.cm=true/\wE G e U H (λv H1=>∃ a i dx fs,v=.ref a/\H1 a=some (.exc (G.R.cad i) dx fs true)/\G.T.xc.contains i=true/\E U a (upd H1 a (.exc (G.R.cad i) dx fs false))) (E U)
 | .tryx b hs,G,D,_,U,H=>G.cm=true/\wB b G D (λσ' e H'=>wH hs G D σ' e H') U H
noncomputable def wB:ie->Gx->Ends->(St->XK)->St->Hp->Prop
 | .nil,_,D,_,U,H=>D.nx U H
 | .cons s r,G,D,E,U,H=>wS s G (C0 D λσ1 H1=>wB r G D E σ1 H1) E U H
noncomputable def wH:uH->Gx->Ends->St->Addr->Hp->Prop
 | .nil,_,_,_,_,_=>False
 | .cons c i b hs,G,D,U,e,H=>∃ j dx fs k,H e=some (.exc (G.R.cad j) dx fs false)/\G.T.xc.contains j=true/\G.T.sub.lookup (j,c)=some k/\
   gb k (wB b { G with cm:=false } (EH D i) (λ_ _ _=>False) (U.set i (some (.ref e))) H)
    (wH hs G D U e H)
end
end L3
namespace L3
open PySem PySem.Spec L2 PyProof.Rows
structure Sn where
 T:Tab
 sc:Scope
 N:List Str
abbrev Sn.iT (S:Sn)(x:Str):Bool:=decide (S.sc.names.lookup x=some .globalImplicit)&& !(x ==("__debug__":Str))
abbrev Sn.BA (S:Sn)(x:Str):Bool:=(decide (S.sc.names.lookup x=some .local)||decide (S.sc.names.lookup x=some .cell)||decide (S.sc.names.lookup x=some .free))&& !(x ==("__debug__":Str))&& !(x ==("__classdict__":Str))
abbrev Sn.loc (S:Sn)(i:Nat)(x:Str):Bool:=decide (S.N[i]? =some x)&&(decide (S.sc.names.lookup x=some .local)||decide (S.sc.names.lookup x=some .cell))
abbrev nr:Expr->Bool
 | .ListComp .. | .SetComp .. | .DictComp ..=>false
 |_=>true
abbrev cb:Expr->Bool
 | .Set ..=>false
 |_=>true
abbrev dg:Expr->Bool
 | .Slice ..=>false
 |_=>true
abbrev eo:Expr->Bool
 | .Call (.Name _ _) [] [] _=>false
 |_=>true
abbrev plainT:Expr->Bool
 | .UnaryOp .Not _ _| .BoolOp .. | .IfExp .. | .Compare ..=>false
 |_=>true
abbrev sF:Bf->String
 | .len=>"len"| .list=>"list"| .tuple=>"tuple"| .int=>"int"| .str=>"str"| .min=>"min"| .max=>"max"| .abs=>"abs"| .all=>"all"| .any=>"any"| .dict=>"dict"| .sum=>"sum"
abbrev rQ:Lm->String
 | .append=>"append"| .extend=>"extend"| .insert=>"insert"| .pop=>"pop"| .clear=>"clear"| .reverse=>"reverse"| .count=>"count"
abbrev gk:List String:=["int","bool","str","list","tuple","dict","ValueError"]
abbrev wz (S:Sn):Cl->Expr->Bool
 | .own c,.Name x _=>S.iT x&&decide (S.T.gcl.lookup x=some c)
 | .ty n,.Name x _=>S.iT x&&decide (x=(n:Str))&&S.T.gbl.contains x&&gk.contains n
 |_,_=>false
abbrev nS (S:Sn):List Nat->List Expr->Bool
 | [],[]=>true
 |c::cs,.Name x _::es=>S.iT x&&decide (S.T.gcl.lookup x=some c)&&nS S cs es
 |_,_=>false
abbrev cF (outer inner:Scope):Scope:=
 { inner with names:=inner.names.map λ(n,k)=>if(k ==.free&&outer.kind ==.function&&outer.names.lookup n ==some .cell) then(n,.cell) else(n,k) }
abbrev dQ (S:Sn)(scope:Scope)(xs:List Str)(sel:List Nat):Bool:=
 decide (scope.kind=.function)&&decide (S.sc.kind=.function)&&scope.names.all (λy=>y.2 != .cell&&(y.2 != .local||decide (scope.names.lookup y.1=some .local))&&(y.2 != .free||(decide (S.sc.names.lookup y.1=some .cell))))&&xs.all (λx=>decide (scope.names.lookup x=some .local))&&
 sel.all (λi=>match S.N[i]? with|some y=>decide (S.sc.names.lookup y=some .cell)&&decide ((cF S.sc scope).names.lookup y=some .cell)|none=>false)&&decide ((xs++sel.filterMap λi=>S.N[i]?).Nodup)
abbrev vm:List Expr->List Str
 | .Name x _::r=>x::vm r
 |_=>[]
abbrev qJ (S:Sn):List Nat->List Expr->Bool
 | [],[]=>true
 |i::is,.Name x _::r=>decide (S.N[i]? =some x)&&decide (S.sc.names.lookup x=some .local)&&qJ S is r
 |_,_=>false
abbrev qC:List Str->List (Option Expr)->Bool
 | [],[]=>true
 |k::ks,some (.Constant (.str x) _ _)::r=>decide (k=x)&&qC ks r
 |_,_=>false
mutual
noncomputable def mE (S:Sn):Ex->Expr->Bool
 | .v i,e=>match e with| .Name x _=>decide (S.N[i]? =some x)&&S.BA x|_=>false
 | .int i,e=>match e with| .Constant y1 _ _=>(match y1 with| .int j=>decide (i=j)|_=>false)|_=>false
 | .bl i,e=>match e with| .Constant y1 _ _=>(match y1 with| .bool j=>decide (i=j)|_=>false)|_=>false
 | .non,e=>match e with| .Constant y1 _ _=>(match y1 with| .none=>true|_=>false)|_=>false
 | .str i,e=>match e with| .Constant y1 _ _=>(match y1 with| .str j=>decide (i=j)|_=>false)|_=>false
 | .gl x,e=>match e with| .Name y _=>decide (x=y)&&S.iT y|_=>false
 | .bin op a b,e=>match e with| .BinOp a' op' b' _=>decide (op=op')&&mE S a a'&&mE S b b'|_=>false
 | .neg a,e=>match e with| .UnaryOp y1 a' _=>(match y1 with| .USub=>mE S a a'|_=>false)|_=>false
 | .not a,e=>match e with| .UnaryOp y1 a' _=>(match y1 with| .Not=>mE S a a'|_=>false)|_=>false
 | .and a b,e=>match e with| .BoolOp y1 y2 p=>(match y1 with| .And=>(match y2 with|a'::b'::r=>mE S a a'&&mE S b (match r with| []=>b'|_=>.BoolOp .And (b'::r) p)|_=>false)|_=>false)|_=>false
 | .or a b,e=>match e with| .BoolOp y1 y2 p=>(match y1 with| .Or=>(match y2 with|a'::b'::r=>mE S a a'&&mE S b (match r with| []=>b'|_=>.BoolOp .Or (b'::r) p)|_=>false)|_=>false)|_=>false
 | .cmp op a b,e=>match e with| .Compare a' y1 y2 _=>(match y1 with| [op']=>(match y2 with| [b']=>decide (op=op')&&mE S a a'&&mE S b b'&&cb b'|_=>false)|_=>false)|_=>false
 | .cmp2 o1 o2 a b c,e=>match e with| .Compare a' y1 y2 _=>(match y1 with| [p1,p2]=>(match y2 with| [b',c']=>decide (o1=p1)&&decide (o2=p2)&&mE S a a'&&mE S b b'&&mE S c c'&&cb c'|_=>false)|_=>false)|_=>false
 | .cmp3 o1 o2 o3 a b c d,_=>false
 | .ife c a b,e=>match e with| .IfExp c' a' b' _=>mT S c c'&&mE S a a'&&mE S b b'|_=>false
 | .tup es,e=>match e with| .Tuple es' _ _=>gz S es es'|_=>false
 | .lst es,e=>match e with| .List es' _=>gz S es es'|_=>false
 | .ix a i,e=>match e with| .Subscript a' i' _=>mE S a a'&&mE S i i'&&dg i'|_=>false
 | .sl a lo hi,e=>match e with| .Subscript a' y1 _=>(match y1 with| .Slice lo' hi' y2 _=>(match y2 with|none=>mE S a a'&&mO S lo lo'&&mO S hi hi'|_=>false)|_=>false)|_=>false
 | .fld a f,e=>match e with| .Attribute a' f' _=>mE S a a'&&decide (f=f')&&eo a'|_=>false
 | .call f es,e=>match e with| .Call y1 es' y2 _=>(match y1 with| .Name x _=>(match y2 with| []=>S.iT x&&decide (S.T.gfn.lookup x=some f)&&gz S es es'|_=>false)|_=>false)|_=>false
 | .meth a m es,e=>match e with| .Call y1 es' y2 q=>(match y1 with| .Attribute a' m' p=>(match y2 with| []=>mE S a a'&&decide (m=m')&&gz S es es'&&eo a'&&(p.endLine ==q.line)&&decide (es.len<20)|_=>false)|_=>false)|_=>false
 | .dget a k d,_=>false
 | .rev a b,_=>false
 | .lix a b,_=>false
 | .lm m a es,e=>match e with| .Call y1 es' y2 q=>(match y1 with| .Attribute a' m' p=>(match y2 with| []=>mE S a a'&&decide (m'=(rQ m:Str))&&gz S es es'&&eo a'&&(p.endLine ==q.line)&&decide (es.len<20)|_=>false)|_=>false)|_=>false
 | .make c es,e=>match e with| .Call y1 es' y2 _=>(match y1 with| .Name x _=>(match y2 with| []=>S.iT x&&decide (S.T.gcl.lookup x=some c)&&gz S es es'|_=>false)|_=>false)|_=>false
 | .bini es,e=>match e with| .Call y1 es' y2 q=>(match y1 with| .Attribute y3 m p=>(match y3 with| .Name x _=>(match y2 with| []=>S.iT x&&decide (m=("__init__":Str))&&S.T.gbi.contains x&&gz S es es'&&decide (es.len=2)&&(p.endLine ==q.line)|_=>false)|_=>false)|_=>false)|_=>false
 | .cini c es,e=>match e with| .Call y1 es' y2 q=>(match y1 with| .Attribute y3 m p=>(match y3 with| .Name x _=>(match y2 with| []=>S.iT x&&decide (S.T.gcl.lookup x=some c)&&decide (m=("__init__":Str))&&gz S es es'&&decide (es.len<20)&&decide (0<es.len)&&(p.endLine ==q.line)|_=>false)|_=>false)|_=>false)|_=>false
 | .bf b es,e=>match e with| .Call y1 es' y2 _=>(match y1 with| .Name x _=>(match y2 with| []=>S.iT x&&decide (x=(sF b:Str))&&S.T.gbl.contains x&&gz S es es'&&decide (0<es.len)|_=>false)|_=>false)|_=>false
 | .isi a c,e=>match e with| .Call y1 y2 y3 _=>(match y1 with| .Name x _=>(match y3 with| []=>(match y2 with| [a',c']=>S.iT x&&decide (x=("isinstance":Str))&&S.T.gbl.contains x&&mE S a a'&&wz S c c'|_=>false)|_=>false)|_=>false)|_=>false
 | .lc elt sel it,e=>match e with| .ListComp elt' y1 scope _=>(match y1 with| [y2]=>(match y2 with|⟨y3,iter,y4,y5⟩=>(match y3 with| .Name x px=>(match y4 with| []=>(match y5 with|0=>dQ S scope [x] sel&&mI S it (.Name x px) iter&&mE { S with sc:=cF S.sc scope,N:=x::sel.filterMap λi=>S.N[i]? } elt elt'&&cb iter|_=>false)|_=>false)|_=>false))|_=>false)|_=>false
 | .lci elt c sel it,_=>false
 | .lct elt n sel it,e=>match e with| .ListComp elt' y1 scope _=>(match y1 with| [y2]=>(match y2 with|⟨y3,iter,y4,y5⟩=>(match y3 with| .Tuple ts kt pt=>(match y4 with| []=>(match y5 with|0=>dQ S scope (vm ts) sel&&qJ { S with sc:=cF S.sc scope,N:=vm ts++sel.filterMap λi=>S.N[i]? } (List.range n) ts&&decide ((vm ts).length=n)&&mI S it (.Tuple ts kt pt) iter&&mE { S with sc:=cF S.sc scope,N:=vm ts++sel.filterMap λi=>S.N[i]? } elt elt'&&cb iter|_=>false)|_=>false)|_=>false))|_=>false)|_=>false
 | .lcu elt c n sel it,_=>false
 | .dnew,e=>match e with| .Dict y1 y2 _=>(match y1 with| []=>(match y2 with| []=>true|_=>false)|_=>false)|_=>false
 | .sm m a b,_=>false
 | .up a,_=>false
 | .isiT a cs,e=>match e with| .Call y1 y2 y3 _=>(match y1 with| .Name x _=>(match y3 with| []=>(match y2 with| [a',y4]=>(match y4 with| .Tuple es' _ _=>S.iT x&&decide (x=("isinstance":Str))&&S.T.gbl.contains x&&mE S a a'&&nS S cs es'&&decide (cs.length<=100)|_=>false)|_=>false)|_=>false)|_=>false)|_=>false
 | .mk0 c,e=>match e with| .Call y1 y2 y3 _=>(match y1 with| .Name x _=>(match y2 with| []=>(match y3 with| []=>S.iT x&&decide (S.T.gcl.lookup x=some c)&&S.T.inip.contains c|_=>false)|_=>false)|_=>false)|_=>false
 | .disp ks es,_=>false
 | .vals tp a,_=>false
 | .dzip a b,e=>match e with| .Call y1 y2 y3 _=>(match y1 with| .Name x _=>(match y3 with| []=>(match y2 with| [y4]=>(match y4 with| .Call y5 y6 y7 _=>(match y5 with| .Name y _=>(match y7 with| []=>(match y6 with| [a',b']=>S.iT x&&decide (x=("dict":Str))&&S.T.gbl.contains x&&S.iT y&&decide (y=("zip":Str))&&S.T.gbl.contains y&&mE S a a'&&mE S b b'&&notStar a'&&notStar b'|_=>false)|_=>false)|_=>false)|_=>false)|_=>false)|_=>false)|_=>false)|_=>false
noncomputable def mT (S:Sn):Tx->Expr->Bool
 | .not a,e=>match e with| .UnaryOp y1 a' _=>(match y1 with| .Not=>mT S a a'|_=>false)|_=>false
 | .and a b,e=>match e with| .BoolOp y1 y2 p=>(match y1 with| .And=>(match y2 with|a'::b'::r=>mT S a a'&&mT S b (match r with| []=>b'|_=>.BoolOp .And (b'::r) p)|_=>false)|_=>false)|_=>false
 | .or a b,e=>match e with| .BoolOp y1 y2 p=>(match y1 with| .Or=>(match y2 with|a'::b'::r=>mT S a a'&&mT S b (match r with| []=>b'|_=>.BoolOp .Or (b'::r) p)|_=>false)|_=>false)|_=>false
 | .cmp op a b,e=>match e with| .Compare a' y1 y2 _=>(match y1 with| [op']=>(match y2 with| [b']=>decide (op=op')&&mE S a a'&&mE S b b'&&cb b'|_=>false)|_=>false)|_=>false
 | .cmp2 o1 o2 a b c,e=>match e with| .Compare a' y1 y2 _=>(match y1 with| [p1,p2]=>(match y2 with| [b',c']=>decide (o1=p1)&&decide (o2=p2)&&mE S a a'&&mE S b b'&&mE S c c'&&cb c'|_=>false)|_=>false)|_=>false
 | .val e,e'=>mE S e e'&&plainT e'
noncomputable def gz (S:Sn):d5->List Expr->Bool
 | .nil,es=>es.isEmpty
 | .cons e es,l=>match l with|e'::es'=>mE S e e'&&notStar e'&&gz S es es'| []=>false
noncomputable def mO (S:Sn):Cy->Option Expr->Bool
 | .no,o=>o.isNone
 | .yes e,o=>match o with|some e'=>mE S e e'|none=>false
noncomputable def mI (S:Sn):xJ->Expr->Expr->Bool
 | .rng1 a,_,e=>match e with| .Call y1 y2 y3 _=>(match y1 with| .Name x _=>(match y3 with| []=>(match y2 with| [a']=>S.iT x&&decide (x=("range":Str))&&S.T.gbl.contains x&&mE S a a'&&notStar a'|_=>false)|_=>false)|_=>false)|_=>false
 | .rng2 a b,_,e=>false
 | .rng3 a b c,_,e=>false
 | .enm a,t,e=>match e with| .Call y1 y2 y3 _=>(match y1 with| .Name x _=>(match y3 with| []=>(match y2 with| [a']=>S.iT x&&decide (x=("enumerate":Str))&&S.T.gbl.contains x&&mE S a a'&&notStar a'&&(match t with| .Tuple ..=>true|_=>false)|_=>false)|_=>false)|_=>false)|_=>false
 | .enf a,t,e=>false
 | .seq a,_,e=>mE S a e
 | .zip a b,t,e=>match e with| .Call y1 y2 y3 _=>(match y1 with| .Name x _=>(match y3 with| []=>(match y2 with| [a',b']=>S.iT x&&decide (x=("zip":Str))&&S.T.gbl.contains x&&mE S a a'&&mE S b b'&&notStar a'&&notStar b'&&(match t with| .Tuple ..=>true|_=>false)|_=>false)|_=>false)|_=>false)|_=>false
 | .zip3 a b c,t,e=>false
end
end L3
namespace L3
open PySem PySem.Spec L2
variable {e:Expr}
def plainT_ok (h:plainT e=true)(env:Env)(whole:Sem Value):isTrue e env whole=(do let v <-whole;standAt e.pos;holding [v] (truthy v)):=by
 cases e<;>first|rfl|(cases h)|skip
 case UnaryOp op a p=>cases op<;>first|rfl|cases h
def a8 (h:cb e=true)(env:Env)(x:Value):foldedSetIterable e env x=pure x:=by
 cases e<;>first|rfl|cases h
def cZ (h:cb e=true)(op:CmpOp):behindInMarks op e=false:=by
 cases e<;>first|rfl|cases h
def eI (h:nr e=true)(t:Option Expr)(n:Nat)(env:Env):swapsWith e t n env=pure false:=by
 cases e<;>first|rfl|cases h
variable {o:Expr}
def bO (h:eo o=true)(a:Str)(env:Env)(whole:Sem Value):attributeBase o a env whole=whole:=by
 cases o with
 |Call f as ks p=>
  cases f<;>first|rfl|skip
  case Name x q=>
   cases as with
   |nil=>cases ks with
    |nil=>cases h
    |cons k ks=>rfl
   |cons b bs=>rfl
 |_=>rfl
variable {b:Expr}
def nq (h:dg b=true):nA b:=by
 intro o i;cases b<;>first|rfl|cases h
variable {X:Cx}
def PE.bX {t:TE}(h:PE X e t):PE X e (λU H R=>∃ Q,t U H Q/\∀ x H1,Q x H1->R x H1):=λY s U H R I ⟨Q,q,i⟩=>
 au (h Y s U H Q I q) λ_ _ ⟨v,H',J,r,z⟩=>⟨v,H',J,r,i _ _ z⟩
variable {t:TT}
def PT.bX (h:PT X e t):PT X e (λU H R=>∃ Q,t U H Q/\∀ x H1,Q x H1->R x H1):=λY s U H R I ⟨Q,q,i⟩=>
 au (h Y s U H Q I q) λ_ _ ⟨H',J,z⟩=>⟨H',J,i _ _ z⟩
def PA.bX {e:List Expr}{t:TA}(h:PA X e t):PA X e (λU H R=>∃ Q,t U H Q/\∀ x H1,Q x H1->R x H1):=λpos Y s U H R I ⟨Q,q,i⟩=>
 au (h pos Y s U H Q I q) λ_ _ ⟨v,H',J,r,z⟩=>⟨v,H',J,r,i _ _ z⟩
def PE.imp {t t':TE}(h:PE X e t)(hi:∀ U H Q,t' U H Q->t U H Q):PE X e t':=λY s U H Q I q=>h Y s U H Q I (hi _ _ _ q)
def PT.imp {t':TT}(h:PT X e t)(hi:∀ U H Q,t' U H Q->t U H Q):PT X e t':=λY s U H Q I q=>h Y s U H Q I (hi _ _ _ q)
def PS.imp {e:Stmt}{t t':TS}(h:PS X e t)(hi:∀ D U H,t' D U H->t D U H):PS X e t':=λY s U H D I q=>h Y s U H D I (hi _ _ _ q)
structure qU (P:Program) (w:World) (K:W.Frag) (mg:EN) (base:Heap) (k:Nat) (f:Addr) (d:aA) (sp:Sp):Prop where
 fact:∃ fd,bV P w K mg base (tQ P w) k f fd d.ps sp/\∀ j,∃ ds,Binds K fd d.ps ds/\Vals (d.dfl.drop j) ds
 own:∀ fd oc od osl,K.lookup f=some ⟨oc,od,.func fd,osl⟩->bV P w K mg base (tQ P w) k f fd d.ps sp
structure vP (K:W.Frag) (mg:EN) (T:Tab) (R:Rt):Prop where
 gfn:∀ x f,T.gfn.lookup x=some f->mg x=some (.ref (R.fad f))/\W.keepIn K (.ref (R.fad f))=true/\∃ d,T.fns[f]? =some d
 gcl:∀ x c,T.gcl.lookup x=some c->mg x=some (.ref (R.cad c))
 gbl:∀ x,T.gbl.contains x=true->mg x=none/\x≠"__name__"
 gbi:∀ x,T.gbi.contains x=true->∃ B,mg x=some (.ref B)/\DV K B
 gl:∀ x v,R.gl x=some v->∃ u,mg x=some u/\RelV v u
 na:∀ i f,T.na.contains (i,f)=true->cV K (R.cad i) f
 me:∀ i m f,T.me.lookup (i,m)=some f->vJ K (R.cad i)/\Meth K (R.cad i) m (R.fad f)/\∃ d,T.fns[f]? =some d
 ini0:∀ c,T.ini0.contains c=true->zm K (R.cad c)
 inip:∀ c,T.inip.contains c=true->D4 K (R.cad c)
 ini:∀ c f,T.ini.lookup c=some f->(∃ d,T.fns[f]? =some d)/\if T.xc.contains c=true then Cu K (R.cad c) (R.fad f) else Mk K (R.cad c) (R.fad f)
 oc:∀ c,T.oc.contains c=true->vJ K (R.cad c)/\CV K (R.cad c)
 xc:∀ c,T.xc.contains c=true->bM K (R.cad c)/\ug K (R.cad c)
 sub:∀ i j b,T.sub.lookup (i,j)=some b->W.kitOne K (.ref (R.cad i)) (.ref (R.cad j))=some b/\(T.xc.contains i=true->W.mroIn K (R.cad i) (.ref (R.cad j))=some b/\bM K (R.cad j))
 subT:∀ i n b,T.subT.lookup (i,n)=some b->W.kitOne K (.ref (R.cad i)) (.type n)=some b
 subB:∀ t n b,T.subB.lookup (t,n)=some b->W.kitOne K (.type t) (.type n)=some b
 subO:∀ t j b,T.subO.lookup (t,j)=some b->W.kitOne K (.type t) (.ref (R.cad j))=some b
 cin:∀ c f,T.cin.lookup c=some f->DR K (R.cad c) (R.fad f)/\∃ d,T.fns[f]? =some d
structure Gd (X:Cx) (G:Gx) (S:Sn) (k:Nat) (E:St->XK):Prop where
 hK:G.R.K=X.K
 hT:S.T=G.T
 sc:X.env.scope=S.sc
 N:X.N=S.N
 nd:S.N.Nodup
 pass:Passes (tQ X.prog X.w) X E
 cm:G.cm=true->X.calm=true
 room:G.cm=true->aX (k+1) X.A
 un:X.A.units+200<cLine
 tab:vP X.K X.mg G.T G.R
 fns:∀ f d,G.T.fns[f]? =some d->qU X.prog X.w X.K X.mg X.base k (G.R.fad f) d (G.Ψ f)
variable {x:Str}{l es:List Expr}
section
variable {X:Cx}{G:Gx}{S:Sn}{k:Nat}{E:St->XK}
def Gd.bin (g:Gd X G S k E)(op:Operator):bS X (binaryOp op) (vR G.R.K op):=g.hK▸zF op
def Gd.cmp (g:Gd X G S k E)(op:CmpOp):bS X (compareOp op) (j7 G.R.K op):=g.hK▸yl g.un op
def Gd.glob (g:Gd X G S k E)(h:S.iT x=true):Gl X x/\(x ==("__debug__":Str))=false:=by
 unfold Sn.iT at h;simp only[lv,decide_eq_true_eq,Bool.not_eq_true']at h;refine⟨?_,h.2⟩;show X.env.scope.names.lookup x=_;rw[g.sc];exact h.1
def Gd.BA (g:Gd X G S k E)(h:S.BA x=true):Cw X.env.scope x/\(x ==("__debug__":Str))=false/\(x ==("__classdict__":Str))=false:=by
 unfold Sn.BA at h;simp only[lv,Bool.or_eq_true,decide_eq_true_eq,Bool.not_eq_true']at h;refine⟨?_,h.1.2,h.2⟩;unfold Cw;rw[g.sc];rcases h.1.1 with(h|h)|h
 .exact .inl h
 .exact .inr (.inl h)
 .exact .inr (.inr h)
def Gd.loc (g:Gd X G S k E){i:Nat}(h:S.loc i x=true):X.N[i]? =some x/\L2.Loc X.env.scope x:=by
 unfold Sn.loc at h;simp only[lv,Bool.or_eq_true,decide_eq_true_eq]at h;rw[g.N];refine⟨h.1,?_⟩;unfold L2.Loc;rw[g.sc];exact h.2
def aD:∀ {es:d5}{l:List Expr},gz S es l=true->∀ (env:Env) (pos:Pos),(backTo pos (bm l env)).any (·.1)=false
 | .nil,[],_,_,_=>rfl
 | .nil,_::_,h,_,_=>by cases(show false=true from h)
 | .cons e es,[],h,_,_=>by cases(show false=true from h)
 | .cons e es,e'::l,h,env,pos=>by
  have h:(mE S e e'&&notStar e'&&gz S es l)=true:=h;simp only[lv]at h;rw[ab h.1.2];show((backTo pos (bm l env)).any (·.1))=false;exact aD h.2 env pos
def ju:∀ {es:d5}{l:List Expr},gz S es l=true->l.length=es.len
 | .nil,[],_=>rfl
 | .nil,_::_,h=>by cases(show false=true from h)
 | .cons e es,[],h=>by cases(show false=true from h)
 | .cons e es,e'::l,h=>by
  have h:(mE S e e'&&notStar e'&&gz S es l)=true:=h;simp only[lv]at h;show l.length+1=es.len+1;rw[ju h.2]
def aN {es:d5}(h:gz S es (e::l)=true):notStar e=true/\∃ x es',es=.cons x es'/\gz S es' l=true:=by
 cases es with
 |nil=>cases(show false=true from h)
 |cons x es'=>
  have h:(mE S x e&&notStar e&&gz S es' l)=true:=h;simp only[lv]at h;exact⟨h.1.2,x,es',rfl,h.2⟩
def jK:∀ {es:d5}{l:List Expr},gz S es l=true->es.len<20->∀ (env:Env) (cpos:Pos),methodCallForm (l.length+([]:List Keyword).length) (backTo cpos (bm l env)) (backToKw cpos (keywordEach [] env))=true:=by
 intro es l h hl env cpos;have h1:=aD h env cpos;have h2:=ju h;have h3:(backTo cpos (bm l env)).all (λx=>!x.1)=true:=by
  rw[all_eq_true];intro x hx;rw[any_eq_false]at h1;simpa using h1 x hx
 unfold methodCallForm;rw[h3,h2];simp[keywordEach,backToKw]
 omega
def fE {m:Str}{apos pos:Pos}{env:Env}(hb:eo o=true)(hf:methodCallForm (es.length+([]:List Keyword).length) (backTo pos (bm es env)) (backToKw pos (keywordEach [] env))=true)(hl:(apos.endLine ==pos.line)=true):
  eval (.Call (.Attribute o m apos) es [] pos) env=(do
   let ov <-eval o env
   standAt apos.atName
   let(f,first) <-holding [ov] (getMethod ov m (do return (<-importBound o env).getD true))
   callWith pos f first (backTo pos (bm es env)) (backToKw pos (keywordEach [] env))):=by
 show(do
  let ov <-attributeBase o m env (eval o env)
  standAt apos.atName
  methodCall o m apos pos env ov (es.length+([]:List Keyword).length) (backTo pos (bm es env)) (backToKw pos (keywordEach [] env)))=_
 rw[bO hb];unfold methodCall calleeOf methodCallPos;rw[hf,hl]
 rfl
def yU {es:d5}(h:gz S es (e::l)=true)(hl:es.len<20)(env:Env)(cpos:Pos):
  ((backTo cpos (bm (e::l) env)).all (λx=>!x.1)&&(backToKw cpos (keywordEach [] env)).all (λx=>x.1.isSome)
   &&decide ((e::l).length+([]:List Keyword).length+(if([]:List Keyword).isEmpty then 0 else 1)<30))=true:=by
 have h1:=aD h env cpos;have h2:=ju h;have h3:(backTo cpos (bm (e::l) env)).all (λx=>!x.1)=true:=by
  rw[all_eq_true];intro x hx;rw[any_eq_false]at h1;simpa using h1 x hx
 rw[h3,h2];simp[keywordEach,backToKw]
 omega
end
variable {K:W.Frag}{H:Hp}{Y:EM}{a:Addr}
section
variable {X:Cx}{G:Gx}{S:Sn}{k:Nat}{E:St->XK}
def fk {x:V}{t:String}(h:tyName x H=some t):eO K H x (.type t):=by
 unfold tyName at h
 split at h
 .cases h;exact .non
 .cases h;exact .bl _
 .cases h;exact .int _
 .cases h;exact .str _
 .split at h
  .rename_i e;cases h;exact .lst e
  .rename_i e;cases h;exact .tup e
  .rename_i e;cases h;exact .dK (.inl e)
  .rename_i e;cases h;exact .dK (.inr ⟨_,e⟩)
  .cases h
 .cases h
def nz {s:Shared}{U:St}{Q:VK}{i:Nat}{b:Bool}{cv:Value}(g:Gd X G S k E)(I:Inv X Y U H s)(o:pe G H a i)
  (e:W.kitOne X.K (.ref (G.R.cad i)) cv=some b) (q:Q (.bl b) H):wpAny (model X.prog X.w) X.A (call (.builtin "isinstance") [.ref a,cv]) (EP X Y U Q) X.xe s:=by
 rcases o with⟨ho,dx,fs,ha⟩|⟨ho,dx,fs,fr,ha⟩
 .obtain⟨c,z⟩:=g.tab.oc i ho;exact fu I (x:=.ref a) rfl (.ins ha c z.ha z.hn z.htk z.hm) e λtk=>⟨.bl b,H,I.tok _,rfl,q⟩
 .obtain⟨c,z⟩:=g.tab.xc i ho;exact tF I ha c z e λtk=>⟨.bl b,H,I.tok _,rfl,q⟩
def vk (g:Gd X G S k E)(j:Nat):bz X (.builtin "isinstance") (λvs H Q=>∃ x,vs=[x,.ref (G.R.cad j)]/\eZ G (.own j) x H Q):=by
 intro Y s U H xs us Q I r h;obtain⟨x,rfl,h⟩:=h;obtain⟨u,w',rfl,rx,rT⟩:=vals2 r;obtain rfl:w'=Value.ref (G.R.cad j):=rT;unfold eZ at h;rcases h with⟨t,b,ht,hb,q⟩|⟨a,i,b,rfl,ho,hb,q⟩
 .exact fu I rx (fk ht) (g.tab.subO t j b hb) λtk=>⟨.bl b,H,I.tok _,rfl,q⟩
 .obtain rfl:u=Value.ref a:=rx;exact nz g I ho (g.tab.sub i j b hb).1 q
def zd (g:Gd X G S k E)(n:String):bz X (.builtin "isinstance") (λvs H Q=>∃ x,vs=[x,.ty n]/\eZ G (.ty n) x H Q):=by
 intro Y s U H xs us Q I r h;obtain⟨x,rfl,h⟩:=h;obtain⟨u,w',rfl,rx,rT⟩:=vals2 r;obtain rfl:w'=Value.type n:=rT;unfold eZ at h;rcases h with⟨t,b,ht,hb,q⟩|⟨a,i,b,rfl,ho,hb,q⟩
 .exact fu I rx (fk ht) (g.tab.subB t n b hb) λtk=>⟨.bl b,H,I.tok _,rfl,q⟩
 .obtain rfl:u=Value.ref a:=rx;exact nz g I ho (g.tab.subT i n b hb) q
def wK {n:String}(h:gk.contains n=true):bootBuiltins (n:Str)=some (.type n):=by
 have h':n ∈ gk:=by simpa using h
 simp only[gk,li,not_mem_nil,or_false]at h';rcases h' with rfl|rfl|rfl|rfl|rfl|rfl|rfl<;>decide+kernel
abbrev Ei (G:Gx):Cl->V
 | .own c=>.ref (G.R.cad c)
 | .ty n=>.ty n
def Bo (g:Gd X G S k E){c:Cl}(h:wz S c e=true):PE X e (tC (Ei G c)):=by
 unfold wz at h
 split at h
 .simp only[lv,decide_eq_true_eq]at h;obtain⟨hg,hd⟩:=g.glob h.1;exact jq hg (g.tab.gcl _ _ (g.hT▸h.2)) rfl hd
 .simp only[lv,decide_eq_true_eq]at h;obtain⟨⟨⟨h1,rfl⟩,h3⟩,h4⟩:=h;obtain⟨hg,hd⟩:=g.glob h1;obtain⟨hm,hn⟩:=g.tab.gbl _ (g.hT▸h3);exact uK hg hm (wK h4) rfl hn hd
 .cases h
def zC (g:Gd X G S k E)(c:Cl):bz X (.builtin "isinstance") (λvs H Q=>∃ x,vs=[x,Ei G c]/\eZ G c x H Q):=by
 cases c with
 |own j=>exact vk g j
 |ty n=>exact zd g n
def qR (g:Gd X G S k E){i:Nat}{b:Bool}:∀ {cs:List Nat},anyS G i cs=some b->W.kitAny X.K (.ref (G.R.cad i)) ((cs.map λc=>G.R.cad c).map Value.ref)=some b
 | [],h=>h
 |c::cs,h=>by
  have e:∀ b',G.T.sub.lookup (i,c)=some b'->W.kitOne X.K (.ref (G.R.cad i)) (.ref (G.R.cad c))=some b':=λb' hb=>(g.tab.sub i c b' hb).1
  unfold anyS at h;show(match W.kitOne X.K (.ref (G.R.cad i)) (.ref (G.R.cad c)) with|some true=>some true|some false=>W.kitAny X.K (.ref (G.R.cad i)) ((cs.map λc=>G.R.cad c).map Value.ref)|none=>none)=some b
  split at h
  .rename_i q;rw[e _ q];exact h
  .rename_i q;rw[e _ q];exact qR g h
  .cases h
def xw (g:Gd X G S k E){t:String}{b:Bool}:∀ {cs:List Nat},wU G t cs=some b->W.kitAny X.K (.type t) ((cs.map λc=>G.R.cad c).map Value.ref)=some b
 | [],h=>h
 |c::cs,h=>by
  have e:∀ b',G.T.subO.lookup (t,c)=some b'->W.kitOne X.K (.type t) (.ref (G.R.cad c))=some b':=λb' hb=>g.tab.subO t c b' hb
  unfold wU at h;show(match W.kitOne X.K (.type t) (.ref (G.R.cad c)) with|some true=>some true|some false=>W.kitAny X.K (.type t) ((cs.map λc=>G.R.cad c).map Value.ref)|none=>none)=some b
  split at h
  .rename_i q;rw[e _ q];exact h
  .rename_i q;rw[e _ q];exact xw g h
  .cases h
def wo (g:Gd X G S k E)(cs:List Nat):bz X (.builtin "isinstance") (λvs H Q=>∃ x p,vs=[x,.ref p]/\H p=some (.tup ((cs.map λc=>G.R.cad c).map V.ref))/\kc G cs x H Q):=by
 intro Y s U H xs us Q I r h;obtain⟨x,p,rfl,hp,h⟩:=h;obtain⟨u,w',rfl,rx,rT⟩:=vals2 r;obtain rfl:w'=Value.ref p:=rT;unfold kc at h;rcases h with⟨t,b,ht,hb,q⟩|⟨a,i,b,rfl,ho,hb,q⟩
 .obtain⟨P,Z,hP,hx⟩:=kf I rx (fk (K:=X.K) ht);exact jg I Z hP hx hp (xw g hb) λtk=>⟨.bl b,H,I.tok _,rfl,q⟩
 .obtain rfl:u=Value.ref a:=rx;rcases ho with⟨ho,dx,fs,ha⟩|⟨ho,dx,fs,fr,ha⟩
  .obtain⟨c,z⟩:=g.tab.oc i ho;obtain⟨P,Z,hP,hx⟩:=kf I (x:=.ref a) rfl (.ins ha c z.ha z.hn z.htk z.hm);exact jg I Z hP hx hp (qR g hb) λtk=>⟨.bl b,H,I.tok _,rfl,q⟩
  .obtain⟨c,z⟩:=g.tab.xc i ho;obtain⟨ox,odo,J⟩:=kj I ha;exact jg I (km (ox:=ox) (odo:=odo) c z) J (λz=>nomatch z) hp (qR g hb) λtk=>⟨.bl b,H,I.tok _,rfl,q⟩
def sL (g:Gd X G S k E):∀ {cs:List Nat}{es:List Expr},nS S cs es=true->PA X es (λU H Q=>Q (cs.map λc=>.ref (G.R.cad c)) H)
 | [],[],_=>cX
 | [],_::_,h=>by cases(show false=true from h)
 |_::_,[],h=>by cases(show false=true from h)
 |c::cs,e::es,h=>by
  unfold nS at h
  split at h
  .rename_i h1 h2;cases h1
  .rename_i c' cs' x p es' h1 h2;cases h1;cases h2;simp only[lv,decide_eq_true_eq]at h;obtain⟨hg,hd⟩:=g.glob h.1.1;exact gc (jq (v:=.ref (G.R.cad _)) hg (g.tab.gcl _ _ (g.hT▸h.1.2)) rfl hd) (sL g h.2) rfl
  .cases h
abbrev rp:Bf->Value
 | .len=>.builtin "len"| .list=>.type "list"| .tuple=>.type "tuple"| .int=>.type "int"| .str=>.type "str"| .min=>.builtin "min"| .max=>.builtin "max"| .abs=>.builtin "abs"| .all=>.builtin "all"| .any=>.builtin "any"| .dict=>.type "dict"| .sum=>.builtin "sum"
def wA (b:Bf):bootBuiltins (sF b:Str)=some (rp b):=by cases b<;>decide+kernel
def om:∀ {bs:List Bool}{us:List Value},Vals (bs.map V.bl) us->PyProof.Rows.LSm.BoolsAre us bs
 | [],_,h=>by cases h;exact .nil
 |b::bs,_,h=>by
  cases h with
  |cons r1 r2=>
   obtain rfl:_=Value.bool b:=r1;exact .cons b (om r2)
def qe (hc:X.calm=true):bz X (.builtin "all") (λxs H Q=>∃ p,∃ bs:List Bool,xs=[.ref p]/\aK X.K H p (bs.map V.bl)/\Q (.bl (bs.all id)) H):=by
 intro Y s U H xs us Q I r h;obtain⟨p,bs,rfl,hq,q⟩:=h;obtain⟨u,rfl,rx⟩:=vals1 r;cases rx;obtain⟨its,r',pl,hz⟩:=I.list hq;have hb:=om r';have hl:=pl.isList;have lt:p<s.heap.objs.size:=by obtain⟨_,e,_⟩:=hl;exact ss e
 refine call_all_walk (wpAny_pyIter_list hl ⟨s.heap.objs.size,[s.heap.objs.size,p],[s.heap.objs.size],its.toArray.size,_,_,λi=>(bs[i]?).getD true,rfl,
  Walks.list (A:=X.A.in1) (I.ok.hd hc) _ p (nw lt) its.toArray,⟨⟨_,sw _ rfl,rfl,rfl⟩,hl.push _⟩,λi v s' Q' E' hP hQ=>?_,λh' tk hk=>?_⟩)
 .obtain⟨b,e,rfl⟩:=hb.get i v (by simpa using hP);have hQ:Q' ((bs[i]?).getD _) s':=hQ;rw[e]at hQ;exact bi hQ
 .have e:((List.range its.toArray.size).all λi=>(bs[i]?).getD true)=bs.all id:=by
   rw[ge,hb.length,PyProof.Rows.LSm.range_all]
  rw[e];exact⟨.bl _,H,I.kept (PyProof.Rows.LSm.kept_iter hk),rfl,q⟩
def jn:bz X (.type "dict") (λvs H Q=>∃ p kvs,vs=[.ref p]/\H p=some (.dK kvs)/\∀ l,H l=none->Q (.ref l) (upd H l (.dK kvs))):=by
 intro Y s U H xs us Q I r h;obtain⟨p,kvs,rfl,hp,q⟩:=h;obtain⟨u,rfl,rx⟩:=vals1 r;cases rx;exact uB I (.inl hp) λl s' hl J=>⟨.ref l,_,J,rfl,q l hl⟩
def Bw (g:Gd X G S k E)(b:Bf):bz X (rp b) (kD G b):=by
 intro Y s U H xs us Q I r h;unfold kD at h;rw[g.hK]at h;cases b with
 |len=>exact tR Y s U H _ us Q I r h
 |list=>
  rcases h with h|⟨hc,p,kvs,rfl,hp,q⟩
  .exact jS Y s U H _ us Q I r h
  .obtain⟨u,rfl,ru⟩:=vals1 r;cases ru;exact mj (g.cm hc) I hp q
 |tuple=>exact iz Y s U H _ us Q I r h
 |int=>exact h.elim
 |str=>
  rcases h with h|⟨z,rfl,q⟩
  .exact ji Y s U H _ us Q I r h
  .obtain⟨u,rfl,t,rfl⟩:=vals1 r;exact PySem.P.str_of_str ⟨.str z,H,I,⟨_,rfl⟩,q⟩
 |min=>
  rcases h with⟨hc,h|h⟩
  .exact pQ (g.cm hc) Y s U H _ us Q I r h
  .exact qg (g.cm hc) Y s U H _ us Q I r h
 |max=>exact h.elim
 |abs=>exact h.elim
 |all=>exact qe (g.cm h.1) Y s U H _ us Q I r h.2
 |any=>exact h.elim
 |dict=>exact jn Y s U H _ us Q I r h
 |sum=>exact pI (g.cm h.1) Y s U H _ us Q I r h.2
abbrev ze:Lm->String
 | .append=>"list.append"| .extend=>"list.extend"| .insert=>"list.insert"| .pop=>"list.pop"| .clear=>"list.clear"| .reverse=>"list.reverse"| .count=>"list.count"
def nP (m:Lm):Slot "list" (rQ m:Str) (ze m):=by
 cases m
 .exact PySem.F.slot_list_append
 .exact PySem.F.slot_list_extend
 .exact PySem.F.slot_list_insert
 .exact PySem.F.slot_list_pop
 .exact PySem.F.slot_list_clear
 .exact PySem.F.slot_list_reverse
 .exact PySem.F.slot_list_count
def xq (m:Lm):typeOf (.builtin (ze m))=pure (.type "method_descriptor"):=by cases m<;>rfl
abbrev EA (m:Lm):V->List V->Hp->VK->Prop:=λx vs H Q=>∃ p xs,x=.ref p/\H p=some (.lst xs)/\yP m p xs vs H Q
def yc (m:Lm):CM X (ze m) (EA m):=by
 intro Y s U H x vs v us Q I rx rv h;obtain⟨p,xs,rfl,hp,h⟩:=h;unfold yP at h;cases m with
 |append=>exact h.elim
 |extend=>
  obtain⟨b,zs,rfl,hz,hl,q⟩:=h;exact qt Y s U H _ _ v us Q I rx rv ⟨p,_,xs,zs,rfl,rfl,hp,hz,f9 nofun,q⟩
 |insert=>
  obtain⟨i,y,rfl,h⟩:=h;exact pT Y s U H _ _ v us Q I rx rv ⟨p,xs,_,_,rfl,rfl,hp,h.1,h.2.1,Nat.lt_of_le_of_lt h.2.2.1 (by decide),h.2.2.2⟩
 |pop=>exact h.elim
 |clear=>exact h.elim
 |reverse=>exact h.elim
 |count=>exact h.elim
def tZ {m:Str}{apos pos:Pos}{ta:TE}{t:TA}{pl:Sem Bool}{n:Nat}(g:Gd X G S k E)(hc:G.cm=true)(he:PE X o ta)(ha:PA X es t)
  (hnil:es=[]->∀ U H R,t U H R->R [] H) (hst:∀ e r,es=e::r->bm es X.env=(false,eval e X.env)::bm r X.env) (hpl:∀ e r,es=e::r->(backTo pos (bm r X.env)).any (·.1)=false)
  (ht:eval (.Call (.Attribute o m apos) es [] pos) X.env=(do
   let ov <-eval o X.env
   standAt apos.atName
   let(f,first) <-holding [ov] (getMethod ov m pl)
   callWith pos f first (backTo pos (bm es X.env)) (backToKw pos (keywordEach [] X.env)))):
  PE X (.Call (.Attribute o m apos) es [] pos) (λU H Q=>ta U H λx H1=>∃ p i dx fs f,x=.ref p/\H1 p=some (.ins (G.R.cad i) dx fs)/\fs.lookup m=none/\G.T.me.lookup (i,m)=some f/\
   t U H1 λvs H2=>G.Ψ f (x::(vs++dflt G f n)) H2 Q (E U)):=by
 intro Y s U H Q I h;refine W.methodCall_KW (pl:=pl) (au (he Y s U H _ I h) λu s1 ⟨x,H1,I1,rx,a,i,dx,fs,f,ex,ea,l,hf,q⟩=>?_) ht;subst ex;obtain rfl:u=Value.ref a:=rx;obtain⟨c,hm,d,hd⟩:=g.tab.me i m f hf;obtain⟨fd,F,B⟩:=(g.fns f d hd).fact;have hr:aX k X.A:=(g.room hc).mono (Nat.le_succ _);obtain⟨ds,hb,hv⟩:∃ ds,Binds X.K fd d.ps ds/\Vals (dflt G f n) ds:=by
  unfold dflt;rw[hd];exact B _
 refine l7 I1 ea c hm l ?_;cases es with
 |nil=>
  refine W.callWith_K0 (first:=[.ref a]) I1.aY hm.kp ?_;exact gT (us:=[.ref a]) (vs:=[.ref a]) F hr hb hv g.pass I1 (.cons rfl .nil) (hnil rfl _ _ _ q)
 |cons e r=>
  refine W.callWith_K (first:=[.ref a]) (h₀:=X.base) I.ok.mod.kin hm.kp (au (ha pos Y s1 U H1 _ I1 q) λus s2 ⟨vs,H2,I2,r,q2⟩=>⟨I2.aY,?_⟩) (hst e r rfl) (hpl e r rfl);exact gT (us:=.ref a::us) (vs:=.ref a::vs) F hr hb hv g.pass I2 (.cons rfl r) q2
end
def xE {α β:Type}{f:α->Option β}:∀ {l:List α}{j:Nat}{y:β},(∀ a ∈ l,(f a).isSome=true)->(l.filterMap f)[j]? =some y->∃ a,l[j]? =some a/\f a=some y
 | [],_,_,_,h=>by simp at h
 |a::l,j,y,hs,h=>by
  obtain⟨b,hb⟩:=Option.isSome_iff_exists.mp (hs a lf);rw[filterMap_cons,hb]at h;cases j with
  |zero=>simp at h;exact⟨a,rfl,by rw[hb,h]⟩
  |succ j=>
   simp at h;obtain⟨a',h1,h2⟩:=xE (λa ha=>hs a (dl _ ha)) h;exact⟨a',by simpa using h1,h2⟩
def uo {α β:Type}{f:α->Option β}:∀ {l:List α},(∀ a ∈ l,(f a).isSome=true)->(l.filterMap f).length=l.length
 | [],_=>rfl
 |a::l,hs=>by
  obtain⟨b,hb⟩:=Option.isSome_iff_exists.mp (hs a lf);rw[filterMap_cons,hb];simp[uo (λa ha=>hs a (dl _ ha))]
abbrev gG (env:Env):Str×NameKind->List (Str×Addr)->Sem (ForInStep (List (Str×Addr))):=λnk r=>do
 let cs:=r
 if(nk.2 ==NameKind.free)=true then do
  let a <-cellOf env nk.1
  pure (ForInStep.yield ((nk.1,a)::cs))
 else pure (ForInStep.yield cs)
def jj {env:Env}:∀ (names:List (Str×NameKind)) (cs:List (Str×Addr)),(∀ y ∈ names,y.2=.free->∃ c,env.cells.lookup y.1=some c)->
  ∃ cl,(forIn names cs (gG env):Sem _)=pure cl/\(∀ y c,cl.lookup y=some c->cs.lookup y=some c\/env.cells.lookup y=some c)/\(∀ y,(cs.lookup y).isSome=true->(cl.lookup y).isSome=true)/\∀ y ∈ names,y.2=.free->(cl.lookup y.1).isSome=true
 | [],cs,_=>⟨cs,rfl,λy c h=>.inl h,λy h=>h,λy hy=>absurd hy (by simp)⟩
 |(n,kd)::r,cs,h=>by
  by_cases hk:kd=.free
  .subst hk;obtain⟨c,hc⟩:=h (n,.free) lf rfl;obtain⟨cl,h1,h2,h3,h4⟩:=jj r ((n,c)::cs) λy hy=>h y (dl _ hy)
   have self:(((n,c)::cs).lookup n).isSome=true:=by simp[lookup_cons]
   refine⟨cl,?_,λy d q=>?_,λy q=>h3 y ?_,λy hy hf=>?_⟩
   .rw[forIn_cons];have e:gG env (n,.free) cs=pure (ForInStep.yield ((n,c)::cs)):=by
     unfold gG;simp only[cellOf,hc]
     rfl
    rw[e];exact h1
   .rcases h2 y d q with q|q
    .rw[lookup_cons]at q
     by_cases e:y=n
     .subst e;simp at q;subst q;exact .inr hc
     .rw[show(y ==n)=false from beq_eq_false_iff_ne.mpr e]at q;exact .inl q
    .exact .inr q
   .rw[lookup_cons];cases(y ==n)<;>simp[q]
   .rcases li.mp hy with rfl|hy
    .exact h3 _ self
    .exact h4 y hy hf
  .obtain⟨cl,h1,h2,h3,h4⟩:=jj r cs λy hy=>h y (dl _ hy)
   refine⟨cl,?_,h2,h3,λy hy hf=>?_⟩
   .rw[forIn_cons];have e:gG env (n,kd) cs=pure (ForInStep.yield cs):=by
     unfold gG;cases kd<;>first|rfl|exact absurd rfl hk
    rw[e];exact h1
   .rcases li.mp hy with rfl|hy
    .exact absurd hf hk
    .exact h4 y hy hf
variable {scope:Scope}
def vq {env:Env}(h:∀ y ∈ scope.names,y.2=.free->∃ c,env.cells.lookup y.1=some c):
  ∃ cl,closureFor scope env=pure cl/\(∀ y c,cl.lookup y=some c->env.cells.lookup y=some c)/\∀ y ∈ scope.names,y.2=.free->(cl.lookup y.1).isSome=true:=by
 obtain⟨cl,h1,h2,_,h4⟩:=jj scope.names [] h;refine⟨cl,?_,λy c q=>(h2 y c q).resolve_left (by simp),h4⟩;have e:closureFor scope env=(forIn scope.names [] (gG env) >>= λcs=>pure cs):=by
  unfold closureFor gG
  rfl
 rw[e,h1]
 rfl
variable {xs:List Str}{sel:List Nat}
section
variable {X:Cx}{G:Gx}{S:Sn}{k:Nat}{E:St->XK}
def lx (g:Gd X G S k E)(scope:Scope):relabel scope X.env=cF S.sc scope:=by
 unfold relabel cF Env.kindOf;rw[g.sc]
def bI (g:Gd X G S k E)(ok:X.Ok)(h:dQ S scope xs sel=true):∃ cl,aS X scope cl xs (sel.filterMap λi=>S.N[i]?) sel:=by
 unfold dQ at h;simp only[lv,decide_eq_true_eq,all_eq_true,Bool.or_eq_true,bne_iff_ne,ne_eq]at h;obtain⟨⟨⟨⟨⟨h1,h2⟩,h3⟩,h4⟩,h5⟩,h6⟩:=h;have hs:∀ i ∈ sel,(S.N[i]?).isSome=true:=λi hi=>by
  have:=h5 i hi
  split at this
  .rename_i e;rw[e];rfl
  .cases this
 obtain⟨cl,c1,c2,c3⟩:=vq (env:=X.env) (scope:=scope) λy hy hf=>ok.has y.1 (.inl (by
  show X.env.scope.names.lookup y.1=_;rw[g.sc];exact((h3 y hy).2).resolve_left λz=>z hf))
 refine⟨cl,⟨c1,c2,λy hy=>?_,h1,λy hy=>(h3 y hy).1.1,λy hy hl=>((h3 y hy).1.2).resolve_left λz=>z hl,h4,(uo hs).symm,λj y hj=>?_,h6⟩⟩
 .have:∃ kd,(y,kd) ∈ scope.names/\kd=.free:=by
   rcases hy with hy|hy
   .obtain⟨kd,m,q⟩:=cB hy;rcases q with q|q
    .subst q;exact absurd rfl (h3 _ m).1.1
    .exact⟨kd,m,q.1⟩
   .obtain⟨kd,m,q⟩:=cB hy;rcases q with q|q
    .exact⟨kd,m,q.symm⟩
    .exact nomatch q.2
  obtain⟨kd,m,rfl⟩:=this;exact Option.isSome_iff_exists.mp (c3 _ m rfl)
 .obtain⟨i,hi,hn⟩:=xE hs hj;have q:=h5 i (cr hi);rw[hn]at q;simp only[lv,decide_eq_true_eq]at q;refine⟨i,hi,by rw[g.N];exact hn,by rw[g.sc];exact q.1,by rw[lx g];exact q.2⟩
def Gd.comp (g:Gd X G S k E){cl:List (Str×Addr)}(C:aS X scope cl xs (sel.filterMap λi=>S.N[i]?) sel) (s:Shared) (H:Hp) (fp:List Addr):
  Gd (dE X scope cl (xs++sel.filterMap λi=>S.N[i]?) s H fp) G { S with sc:=cF S.sc scope,N:=xs++sel.filterMap λi=>S.N[i]? } k (λ_ _ _=>False) where
 hK:=g.hK
 hT:=g.hT
 sc:=lx g scope
 N:=rfl
 nd:=C.nd
 pass:=λY U H s e s' I h=>by
  obtain⟨e,H',C,dx,fs,T,_,_,_,_,_,_,_,_,_,q⟩:=h;exact q.elim
 cm:=g.cm
 room:=g.room
 un:=g.un
 tab:=g.tab
 fns:=g.fns
def kr (env:Env):∀ {is:List Nat}{ts:List Expr},qJ S is ts=true->(assignEach ts env).length=is.length/\(assignEach ts env).findIdx? (·.1)=none
 | [],[],_=>⟨rfl,rfl⟩
 | [],_::_,h=>by simp[qJ]at h
 |_::_,[],h=>by simp[qJ]at h
 |i::is,t::ts,h=>by
  cases t<;>simp[qJ]at h
  rename_i x p;obtain⟨h1,h2⟩:=kr env h.2;have e:assignEach (.Name x p::ts) env=(false,assign (.Name x p) env)::assignEach ts env:=rfl;rw[e];refine⟨by simp[h1],?_⟩;rw[List.findIdx?_cons];simp[h2]
def oz (g:Gd X G S k E):∀ {is:List Nat}{ts:List Expr},qJ S is ts=true->zc X ts (gl is)
 | [],[],_=>λY s U H vs us Q I r h=>jc Y s U H vs us Q I r ⟨length_eq_zero_iff.mp h.1,by
   have:=h.2;have e:vs=[]:=length_eq_zero_iff.mp h.1;subst e;exact this⟩
 | [],_::_,h=>by simp[qJ]at h
 |_::_,[],h=>by simp[qJ]at h
 |i::is,t::ts,h=>by
  cases t<;>simp[qJ]at h
  rename_i x p;have hl:X.env.scope.names.lookup x=some .local:=by rw[g.sc];exact h.1.2
  have h1:PG X (.Name x p) (d7 i):=fc (by rw[g.N];exact g.nd) (by rw[g.N];exact h.1.1) (.inl hl) (.inr hl);have h2:=oz g h.2;intro Y s U H vs us Q I r q;refine eP h1 h2 rfl Y s U H vs us Q I r ?_;obtain⟨hl,q⟩:=q;cases vs with
  |nil=>simp at hl
  |cons v vs=>exact⟨v,vs,rfl,by simpa using hl,q⟩
def nG (g:Gd X G S k E)(hc:G.cm=true){n kt:Nat}{ts:List Expr}{pt:Pos}(h:qJ S (List.range n) ts=true):PG X (.Tuple ts kt pt) (uR G.R.K n (gl (List.range n))):=by
 obtain⟨e1,e2⟩:=kr X.env h;rw[List.length_range]at e1;rw[g.hK];exact jG (g.cm hc) (oz g h) e1 e2
def pd {n:Nat}(h:xs.length=n):kO xs=re n none:=by
 subst h;unfold kO;rw[List.map_const']
end
set_option maxHeartbeats 2000000
variable {r:List Expr}{p:Pos}{U:L2.St}{s1:Shared}{R:It->Hp->Prop}{keys:List (Option Expr)}
section
variable {G:Gx}{k:Nat}
def gH {o1 o2:CmpOp}{c:Expr}(h:cb c=true):lastMarks [o1,o2] [b,c]=false:=by
 show behindInMarks o2 c=false;exact cZ h _
def rB {t:TE}(h:PE X (match r with| []=>b|_=>.BoolOp .And (b::r) p) t):PE X (.BoolOp .And (b::r) p) t:=by
 cases r with
 |nil=>exact r9 h
 |cons c r=>exact h
def tI {t:TE}(h:PE X (match r with| []=>b|_=>.BoolOp .Or (b::r) p) t):PE X (.BoolOp .Or (b::r) p) t:=by
 cases r with
 |nil=>exact r9 h
 |cons c r=>exact h
def xu {op:BoolOp}(h:PT X (.BoolOp op l p) t):PW X (.BoolOp op l p) t:=λwhole Y s U H Q I q=>by
 have:=h Y s U H Q I q;exact this
def qX (h:PT X (match r with| []=>b|_=>.BoolOp .And (b::r) p) t):PW X (.BoolOp .And (b::r) p) t:=by
 cases r with
 |nil=>exact xb h
 |cons c r=>exact xu h
def t9 (h:PT X (match r with| []=>b|_=>.BoolOp .Or (b::r) p) t):PW X (.BoolOp .Or (b::r) p) t:=by
 cases r with
 |nil=>exact AF h
 |cons c r=>exact xu h
def ve:CA X (unaryOp .USub) (λx H Q=>match x with| .int i=>Q (.int (-i)) H|_=>False):=by
 intro Y s U H x v Q I r h
 split at h
 .exact(L2.Aq Y s U H _ v Q I r ⟨_,rfl,h⟩)
 .exact h.elim
def qB {CX:mf}{C f:Addr}{fd:FuncData}{ps:List Str}{sp:Sp}{dvs:List V}{ds:List Value}{E:St->XK}{pos:Pos}(M:Cu X.K C f)(F:bV X.prog X.w X.K X.mg X.base CX k f fd ps sp)(hr:aX (k+1) X.A)(hg:Gl X x)(hm:X.mg x=some (.ref C))(hb:Binds X.K fd ps ds)(hd:Vals dvs ds)(hx:Passes CX X E)
  (hdb:(x ==("__debug__":Str))=false):PE X (.Call (.Name x p) [] [] pos) (qV C sp dvs E wm):=by
 intro Y s U H Q I h;refine bv (aO I hg hm ?_ hdb);exact W.callWith_K0 I.aY M.kp (iW (us:=[]) M F hr hb hd hx (Nat.zero_le _) I .nil h.2)
def bS.bX {f:Value->Value->Sem Value}{r:R2}(h:bS X f r):bS X f (λx y H R=>∃ Q,r x y H Q/\∀ z H1,Q z H1->R z H1):=λY s U H x y v u R I rx ry ⟨Q,q,i⟩=>
 au (h Y s U H x y v u Q I rx ry q) λ_ _ ⟨v,H',J,r,z⟩=>⟨v,H',J,r,i _ _ z⟩
section
open PyProof.Rows
def pP {tg:Expr}{H1:Hp}{v:Value}{xs:List V}(I1:Inv X Y U H1 s1)(r:RelV (.ref a) v)(hq:aK X.K H1 a xs)(q:R (yb X.K a) H1):
  wpAny (model X.prog X.w) X.A (pyIter v) (BM X Y U tg R) X.xe s1:=by
 cases r;obtain⟨its,rv,p,hz⟩:=I1.list hq;refine wpAny_pyIter_list p.isList ?_;refine⟨s1.heap.objs.size,[s1.heap.objs.size],_,_,H1,rfl,I1.kept (t':=s1.toks) λb o e=>sn _ e,pB a _,⟨_,sw _ rfl,rfl,rfl⟩,λb hb=>?_,q⟩;have e:b=s1.heap.objs.size:=by simpa using hb
 subst e;exact I1.p9 (pc _) (I1.hok.fresh (pc _))
def rR {tg:Expr}{H1:Hp}{v:Value}{xs:List V}(I1:Inv X Y U H1 s1)(r:RelV (.ref a) v)(hq:bp X.K H1 a xs)(q:R (C6 X.K a) H1):
  wpAny (model X.prog X.w) X.A (pyIter v) (BM X Y U tg R) X.xe s1:=by
 cases r;obtain⟨its,rv,p,hz⟩:=I1.tuple hq;refine wpAny_pyIter_tuple (show s1.heap.IsTuple a its.toArray from p) ?_;refine⟨s1.heap.objs.size,[s1.heap.objs.size],_,_,H1,rfl,I1.kept (t':=s1.toks) λb o e=>sn _ e,mD a _,⟨_,sw _ rfl,rfl,rfl⟩,λb hb=>?_,q⟩;have e:b=s1.heap.objs.size:=by simpa using hb
 subst e;exact I1.p9 (pc _) (I1.hok.fresh (pc _))
end
def yL {x:V}{Q:Bool->Hp->Prop}(h:yN K x H Q):∃ k,wN K x H k/\Q k H:=by
 unfold yN at h
 split at h
 .exact⟨_,rfl,h⟩
 .exact h
abbrev DQ:List Str->List V->List (V×V)
 |k::ks,x::xs=>(.str k,x)::DQ ks xs
 |_,_=>[]
def qA {k:Str}{ks:List Str}(h:qC (k::ks) keys=true):∃ j p r,keys=some (.Constant (.str k) j p)::r/\qC ks r=true:=by
 unfold qC at h
 split at h
 .rename_i e;cases e
 .rename_i k' ks' x j p r e
  injection e with e1 e2
  subst e1 e2;simp only[lv,decide_eq_true_eq]at h;obtain⟨rfl,h⟩:=h;exact⟨_,_,_,rfl,h⟩
 .cases h
def rP (h:qC [] keys=true):keys=[]:=by
 cases keys with
 |nil=>rfl
 |cons a r=>cases(show false=true from h)
mutual
theorem sE:∀ (x:Ex){X:Cx}{S:Sn}{E:St->XK},Gd X G S k E->∀ {e:Expr},mE S x e=true->PE X e (λU H Q=>wE G x U H Q (E U))
 | .v i,X,S,E,g,e,h=>by
  sleep 1
  simp only[lv,decide_eq_true_eq]at h;obtain⟨h1,h2⟩:=h;obtain⟨v1,v2,v3⟩:=g.BA h2;refine PE.imp (AB (i:=i) (by rw[g.N];exact h1) v1 v2 v3) λU H Q q=>?_
  conv at q=>whnf
  split at q
  .rename_i e;exact⟨_,e,q⟩
  .exact q.elim
 | .int i,X,S,E,g,e,h=>by
  sleep 2
  simp only[decide_eq_true_eq]at h;subst h;exact yB
 | .bl i,X,S,E,g,e,h=>by
  sleep 2
  simp only[decide_eq_true_eq]at h;subst h;exact B9
 | .non,X,S,E,g,e,h=>by
  sleep 2
  exact zE
 | .str i,X,S,E,g,e,h=>by
  sleep 2
  simp only[decide_eq_true_eq]at h;subst h;exact rN
 | .gl x,X,S,E,g,e,h=>by
  sleep 1
  simp only[lv,decide_eq_true_eq]at h;obtain⟨rfl,h2⟩:=h;obtain⟨hg,hd⟩:=g.glob h2;intro Y s U H Q I q
  conv at q=>whnf
  split at q
  .rename_i v e;obtain⟨u,hm,r⟩:=g.tab.gl _ v e;exact jq hg hm r hd Y s U H Q I q
  .exact q.elim
 | .bin op a b,X,S,E,g,e,h=>by
  sleep 1
  simp only[lv,decide_eq_true_eq]at h;obtain⟨⟨rfl,ha⟩,hb⟩:=h;exact Cj (g.bin op) (sE a g ha) (sE b g hb)
 | .neg a,X,S,E,g,e,h=>by
  sleep 2
  exact B0 ve (sE a g h)
 | .not a,X,S,E,g,e,h=>by
  sleep 2
  refine PE.imp (Ak (PE.bX (sE a g h))) λU H Q q=>⟨_,q,λx H1 z=>?_⟩
  split at z
  .exact⟨_,rfl,z⟩
  .exact z.elim
 | .and a b,X,S,E,g,e,h=>by
  sleep 3
  simp only[lv]at h;refine PE.imp (yH (PE.bX (sE a g h.1)) (rB (sE b g h.2))) λU H Q q=>⟨_,q,λx H1 z=>?_⟩
  split at z
  .rw[c5]at z;exact⟨_,rfl,z⟩
  .exact z.elim
 | .or a b,X,S,E,g,e,h=>by
  sleep 3
  simp only[lv]at h;refine PE.imp (Cp (PE.bX (sE a g h.1)) (tI (sE b g h.2))) λU H Q q=>⟨_,q,λx H1 z=>?_⟩
  split at z
  .rw[c5]at z;exact⟨_,rfl,z⟩
  .exact z.elim
 | .cmp op a b,X,S,E,g,e,h=>by
  sleep 3
  simp only[lv,decide_eq_true_eq]at h;obtain⟨⟨⟨rfl,ha⟩,hb⟩,hn⟩:=h;exact uJ (g.cmp op) (sE a g ha) (sE b g hb) (cZ hn _)
 | .cmp2 o1 o2 a b c,X,S,E,g,e,h=>by
  sleep 3
  simp only[lv,decide_eq_true_eq]at h;obtain⟨⟨⟨⟨⟨rfl,rfl⟩,ha⟩,hb⟩,hc⟩,hn⟩:=h;refine PE.imp (tG (bS.bX (g.cmp o1)) (g.cmp o2) (PE.bX (sE a g ha)) (PE.bX (sE b g hb)) (sE c g hc) (gH hn)) λU H Q q=>⟨_,q,λx H1 q1=>⟨_,q1,λy H2 q2=>⟨_,q2,λz H3 q3=>?_⟩⟩⟩
  split at q3
  .rw[c5]at q3;exact⟨_,rfl,q3⟩
  .exact q3.elim
 | .cmp3 o1 o2 o3 a b c d,X,S,E,g,e,h=>by cases(show false=true from h)
 | .ife c a b,X,S,E,g,e,h=>by
  sleep 1
  simp only[lv]at h;exact PE.imp (si (PT.bX (sT c g h.1.1)) (sE a g h.1.2) (sE b g h.2)) λU H Q q=>⟨_,q,λk H1 z=>by rwa [c5]at z⟩
 | .tup es,X,S,E,g,e,h=>by
  sleep 1
  refine PE.imp (rM (PA.bX (pH es g h))) λU H Q q=>⟨_,q,λx H1 z=>by unfold dZ at z;exact⟨f9 (by have:=z.1;omega),z.2⟩⟩
 | .lst es,X,S,E,g,e,h=>by
  sleep 1
  refine PE.imp (zq (PA.bX (pH es g h))) λU H Q q=>⟨_,q,λx H1 z=>by unfold vW at z;exact⟨f9 (by have:=z.1;omega),z.2⟩⟩
 | .ix a i,X,S,E,g,e,h=>by
  sleep 1
  simp only[lv]at h;have hr:BD X (ya G.R.K):=g.hK▸lU g.un;exact A4 hr (sE a g h.1.1) (sE i g h.1.2) (nq h.2)
 | .sl a lo hi,X,S,E,g,e,h=>by
  sleep 3
  simp only[lv]at h;have hr:CI X (yd G.R.K):=g.hK▸zk;exact tm hr (sE a g h.1.1) (sO lo g h.1.2) (sO hi g h.2)
 | .fld a f,X,S,E,g,e,h=>by
  sleep 1
  simp only[lv,decide_eq_true_eq]at h;obtain⟨⟨ha,rfl⟩,hn⟩:=h;intro Y s U H Q I q;have q':wE G a U H (λx H1=>lN G f x H1 Q) (E U):=q;refine uM (bO hn _ _ _) (au (sE a g ha Y s U H _ I q') λu s1 ⟨x,H1,I1,rx,qf⟩=>?_);unfold lN at qf;obtain⟨a,i,fs,v,ex,ea,hna,l,q⟩:=qf;subst ex;obtain rfl:u=Value.ref a:=rx;have n:=g.tab.na i f hna;rcases ea with⟨ho,dx,ea⟩|⟨ho,dx,fr,ea⟩
  .exact nh I1 ea (g.tab.oc i ho).1 n l λu' s' J rv=>⟨v,H1,J,rv,q⟩
  .exact pN I1 ea (g.tab.xc i ho).1 n l λu' s' J rv=>⟨v,H1,J,rv,q⟩
 | .call f es,X,S,E,g,e,h=>by
  sleep 3
  rename_i es' pos _ xn p1 _;simp only[lv,decide_eq_true_eq]at h;obtain⟨⟨h1,h2⟩,h3⟩:=h;obtain⟨hg,hdb⟩:=g.glob h1;obtain⟨hm,hk,d,hd⟩:=g.tab.gfn _ _ (g.hT▸h2);obtain⟨fd,F,B⟩:=(g.fns f d hd).fact;obtain⟨ds,hb,hv⟩:∃ ds,Binds X.K fd d.ps ds/\Vals (dflt G f es.len) ds:=by
   unfold dflt;rw[hd];exact B _
  intro Y s U H Q I q;obtain⟨hc,q⟩:=(show G.cm=true/\wEs G es U H (λvs H1=>G.Ψ f (vs++dflt G f es.len) H1 Q (E U)) (E U) from q);have hr:aX k X.A:=(g.room hc).mono (Nat.le_succ _);cases es' with
  |nil=>
   cases es with
   |nil=>exact so F hr hg hm hk hb hv g.pass hdb Y s U H Q I q
   |cons _ _=>cases(show false=true from h3)
  |cons e0 er=>
   have PAs:=pH es g h3;obtain⟨ns,x0,xr,rfl,h4⟩:=aN h3;exact vK F hr hg hm hk hb hv g.pass PAs hdb (ab ns) (aD h4 _ _) Y s U H Q I q
 | .meth a m es,X,S,E,g,e,h=>by
  sleep 3
  rename_i es' pos _ a' m' apos _;simp only[lv,decide_eq_true_eq]at h;obtain⟨⟨⟨⟨⟨ha,rfl⟩,h3⟩,h4⟩,h5⟩,h6⟩:=h;intro Y s U H Q I q;obtain⟨hc,q⟩:=(show G.cm=true/\_ from q);refine tZ (n:=es.len+1) g hc (sE a g ha) (pH es g h3) (λz U H R hr=>?_) (λe r z=>?_) (λe r z=>?_) (fE h4 (jK h3 h6 _ _) h5) Y s U H Q I q
  .subst z;cases es with
   |nil=>exact hr
   |cons _ _=>cases(show false=true from h3)
  .subst z;exact ab (aN h3).1
  .subst z;have PAs:=pH es g h3;obtain⟨ns,x0,xr,rfl,h4⟩:=aN h3;exact aD h4 _ _
 | .lm m a es,X,S,E,g,e,h=>by
  sleep 3
  rename_i es' pos _ a' m' apos _;simp only[lv,decide_eq_true_eq]at h;obtain⟨⟨⟨⟨⟨ha,rfl⟩,h3⟩,h4⟩,h5⟩,h6⟩:=h;cases es' with
  |nil=>
   cases es with
   |nil=>exact PE.imp (zT PySem.F.plainAttrs_list (nP m) (xq m) (yc m) (PE.bX (sE a g ha)) (bO h4 _ _ _) h5) λU H Q q=>⟨_,q,λx H1 z=>by
     obtain⟨p,xs0,ex,hp,q⟩:=z;subst ex;obtain⟨xs,h1,h2⟩:=q;exact⟨.inl ⟨rfl,xs0,aK.of hp⟩,p,xs,rfl,h1,h2⟩⟩
   |cons _ _=>cases(show false=true from h3)
  |cons e0 er=>
   have PAs:=pH es g h3;obtain⟨ns,x0,xr,rfl,h7⟩:=aN h3;exact PE.imp (Bm PySem.F.plainAttrs_list (nP m) (xq m) (yc m) (PE.bX (sE a g ha)) (PA.bX PAs) (bO h4 _ _ _) (yU h3 h6 _ _) h5 (ab ns) (aD h7 _ _)) λU H Q q=>⟨_,q,λx H1 z=>by
     obtain⟨p,xs0,ex,hp,q⟩:=z;subst ex;exact⟨.inl ⟨rfl,xs0,aK.of hp⟩,_,q,λvs H2 ⟨xs,h1,h2⟩=>⟨p,xs,rfl,h1,h2⟩⟩⟩
 | .dget a k d,X,S,E,g,e,h=>by cases(show false=true from h)
 | .rev a b,X,S,E,g,e,h=>by cases(show false=true from h)
 | .lix a b,X,S,E,g,e,h=>by cases(show false=true from h)
 | .make c es,X,S,E,g,e,h=>by
  sleep 3
  rename_i es' pos _ xn p1 _;simp only[lv,decide_eq_true_eq]at h;obtain⟨⟨h1,h2⟩,h3⟩:=h;obtain⟨hg,hdb⟩:=g.glob h1;have hm:=g.tab.gcl _ _ (g.hT▸h2);intro Y s U H Q I q
  conv at q=>whnf
  obtain⟨hc,q⟩:=q
  split at q
  .obtain⟨h0,q⟩:=q;cases es' with
   |nil=>
    cases es with
    |nil=>exact absurd q.1 (by decide)
    |cons _ _=>cases(show false=true from h3)
   |cons e0 er=>
    have PAs:=pH es g h3;obtain⟨ns,x0,xr,rfl,h4⟩:=aN h3;exact qW (g.tab.ini0 c h0) hg hm PAs hdb (ab ns) (aD h4 _ _) Y s U H Q I q
  .rename_i f hf;obtain⟨⟨d,hd⟩,hmk⟩:=g.tab.ini c f hf;obtain⟨fd,F,B⟩:=(g.fns f d hd).fact;obtain⟨ds,hb,hv⟩:∃ ds,Binds X.K fd d.ps ds/\Vals (dflt G f (es.len+1)) ds:=by
    unfold dflt;rw[hd];exact B _
   have hr:=g.room hc
   split at q
   .rename_i hx;rw[if_pos hx]at hmk;cases es' with
    |nil=>
     cases es with
     |nil=>exact qB hmk F hr hg hm hb hv g.pass hdb Y s U H Q I q
     |cons _ _=>cases(show false=true from h3)
    |cons e0 er=>
     have PAs:=pH es g h3;obtain⟨ns,x0,xr,rfl,h4⟩:=aN h3;exact rj hmk F hr hg hm hb hv g.pass PAs hdb (ab ns) (aD h4 _ _) Y s U H Q I q
   .rename_i hx;rw[if_neg hx]at hmk;cases es' with
    |nil=>
     cases es with
     |nil=>exact se hmk F hr hg hm hb hv g.pass hdb Y s U H Q I q
     |cons _ _=>cases(show false=true from h3)
    |cons e0 er=>
     have PAs:=pH es g h3;obtain⟨ns,x0,xr,rfl,h4⟩:=aN h3;exact w8 hmk F hr hg hm hb hv g.pass PAs hdb (ab ns) (aD h4 _ _) Y s U H Q I q
 | .bini es,X,S,E,g,e,h=>by
  sleep 4
  rename_i es' pos _ mm p2 _ xn p1 _;simp only[lv,decide_eq_true_eq]at h;obtain⟨⟨⟨⟨⟨h1,rfl⟩,h2⟩,h3⟩,h4⟩,h5⟩:=h;obtain⟨hg,hdb⟩:=g.glob h1;obtain⟨B,hm,hB⟩:=g.tab.gbi _ (g.hT▸h2);cases es' with
  |nil=>
   cases es with
   |nil=>cases h4
   |cons _ _=>cases(show false=true from h3)
  |cons e0 er=>
   have PAs:=pH es g h3;obtain⟨ns,x0,xr,rfl,h7⟩:=aN h3;refine PE.imp (Aa hB hg hm (PA.bX PAs) hdb (ab ns) (aD h7 _ _) (fE (o:=.Name _ _) rfl (jK h3 (by rw[h4];decide) _ _) h5)) λU H Q q=>⟨_,q,λvs H1 z=>?_⟩
   obtain⟨a,i,dx,fs,fr,v,ev,ea,hi,q⟩:=z;exact⟨a,_,dx,fs,fr,v,ev,ea,(g.tab.xc i hi).1,q⟩
 | .cini c es,X,S,E,g,e,h=>by
  sleep 4
  rename_i es' pos _ mm p2 _ xn p1 _;simp only[lv,decide_eq_true_eq]at h;obtain⟨⟨⟨⟨⟨⟨h1,h2⟩,rfl⟩,h3⟩,h4⟩,h6⟩,h5⟩:=h;obtain⟨hg,hdb⟩:=g.glob h1;have hm:=g.tab.gcl _ _ (g.hT▸h2);intro Y s U H Q I q;obtain⟨hc,q⟩:=(show G.cm=true/\(match G.T.cin.lookup c with|some f=>wEs G es U H (λvs H1=>G.Ψ f (vs++dflt G f es.len) H1 Q (E U)) (E U)|none=>False) from q)
  split at q
  .rename_i f hf;obtain⟨hC,d,hd⟩:=g.tab.cin _ _ hf;obtain⟨fd,F,B⟩:=(g.fns f d hd).fact;obtain⟨ds,hb,hv⟩:∃ ds,Binds X.K fd d.ps ds/\Vals (dflt G f es.len) ds:=by
    unfold dflt;rw[hd];exact B _
   have hr:aX k X.A:=(g.room hc).mono (Nat.le_succ _);cases es' with
   |nil=>
    cases es with
    |nil=>cases h6
    |cons _ _=>cases(show false=true from h3)
   |cons e0 er=>
    have PAs:=pH es g h3;obtain⟨ns,x0,xr,rfl,h7⟩:=aN h3;exact yO hC F hr hg hm hb hv g.pass PAs hdb (ab ns) (aD h7 _ _) (fE (o:=.Name _ _) rfl (jK h3 h4 _ _) h5) Y s U H Q I q
  .exact q.elim
 | .bf b es,X,S,E,g,e,h=>by
  sleep 3
  rename_i es' pos _ xn p1 _;simp only[lv,decide_eq_true_eq]at h;obtain⟨⟨⟨⟨h1,rfl⟩,h2⟩,h3⟩,h4⟩:=h;obtain⟨hg,hdb⟩:=g.glob h1;obtain⟨hm,hn⟩:=g.tab.gbl _ (g.hT▸h2);cases es' with
  |nil=>
   cases es with
   |nil=>exact absurd h4 (by decide)
   |cons _ _=>cases(show false=true from h3)
  |cons e0 er=>
   have PAs:=pH es g h3;obtain⟨ns,x0,xr,rfl,h7⟩:=aN h3;have hb:=wA b;have hk:=Bw g b;have key:∀ {v:Value},rp b=v->(∃ i,v=.builtin i)\/(∃ i,v=.type i):=by
    intro v hv;subst hv;cases b<;>first|exact .inl ⟨_,rfl⟩|exact .inr ⟨_,rfl⟩
   rcases key rfl with⟨i,hi⟩|⟨i,hi⟩
   .rw[hi]at hb hk;exact gC hk hg hm hb PAs hn hdb (ab ns) (aD h7 _ _)
   .rw[hi]at hb hk;exact pM hk hg hm hb PAs hn hdb (ab ns) (aD h7 _ _)
 | .isi a c,X,S,E,g,e,h=>by
  sleep 4
  rename_i pos _ xn p1 _ _ a' c';simp only[lv,decide_eq_true_eq]at h;obtain⟨⟨⟨⟨h1,rfl⟩,h2⟩,h3⟩,h4⟩:=h;obtain⟨hg,hdb⟩:=g.glob h1;obtain⟨hm,hn⟩:=g.tab.gbl _ (g.hT▸h2);have n1:notStar a'=true:=by
   cases a'<;>first|rfl|(cases a<;>cases(show false=true from h3))
  have n2:notStar c'=true:=by
   cases c'<;>first|rfl|(cases c<;>simp[wz]at h4)
  refine PE.imp (gC (zC g c) hg hm rC (gc (PE.bX (sE a g h3)) (gc (Bo g h4) cX n2) n1) hn hdb (ab n1) ?_) λU H Q q=>⟨_,q,λx H1 z=>⟨x,rfl,z⟩⟩
  rw[ab n2]
  rfl
 | .lc elt sel it,X,S,E,g,e,h=>by
  sleep 2
  split at h
  iterate 3 (split at h;rotate_left;cases h)
  simp only[lv]at h;obtain⟨⟨⟨h1,h2⟩,h3⟩,h4⟩:=h;intro Y s U H Q I q;obtain⟨hc,q⟩:=(show G.cm=true/\wI G it U H (λJ H1=>t8 (λσ' H' Q'=>wE G elt σ' H' Q' (λ_ _=>False)) J (none::eY U sel) H1 Q) (E U) from q);rw[rH]at q;obtain⟨cl,C⟩:=bI g I.ok h1;exact um (g.cm hc) C (sI it g h2) (λs H fp=>sE elt (g.comp C s H fp) h3) (a8 h4 _) Y s U H Q I q
 | .lci elt c sel it,X,S,E,g,e,h=>by cases(show false=true from h)
 | .lct elt n sel it,X,S,E,g,e,h=>by
  sleep 2
  split at h
  iterate 3 (split at h;rotate_left;cases h)
  simp only[lv,decide_eq_true_eq]at h;obtain⟨⟨⟨⟨⟨h1,h5⟩,h6⟩,h2⟩,h3⟩,h4⟩:=h;intro Y s U H Q I q;obtain⟨hc,q⟩:=(show G.cm=true/\wI G it U H (λJ H1=>LCt G.R.K n (λσ' H' Q'=>wE G elt σ' H' Q' (λ_ _=>False)) J (re n none++eY U sel) H1 Q) (E U) from q);rw[sD,<-pd h6]at q;obtain⟨cl,C⟩:=bI g I.ok h1;exact i6 (g.cm hc) C (sI it g h2) (λs H fp=>nG (g.comp C s H fp) hc h5) (λs H fp=>gm) (λs H fp=>sE elt (g.comp C s H fp) h3) (a8 h4 _) Y s U H Q I q
 | .lcu elt c n sel it,X,S,E,g,e,h=>by cases(show false=true from h)
 | .dnew,X,S,E,g,e,h=>by
  sleep 3
  refine PE.imp tB λU H Q q=>?_
  have q':newD H Q:=q;unfold newD at q';exact q'
 | .sm m a b,X,S,E,g,e,h=>by cases(show false=true from h)
 | .up a,X,S,E,g,e,h=>by cases(show false=true from h)
 | .isiT a cs,X,S,E,g,e,h=>by
  sleep 5
  rename_i pos _ xn p1 _ _ a' _ es' kk pos2;simp only[lv,decide_eq_true_eq]at h;obtain⟨⟨⟨⟨⟨h1,rfl⟩,h2⟩,h3⟩,h4⟩,h5⟩:=h;obtain⟨hg,hdb⟩:=g.glob h1;obtain⟨hm,hn⟩:=g.tab.gbl _ (g.hT▸h2);have n1:notStar a'=true:=by
   cases a'<;>first|rfl|(cases a<;>cases(show false=true from h3))
  refine PE.imp (gC (wo g cs) hg hm rC (gc (PE.bX (sE a g h3)) (gc (rM (sL g h4)) cX rfl) n1) hn hdb (ab n1) ?_) λU H Q q=>⟨_,q,λx H1 z=>⟨?_,λp hp=>⟨x,p,rfl,?_,z p hp⟩⟩⟩
  .rw[ab (show notStar (.Tuple es' kk pos2)=true from rfl)]
   rfl
  .exact f9 (by rw[ce];omega)
  .rw[aj,List.map_map]
   rfl
 | .mk0 c,X,S,E,g,e,h=>by
  sleep 4
  simp only[lv,decide_eq_true_eq]at h;obtain⟨⟨h1,h2⟩,h3⟩:=h;obtain⟨hg,hdb⟩:=g.glob h1;refine PE.imp (su (g.tab.inip c (g.hT▸h3)) hg (g.tab.gcl _ _ (g.hT▸h2)) hdb) λU H Q q=>?_
  have q':ud (G.R.cad c) H Q:=q;unfold ud at q';exact q'
 | .vals tp a,X,S,E,g,e,h=>by cases(show false=true from h)
 | .disp ks es,X,S,E,g,e,h=>by cases(show false=true from h)
 | .dzip a b,X,S,E,g,e,h=>by
  sleep 8
  simp only[lv,decide_eq_true_eq]at h;obtain⟨⟨⟨⟨⟨⟨⟨⟨⟨h1,rfl⟩,h2⟩,h3⟩,rfl⟩,h4⟩,h5⟩,h6⟩,n1⟩,n2⟩:=h;obtain⟨hg,hdb⟩:=g.glob h1;obtain⟨hm,hn⟩:=g.tab.gbl _ (g.hT▸h2);obtain⟨hg',hdb'⟩:=g.glob h3;obtain⟨hm',hn'⟩:=g.tab.gbl _ (g.hT▸h4);intro Y s U H Q I q;obtain⟨hc,q⟩:=(show G.cm=true/\wE G a U H (λx H1=>wE G b U H1 (λy H2=>BK G.R.K x y H2 Q) (E U)) (E U) from q);refine xk (g.cm hc) hg hm hg' hm' (gc (PE.bX (sE a g h5)) (gc (PE.bX (sE b g h6)) cX n2) n1) (ab n1) (by rw[ab n2];rfl) Y s U H Q I ⟨_,q,λx H1 z=>⟨_,z,λy H2 z=>?_⟩⟩;unfold BK at z;exact⟨_,_,rfl,g.hK▸z⟩
termination_by structural x=>x
theorem sI:∀ (x:xJ){X:Cx}{S:Sn}{E:St->XK},Gd X G S k E->∀ {t e:Expr},mI S x t e=true->PI X t e (λU H R=>wI G x U H R (E U))
 | .rng1 a,X,S,E,g,t,e,h=>by
  sleep 4
  simp only[lv,decide_eq_true_eq]at h;obtain⟨⟨⟨⟨h1,rfl⟩,h2⟩,h3⟩,n1⟩:=h;obtain⟨hg,hdb⟩:=g.glob h1;obtain⟨hm,hn⟩:=g.tab.gbl _ (g.hT▸h2);intro Y s U H R I q;refine pj hg hm (gc (PE.bX (sE a g h3)) cX n1) (ab n1) Y s U H R I ⟨_,q,λx H1 z=>?_⟩
  split at z
  .exact⟨_,rfl,z.1,z.2.1,z.2.2⟩
  .exact z.elim
 | .rng2 a b,X,S,E,g,t,e,h=>by cases(show false=true from h)
 | .rng3 a b c,X,S,E,g,t,e,h=>by cases(show false=true from h)
 | .enm a,X,S,E,g,t,e,h=>by
  sleep 4
  simp only[lv,decide_eq_true_eq]at h;obtain⟨⟨⟨⟨⟨h1,rfl⟩,h2⟩,h3⟩,n1⟩,h5⟩:=h;obtain⟨hg,hdb⟩:=g.glob h1;obtain⟨hm,hn⟩:=g.tab.gbl _ (g.hT▸h2)
  split at h5
  .intro Y s U H R I q;refine vt hg hm (gc (PE.bX (sE a g h3)) cX n1) (ab n1) Y s U H R I ⟨_,q,λx H1 z=>?_⟩
   split at z
   .unfold vO at z;exact⟨_,rfl,z.1,z.2⟩
   .exact z.elim
  .cases h5
 | .enf a,X,S,E,g,t,e,h=>by cases(show false=true from h)
 | .seq a,X,S,E,g,t,e,h=>by
  conv at h=>lhs;whnf
  intro Y s U H R I q;have q':wE G a U H (λx H1=>match x with| .ref p=>rm G.R.K p H1 R| .str z=>R (yC z) H1|_=>False) (E U):=q;rw[g.hK]at q';refine au (sE a g h Y s U H _ I q') λv s1 ⟨x,H1,I1,r1,z⟩=>?_
  dsimp only at z
  split at z
  .unfold rm at z;rcases z with⟨⟨xs,hx⟩,z⟩|⟨⟨xs,hx⟩,z⟩|z
   .exact pP I1 r1 hx z
   .exact rR I1 r1 hx z
   .exact z.elim
  .exact uf I1 r1 z
  .exact z.elim
 | .zip a b,X,S,E,g,t,e,h=>by
  sleep 4
  simp only[lv,decide_eq_true_eq]at h;obtain⟨⟨⟨⟨⟨⟨⟨h1,rfl⟩,h2⟩,h3⟩,h4⟩,n1⟩,n2⟩,h5⟩:=h;obtain⟨hg,hdb⟩:=g.glob h1;obtain⟨hm,hn⟩:=g.tab.gbl _ (g.hT▸h2)
  split at h5
  .intro Y s U H R I q;refine yJ hg hm (gc (PE.bX (sE a g h3)) (gc (PE.bX (sE b g h4)) cX n2) n1) (ab n1) (by rw[ab n2];rfl) Y s U H R I ⟨_,q,λx H1 z=>⟨_,z,λy H2 z=>?_⟩⟩;unfold vd at z;exact⟨_,_,rfl,g.hK▸z⟩
  .cases h5
 | .zip3 a b c,X,S,E,g,t,e,h=>by cases(show false=true from h)
termination_by structural x=>x
theorem sO:∀ (x:Cy){X:Cx}{S:Sn}{E:St->XK},Gd X G S k E->∀ {e:Option Expr},mO S x e=true->PO X e (λU H Q=>wO G x U H Q (E U))
 | .no,X,S,E,g,none,h=>uZ
 | .no,X,S,E,g,some _,h=>by cases(show false=true from h)
 | .yes x,X,S,E,g,none,h=>by cases(show false=true from h)
 | .yes x,X,S,E,g,some e,h=>by
  conv at h=>lhs;whnf
  intro Y s U H Q I q;refine wR (PE.bX (sE x g h)) Y s U H Q I ⟨_,q,λy H1 z=>?_⟩
  split at z
  .exact⟨_,rfl,z⟩
  .exact z.elim
termination_by structural x=>x
theorem sT:∀ (x:Tx){X:Cx}{S:Sn}{E:St->XK},Gd X G S k E->∀ {e:Expr},mT S x e=true->PT X e (λU H Q=>wT G x U H Q (E U))
 | .not a,X,S,E,g,e,h=>by
  sleep 2
  exact Af (sT a g h)
 | .and a b,X,S,E,g,e,h=>by
  sleep 3
  simp only[lv]at h;exact PT.imp (Ar (PT.bX (sT a g h.1)) (qX (sT b g h.2))).pt λU H Q q=>⟨_,q,λk H1 z=>by rwa [c5]at z⟩
 | .or a b,X,S,E,g,e,h=>by
  sleep 3
  simp only[lv]at h;exact PT.imp (Bz (PT.bX (sT a g h.1)) (t9 (sT b g h.2))).pt λU H Q q=>⟨_,q,λk H1 z=>by rwa [c5]at z⟩
 | .cmp op a b,X,S,E,g,e,h=>by
  sleep 3
  simp only[lv,decide_eq_true_eq]at h;obtain⟨⟨⟨rfl,ha⟩,hb⟩,hn⟩:=h;refine PT.imp (u0 (bS.bX (g.cmp op)) (PE.bX (sE a g ha)) (PE.bX (sE b g hb)) (cZ hn _)) λU H Q q=>⟨_,q,λx H1 q1=>⟨_,q1,λy H2 q2=>⟨_,q2,λz H3 q3=>?_⟩⟩⟩
  split at q3
  .exact⟨_,rfl,q3⟩
  .exact q3.elim
 | .cmp2 o1 o2 a b c,X,S,E,g,e,h=>by
  sleep 3
  simp only[lv,decide_eq_true_eq]at h;obtain⟨⟨⟨⟨⟨rfl,rfl⟩,ha⟩,hb⟩,hc⟩,hn⟩:=h;refine PT.imp (uC (bS.bX (g.cmp o1)) (bS.bX (g.cmp o2)) (PE.bX (sE a g ha)) (PE.bX (sE b g hb)) (PE.bX (sE c g hc)) (gH hn)) λU H Q q=>⟨_,q,λx H1 q1=>⟨_,q1,λy H2 q2=>⟨_,q2,λz H3 q3=>?_⟩⟩⟩
  split at q3
  .refine⟨_,rfl,?_⟩;rw[c5]at q3
   split at q3
   .rename_i hk;rw[if_pos hk];refine⟨_,q3,λw H4 q4=>⟨_,q4,λz H5 q5=>?_⟩⟩
    split at q5
    .exact⟨_,rfl,q5⟩
    .exact q5.elim
   .rename_i hk;rw[if_neg hk];exact⟨_,rfl,q3⟩
  .exact q3.elim
 | .val x,X,S,E,g,e,h=>by
  have h:(mE S x e&&plainT e)=true:=h;simp only[lv]at h;refine PT.imp (tM (PE.bX (sE x g h.1)) (plainT_ok h.2 _)) λU H Q q=>⟨_,q,λy H1 z=>?_⟩
  exact g.hK▸yL z
termination_by structural x=>x
theorem EE:∀ (x:d5){X:Cx}{S:Sn}{E:St->XK},Gd X G S k E->∀ {ks:List Str}{keys:List (Option Expr)}{e:List Expr}{pos:Pos},qC ks keys=true->gz S x e=true->x.len=ks.length->PQ X pos keys e (λU H R=>∃ Q,wEs G x U H Q (E U)/\∀ xs H1,xs.length=x.len->Q xs H1->R (DQ ks xs) H1)
 | .nil,X,S,E,g,ks,keys,[],pos,h1,h,hl=>by
  obtain rfl:ks=[]:=List.eq_nil_of_length_eq_zero hl.symm;rw[rP h1];exact λY s U H R I ⟨Q,q,i⟩=>Ao Y s U H R I (i [] H rfl q)
 | .nil,X,S,E,g,_,_,_::_,pos,h1,h,hl=>by cases(show false=true from h)
 | .cons x xs,X,S,E,g,_,_,[],pos,h1,h,hl=>by cases(show false=true from h)
 | .cons x xs,X,S,E,g,[],keys,e::es,pos,h1,h,hl=>by cases hl
 | .cons x xs,X,S,E,g,c::ks,keys,e::es,pos,h1,h,hl=>by
  have h:(mE S x e&&notStar e&&gz S xs es)=true:=h;simp only[lv]at h;obtain⟨j,p,r,rfl,h2⟩:=qA h1;intro Y s U H R I ⟨Q,q,i⟩;refine vU rN (PE.bX (sE x g h.1.1)) (EE xs g h2 h.2 (Nat.succ.inj hl)) Y s U H R I ?_;exact⟨_,q,λy H2 z=>⟨_,z,λys H3 hy w=>i (y::ys) H3 (congrArg Nat.succ hy) w⟩⟩
termination_by structural x=>x
theorem pH:∀ (x:d5){X:Cx}{S:Sn}{E:St->XK},Gd X G S k E->∀ {e:List Expr},gz S x e=true->PA X e (λU H Q=>wEs G x U H Q (E U))
 | .nil,X,S,E,g,[],h=>cX
 | .nil,X,S,E,g,_::_,h=>by cases(show false=true from h)
 | .cons x xs,X,S,E,g,[],h=>by cases(show false=true from h)
 | .cons x xs,X,S,E,g,e::es,h=>by
  have h:(mE S x e&&notStar e&&gz S xs es)=true:=h;simp only[lv]at h;exact gc (sE x g h.1.1) (pH xs g h.2) h.1.2
termination_by structural x=>x
end
end
end L3
namespace L2
open PySem PySem.Spec PyProof.Rows
variable {scope:Scope}{cl:List (Str×Addr)}{fr:List Str}{sel:List Nat}{s:Shared}
section
variable {X:Cx}
def dM {elt iter tgt:Expr}{ifs:List Expr}{xs:List Str}{y:Str}{py pos spos:Pos}{wi:TI}{tg:TG}{tc:TT}{te:TE}{ni:Nat}(hc:X.calm=true)(S:aS X scope cl xs fr sel)(hi:PI X tgt iter wi)
  (hg:∀ (s:Shared) (H:Hp) (fp:List Addr),PG (dE X scope cl (xs++fr) s H fp) tgt tg) (ht:∀ (s:Shared) (H:Hp) (fp:List Addr),Cz (dE X scope cl (xs++fr) s H fp) ifs tc)
  (he:∀ (s:Shared) (H:Hp) (fp:List Addr),PE (dE X scope cl (xs++fr) s H fp) elt te) (hs:∀ x,foldedSetIterable iter X.env x=pure x) (hN:X.N.Nodup) (hni:X.N[ni]? =some y) (hy:X.env.scope.names.lookup y=some .local)
  (hsw:swapsWith (.ListComp elt [⟨tgt,iter,ifs,0⟩] scope pos) (some (.Name y py)) spos.line X.env=pure true):PS X (.Assign [.Name y py] (.ListComp elt [⟨tgt,iter,ifs,0⟩] scope pos) spos) (λD U H=>BF wi tg tc te xs sel U H λv H1=>D.nx (U.set ni (some v)) H1):=by
 intro Y s U H DD I h;rw[exec_Assign_Name_used _ _ _ _ hsw];refine ad (wpAny_standAt (ad ?_));show wpAny _ _ (do let _ <-comprehension (.ListComp elt [⟨tgt,iter,ifs,0⟩] scope pos) scope X.env _ (newList []) false (eval iter X.env) (some (assign (.Name y py) X.env))) _ _ s;refine ad (wpAny_mono (wpAny_comprehension_free (use:=some (assign (.Name y py) X.env)) (Q:=λ_ s'=>SP X Y DD .next s') rfl hs S.clos S.kind S.names ?_) (λ_ s' hq=>am (am hq)) λ_ _ e=>e);refine au (hi Y s U H _ I h) λv s1 h1=>au h1 λitv s2 h2=>?_
 obtain⟨it,fp,tn,J,H2,e,I2,T,jV,f2,h2⟩:=h2;subst e;refine wpAny_newObj_type ?_;have hD:H2 s2.heap.objs.size=none:=I2.hok.fresh (pc _);have I3:Inv X Y U (upd H2 s2.heap.objs.size (.lst [])) { s2 with heap:=s2.heap.push { cls:=.type "list",dict:=none,data:=.seq ([]:List Value).toArray } }:=
  I2.laid (t':=s2.toks) (λb u e=>sn _ e) (pc _) ⟨Nat.zero_le _,[],0,.nil,sw _ rfl⟩
 have fo2:∀ b ∈ fp,b<s2.heap.objs.size:=λb hb=>by
  obtain⟨o,ho,_⟩:=T.obj _ _ jV b hb;exact ss ho
 have f3:∀ b ∈ fp,fH X Y (upd H2 s2.heap.objs.size (.lst [])) b:=λb hb=>⟨by rw[af (nw (fo2 b hb))];exact(f2 b hb).1,(f2 b hb).2⟩
 have st3:tn 0 (s2.heap.push { cls:=.type "list",dict:=none,data:=.seq ([]:List Value).toArray }):=T.keep _ _ _ jV λb hb o e=>sn _ e
 have fo3:∀ b ∈ fp,b<(s2.heap.push { cls:=.type "list",dict:=none,data:=.seq ([]:List Value).toArray }).objs.size:=λb hb=>by
  rw[Heap.size_push];exact Nat.lt_succ_of_lt (fo2 b hb)
 obtain⟨W,⟨m0,w0⟩,turn⟩:=h2 _ hD;generalize s2.heap.objs.size=D at*;generalize hs3:({ s2 with heap:=s2.heap.push { cls:=.type "list",dict:=none,data:=.seq ([]:List Value).toArray } }:Shared)=s3 at*;have st3':tn 0 s3.heap:=by rw[<-hs3];exact st3
 have fo3':∀ b ∈ fp,b<s3.heap.objs.size:=by rw[<-hs3];exact fo3
 refine wpAny_newFunctionEnv S.nocell (by intro y hy;simp at hy) (λh' hns hsb=>?_) S.kind;have keep:∀ b o,s3.heap.get? b=some o->h'.get? b=some o:=λb o e=>(hsb.2 b (nw (ss e))).trans (sn _ e)
 have I4:=kE (tk:=s3.toks+([]:List (Str×Value)).length) S I3 f3 fo3' hns keep;have st4:tn 0 h':=T.keep _ _ _ st3' λb hb o e=>keep b o e
 have stat:∀ {H':Hp},(∀ b ∈ fp,H' b=none)->∀ b ∈ fp,fH (dE X scope cl (xs++fr) s3 (upd H2 D (.lst [])) fp) (X.pn++Y) H' b:=λ{H'} hn b hb=>
  ⟨hn b hb,nw (fo3' b hb),λz=>(li.mp (I3.fL b z)).elim (f3 b hb).2.1 (f3 b hb).2.2.1,.inl hb,λy c hy=>(f3 b hb).2.2.2.2.1 y c (S.sub y c hy),λp hp=>(f3 b hb).2.2.2.2.2 p (by simpa[dE] using hp)⟩
 have loop:codeAny (model X.prog X.w) X.A (.compLoop (.ListComp elt [⟨tgt,iter,ifs,0⟩] scope pos) 0 (.ref it) (.ref D) (compEnvC scope cl s3.heap.objs.size X.env))
   (compPost (model X.prog X.w) X.A X.xe (some (assign (.Name y py) X.env)) (λ_ s'=>SP X Y DD .next s') (.ref D) s3.heap.objs.size) { s3 with heap:=h',toks:=s3.toks+([]:List (Str×Value)).length }:=by
  refine codeAny_loop rfl (λn s'=>∃ i σ' H',Inv (dE X scope cl (xs++fr) s3 (upd H2 D (.lst [])) fp) (X.pn++Y) σ' H' s'/\tn i s'.heap/\(∀ b ∈ fp,H' b=none)/\W i n σ' H') (λn s5 hI=>?_) m0 ⟨0,_,_,I4,st4,λb hb=>(f3 b hb).1,w0⟩;show wpAny _ _ ((compTurn (.ListComp elt [⟨tgt,iter,ifs,0⟩] scope pos) 0 (.ref it) (.ref D) (compEnvC scope cl s3.heap.objs.size X.env)).onRaise (λx=>do noteFrame x (compEnvC scope cl s3.heap.objs.size X.env);theTreesLotGoes x)) _ _ s5;refine wpAny_noted ?_;refine nI (ht s3 (upd H2 D (.lst [])) fp).1 ?_;obtain⟨i,σ5,H5,I5,st5,fr5,w5⟩:=hI;rcases turn i n σ5 H5 w5 with⟨stop,q⟩|⟨go,Nn,hNn,step⟩
  .refine au (T.done (dE X scope cl (xs++fr) s3 (upd H2 D (.lst [])) fp) rfl rfl rfl hc i _ s5 σ5 H5 _ I5 (stat fr5) st5 stop) λr s6 ⟨hr,I6⟩=>?_
   subst hr;obtain⟨m,hn,_⟩:=I6.loc;have J:Inv X Y U H5 s6:=I3.r8 (ch:=fp) I6.os I6.base I6.hok I6.bare λb hb=>⟨(f3 b hb).2.2.2.1,(f3 b hb).2.1,(f3 b hb).2.2.2.2.1,(f3 b hb).2.2.2.2.2⟩
   have fC:H5 s3.heap.objs.size=none:=I6.free;have nL:s3.heap.objs.size≠X.env.locals:=Ne.symm (nw I3.lt);have nC:∀ z c,X.env.cells.lookup z=some c->c≠s3.heap.objs.size:=λz c e=>by
    obtain⟨v,o,ho,_⟩:=I3.cell z c e;exact nw (ss ho)
   show wpAny _ _ (assign (.Name y py) X.env (.ref D)) _ _ s6;refine wpAny_assign_Name (iU J hN hni (.inl hy) (v:=.ref D) rfl (λs7 J7 hsb=>?_) (.inr hy));obtain⟨a,sb,ha⟩:=hsb;have hne:s3.heap.objs.size≠a:=by
    rcases ha with ha|ha
    .rw[ha];exact nL
    .exact Ne.symm (nC _ _ ha)
   refine⟨m,hn.sameBut sb hne,λh'' hs''=>⟨_,H5,?_,q⟩⟩;exact J7.turned (h':=h'') (t':=s7.toks) (it:=s3.heap.objs.size) (λb o hb e=>(hs''.2 b hb).trans e) fC nL (.inr I3.sz) nC λp hp=>nw (ss (I3.pin p hp).1)
  .have fin:∀ {σ8:St}{H10:Hp}{s10:Shared},Inv (dE X scope cl (xs++fr) s3 (upd H2 D (.lst [])) fp) (X.pn++Y) σ8 H10 s10/\tn (i+1) s10.heap/\(∀ b ∈ fp,H10 b=none)->Nn σ8 H10->∃ m',m'<n/\∃ i σ' H',Inv (dE X scope cl (xs++fr) s3 (upd H2 D (.lst [])) fp) (X.pn++Y) σ' H' s10/\tn i s10.heap/\(∀ b ∈ fp,H' b=none)/\W i m' σ' H':=λ⟨I,t,f⟩ nn=>by
    obtain⟨m',hm,w10⟩:=hNn _ _ nn;exact⟨m',hm,i+1,_,_,I,t,f,w10⟩
   refine au (T.item (dE X scope cl (xs++fr) s3 (upd H2 D (.lst [])) fp) rfl rfl rfl hc i _ s5 σ5 H5 _ I5 (stat fr5) st5 go) λr s6 ⟨u,hr,h6⟩=>?_
   subst hr;refine au h6 λ_ s7 ⟨xv,H7,I7,r7,y7,st7,fr7⟩=>?_
   have I7':=I7.pinned (stat fr7) (T.obj _ _ st7);refine x8 (hg s3 _ fp _ s7 σ5 H7 xv u _ I7' r7 (step xv _ y7)) λ_ s8 ⟨σ8,H8,I8,q8⟩=>?_
   refine x8 ((ht s3 _ fp).2 _ s8 σ8 H8 _ I8 q8) λok s9 ⟨H9,I9,q9⟩=>?_
   have back:∀ {H10:Hp}{s10:Shared},Inv (dE X scope cl (xs++fr) s3 (upd H2 D (.lst [])) fp) _ σ8 H10 s10->Inv (dE X scope cl (xs++fr) s3 (upd H2 D (.lst [])) fp) (X.pn++Y) σ8 H10 s10/\tn (i+1) s10.heap/\(∀ b ∈ fp,H10 b=none):=λ{H10 s10} I10=>⟨I10.cM,T.keep _ _ _ st7 λb hb o e=>(I10.pin (b,o) (gt _ (gt _ (a9 hb e)))).1,λb hb=>by
    obtain⟨o,e,d⟩:=T.obj _ _ st7 b hb;exact(I10.pin (b,o) (gt _ (gt _ (a9 hb e)))).2.1⟩
   refine⟨λek=>?_,λek=>am ⟨rfl,fin (back I9) (q9.2 ek)⟩⟩;refine x8 (he s3 _ fp _ s9 _ _ _ I9 (q9.1 ek)) λuv s10 ⟨vv,H10,I10,r10,zs,hz,hzl,n10⟩=>?_
   refine x8 (iS (X:=dE X scope cl (xs++fr) s3 (upd H2 D (.lst [])) fp) _ s10 _ H10 (.ref D) [vv] (.ref D) [uv] (λ_ H'=>H'=upd H10 D (.lst (zs++[vv]))) I10 rfl (.cons r10 .nil) ⟨D,zs,vv,rfl,rfl,hz,hzl,rfl⟩) λ_ s11 ⟨_,H11,I11,_,e11⟩=>?_
   subst e11;exact am ⟨rfl,fin (back I11) n10⟩
 exact codeAny_compStart_list loop (T.self _ 0 _ _ _ st4 loop)
def pY {elt iter:Expr}{x y:Str}{px py pos spos:Pos}{wi:TI}{te:TE}{ni:Nat}(hc:X.calm=true)(S:aS X scope cl [x] fr sel)(hi:PI X (.Name x px) iter wi)
  (he:∀ (s:Shared) (H:Hp) (fp:List Addr),PE (dE X scope cl (x::fr) s H fp) elt te) (hs:∀ x,foldedSetIterable iter X.env x=pure x) (hN:X.N.Nodup) (hni:X.N[ni]? =some y) (hy:X.env.scope.names.lookup y=some .local)
  (hsw:swapsWith (.ListComp elt [⟨.Name x px,iter,[],0⟩] scope pos) (some (.Name y py)) spos.line X.env=pure true):PS X (.Assign [.Name y py] (.ListComp elt [⟨.Name x px,iter,[],0⟩] scope pos) spos) (λD U H=>D9 wi te sel U H λv H1=>D.nx (U.set ni (some v)) H1):=λY s U H D I h=>
 dM hc S hi.up (λs H fp=>l9 S) (λ_ _ _=>gm) he hs hN hni hy hsw Y s U H D I ⟨_,h,λ_ _ q=>q.g⟩
section
variable {prog:Program}{w:World}{A:Around}{E:EL}
def i5 {it t:Addr}{items:Array Value}(hne:t≠it):∀ (n i:Nat) (s:Shared) (Q:List Value->Shared->Prop),s.heap.IsListIter it t i->s.heap.IsList t items->i+n<=items.size->
  (∀ h',h'.IsListIter it t (i+n)->Heap.SameBut it s.heap h'->Q ((items.toList.drop i).take n) { s with heap:=h' })->wpAny (model prog w) A (draw (.ref it) n) Q E s
 |0,i,s,Q,hit,_,_,hQ=>by
  show wpAny _ _ (pure []) Q E s;exact am (by simpa using hQ s.heap hit (Heap.SameBut.refl ..))
 |n+1,i,s,Q,hit,ht,hle,hQ=>by
  have hlt:i<items.size:=by omega
  show wpAny _ _ (pyNext (.ref it) >>= _) Q E s;refine ad (wpAny_pyNext_list_item hit ht (x:=items[i]) (by simp[hlt]) λh₁ hit₁ hs₁=>?_);refine ad (bd (i5 hne n (i+1) _ _ hit₁ (ht.extBut hs₁.extBut hne) nofun λh₂ hit₂ hs₂=>am ?_));have hd:items.toList.drop i=items[i]::items.toList.drop (i+1):=by simp[List.drop_eq_getElem_cons,hlt]
  have:=hQ h₂ (by rw[show i+(n+1)=i+1+n by omega];exact hit₂) (hs₁.trans hs₂);rw[hd,List.take_succ_cons]at this;exact this
def fm {t:Addr}{items:Array Value}{Q:List Value->Shared->Prop}(hh:A.handled=none)(ht:s.heap.IsList t items)(hty:s.TypeIs (.ref t) "list")
  (hQ:∀ h',Heap.ExtBut s.heap.objs.size s.heap h'->Q items.toList { s with heap:=h' }):wpAny (model prog w) A (unpackItems (.ref t) items.size none) Q E s:=by
 have hlt:t≠s.heap.objs.size:=by obtain⟨o,ho,_⟩:=id ht;exact nw (ss ho)
 unfold unpackItems;refine ad ?_
 .unfold notIterableAtAll;refine ad (wpAny_specialOf hty PySem.F.slot_list_iter.lookup ?_);refine am ?_;simp only[Bool.false_eq_true,if_false];refine ad (bd (wpAny_pyIter_list ht ?_));refine ad (bd (i5 hlt items.size 0 _ _ ⟨_,sw _ rfl,rfl,rfl⟩ (ht.push _) nofun λh₁ hit₁ hs₁=>?_));have hall:List.take items.size (List.drop 0 items.toList)=items.toList:=by
   rw[drop_zero];exact take_of_length_le (by simp)
  rw[hall];rw[if_neg (by simp)];have ht₁:h₁.IsList t items:=(ht.push _).extBut hs₁.extBut hlt;refine ad (bd (wpAny_pyNext_list_end hh hit₁ ht₁ (by simp) λh₂ he₂=>?_));simp only[Option.isSome_none,Bool.false_eq_true,if_false];refine am (hQ h₂ λb o hb e=>he₂ b o hb (hs₁.extBut b o hb (sn _ e)))
end
def As {es:List Expr}{k:Nat}{pos:Pos}{t:vX}{n:Nat}(hc:X.calm=true)(h:zc X es t)
  (hn:(assignEach es X.env).length=n) (hst:(assignEach es X.env).findIdx? (·.1)=none){Y:EM}{U:St}{H:Hp}{a:Addr}{u:Value}{xs:List V}{Q:St->Hp->Prop}(I:Inv X Y U H s) (r:RelV (.ref a) u)
  (hq:aK X.K H a xs) (hl:xs.length=n) (hw:t xs U H Q):wpAny (model X.prog X.w) X.A (assign (.Tuple es k pos) X.env u) (λ_ s'=>∃ σ' H',Inv X Y σ' H' s'/\Q σ' H') X.xe s:=by
 cases r;obtain⟨its,rv,p,hz⟩:=I.list hq;rw[assign_Tuple];refine ad (wpAny_standAt ?_);unfold unpack;have e1:(assignEach es X.env).length=its.toArray.size:=by
  rw[hn,<-hl];simp[rv.length]
 rw[e1,hst];refine ad (bd (fm (I.ok.hd hc) p.isList p.isList.typeIs λh' hx=>?_));have I1:Inv X Y U H { s with heap:=h' }:=I.kept (t':=s.toks) λb o e=>hx b o (nw (ss e)) e
 exact h Y _ U H xs _ Q I1 (by simpa using rv) hw
end
end L2
namespace L3
open PySem PySem.Spec L2
set_option maxHeartbeats 2000000
abbrev rk (S:Sn):List Nat->List Expr->Bool
 | [],[]=>true
 |i::is,.Name x _::r=>S.loc i x&&rk S is r
 |_,_=>false
abbrev Ea (S:Sn):CB->Expr->Bool
 | .nm i,e=>match e with| .Name x _=>S.loc i x|_=>false
 | .tp is,e=>match e with| .Tuple ts _ _=>rk S is ts|_=>false
 | .nt i is,e=>match e with| .Tuple y1 _ _=>(match y1 with| [y2,y3]=>(match y2 with| .Name x _=>(match y3 with| .Tuple ts _ _=>S.loc i x&&rk S is ts|_=>false)|_=>false)|_=>false)|_=>false
mutual
noncomputable def mS (S:Sn):Sx->Stmt->Bool
 | .asg i e,s=>match s with| .Assign y1 e' _=>(match y1 with| [y2]=>(match y2 with| .Name x _=>S.loc i x&&mE S e e'|_=>false)|_=>false)|_=>false
 | .asgT is e,_=>false
 | .par is es,_=>false
 | .sub o i v,s=>match s with| .Assign y1 v' _=>(match y1 with| [y2]=>(match y2 with| .Subscript o' i' _=>mE S o o'&&mE S i i'&&mE S v v'&&dg i'|_=>false)|_=>false)|_=>false
 | .fld o f v,s=>match s with| .Assign y1 v' _=>(match y1 with| [y2]=>(match y2 with| .Attribute o' f' _=>mE S o o'&&decide (f=f')&&mE S v v'|_=>false)|_=>false)|_=>false
 | .aug i op e,_=>false
 | .augS o i op e,s=>match s with| .AugAssign y1 op' e' _=>(match y1 with| .Subscript o' i' _=>mE S o o'&&mE S i i'&&decide (op=op')&&mE S e e'&&dg i'|_=>false)|_=>false
 | .ret e,s=>match s with| .Return y1 _=>(match y1 with|some e'=>mE S e e'|_=>false)|_=>false
 | .retN,_=>false
 | .pass,_=>false
 | .brk,_=>false
 | .cont,_=>false
 | .expr e,s=>match s with| .Expr e' _=>mE S e e'&&nr e'|_=>false
 | .ife c a b,s=>match s with| .If c' a' b' _=>mT S c c'&&mB S a a'&&mB S b b'|_=>false
 | .whl c b,_=>false
 | .for t it b,s=>match s with| .For t' it' b' y1 _=>(match y1 with| []=>Ea S t t'&&mI S it t' it'&&mB S b b'&&cb it'|_=>false)|_=>false
 | .rais e,s=>match s with| .Raise y1 y2 _=>(match y1 with|some e'=>(match y2 with|none=>mE S e e'|_=>false)|_=>false)|_=>false
 | .tryx b hs,s=>match s with| .Try b' y1 y2 y3 _=>(match y1 with|h0::hs'=>(match y2 with| []=>(match y3 with| []=>mB S b b'&&mH S hs (h0::hs')|_=>false)|_=>false)|_=>false)|_=>false
noncomputable def mB (S:Sn):ie->List Stmt->Bool
 | .nil,l=>l.isEmpty
 | .cons s r,l=>match l with|s'::r'=>mS S s s'&&mB S r r'| []=>false
noncomputable def mH (S:Sn):uH->List ExceptHandler->Bool
 | .nil,l=>l.isEmpty
 | .cons c i b hs,l=>match l with| .ExceptHandler (some (.Name x _)) (some n) (b0::bs) _::r=>S.iT x&&decide (S.T.gcl.lookup x=some c)&&decide (S.N[i]? =some n)&&decide (S.sc.names.lookup n=some .local)&&mB S b (b0::bs)&&mH S hs r|_=>false
end
structure Gs (X:Cx) (G:Gx) (S:Sn) (k:Nat) (E:St->XK):Prop extends Gd X G S k E where
 xok:G.cm=true->AI X E
 own:PassesOwn (model X.prog X.w) X.A X.env X.xe
 stk:X.stack=X.env::X.outer
 fr:X.env.frame=some X.env.locals
 fn:∀ x,X.fn x=true
variable {p:Pos}{elt:Expr}{gs:List Comprehension}{scope:Scope}
section
variable {X:Cx}{G:Gx}{S:Sn}{k:Nat}{E:St->XK}
def Gs.dU (g:Gs X G S k E){Y:EM}{xe:EL}{E':St->XK}(hx:AI (X.dU Y xe) E')(ho:PassesOwn (model X.prog X.w) X.A X.env xe):Gs (X.dU Y xe) G S k E' where
 hK:=g.hK
 hT:=g.hT
 sc:=g.sc
 N:=g.N
 nd:=g.nd
 pass:=iD hx
 cm:=g.cm
 room:=g.room
 un:=g.un
 tab:=g.tab
 fns:=g.fns
 xok:=λ_=>hx
 own:=ho
 stk:=g.stk
 fr:=g.fr
 fn:=g.fn
def Gs.aU (g:Gs X G S k E)(e:Value):Gs (X.aU e) { G with cm:=false } S k (λ_ _ _=>False) where
 hK:=g.hK
 hT:=g.hT
 sc:=g.sc
 N:=g.N
 nd:=g.nd
 pass:=λY U H s e s' I h=>by
  obtain⟨e,H',C,dx,fs,T,_,_,_,_,_,_,_,_,_,q⟩:=h;exact q.elim
 cm:=λz=>by cases z
 room:=λz=>by cases z
 un:=g.un
 tab:=g.tab
 fns:=g.fns
 xok:=λz=>by cases z
 own:=PassesOwn.never
 stk:=g.stk
 fr:=g.fr
 fn:=g.fn
def gU (env:Env):∀ {is:List Nat}{ts:List Expr},rk S is ts=true->(assignEach ts env).length=is.length/\(assignEach ts env).findIdx? (·.1)=none
 | [],[],_=>⟨rfl,rfl⟩
 | [],_::_,h=>by simp[rk]at h
 |_::_,[],h=>by simp[rk]at h
 |i::is,t::ts,h=>by
  cases t<;>simp[rk]at h
  rename_i x p;obtain⟨h1,h2⟩:=gU env h.2;have e:assignEach (.Name x p::ts) env=(false,assign (.Name x p) env)::assignEach ts env:=rfl;rw[e];refine⟨by simp[h1],?_⟩;rw[List.findIdx?_cons];simp[h2]
def jU (g:Gs X G S k E):∀ {is:List Nat}{ts:List Expr},rk S is ts=true->zc X ts (gl is)
 | [],[],_=>λY s U H vs us Q I r h=>jc Y s U H vs us Q I r ⟨length_eq_zero_iff.mp h.1,by
   have:=h.2;have e:vs=[]:=length_eq_zero_iff.mp h.1;subst e;exact this⟩
 | [],_::_,h=>by simp[rk]at h
 |_::_,[],h=>by simp[rk]at h
 |i::is,t::ts,h=>by
  cases t<;>simp[rk]at h
  rename_i x p;obtain⟨hi,hx⟩:=g.loc h.1;have h1:PG X (.Name x p) (d7 i):=fc (by rw[g.N];exact g.nd) hi hx (.inl (g.fn x));have h2:=jU g h.2;intro Y s U H vs us Q I r q;refine eP h1 h2 rfl Y s U H vs us Q I r ?_;obtain⟨hl,q⟩:=q;cases vs with
  |nil=>simp at hl
  |cons v vs=>exact⟨v,vs,rfl,by simpa using hl,q⟩
def A9 (g:Gs X G S k E)(hc:G.cm=true){t:CB}{e:Expr}(h:Ea S t e=true):PG X e (λv U H Q=>wG U t G.R.K v H λσ1=>Q σ1 H):=by
 cases t with
 |nm i=>
  conv at h=>lhs;whnf
  split at h
  .obtain⟨hi,hx⟩:=g.loc h;exact fc (by rw[g.N];exact g.nd) hi hx (.inl (g.fn _))
  .cases h
 |tp is=>
  conv at h=>lhs;whnf
  split at h
  .intro Y s U H v u Q I r q;obtain⟨a,xs,rfl,hq,hl,q⟩:=q;obtain⟨e1,e2⟩:=gU X.env h;rw[g.hK]at hq;rcases hq with hq|hq
   .exact jG (g.cm hc) (jU g h) e1 e2 Y s U H _ u Q I r ⟨a,xs,rfl,hq,hl,hl,q⟩
   .exact As (g.cm hc) (jU g h) e1 e2 I r hq hl ⟨hl,q⟩
  .cases h
 |nt i is=>
  conv at h=>lhs;whnf
  split at h
  .split at h
   .split at h
    .split at h
     .intro Y s U H v u Q I r q;simp only[lv]at h;obtain⟨a,y,b,ys,rfl,hq,hb,hl,q⟩:=q;obtain⟨e1,e2⟩:=gU X.env h.2;obtain⟨hi,hx⟩:=g.loc h.1;rw[g.hK]at hq hb;refine jG (n:=2) (g.cm hc) (eP (fc (by rw[g.N];exact g.nd) hi hx (.inl (g.fn _))) (eP (jG (g.cm hc) (jU g h.2) e1 e2) jc rfl) rfl) rfl rfl Y s U H _ u Q I r ⟨a,_,rfl,hq,rfl,y,_,rfl,.ref b,_,rfl,b,ys,rfl,hb,hl,hl,rfl,q⟩
     .cases h
    .cases h
   .cases h
  .cases h
def pz {e o i:Expr}(n:Nat)(env:Env):swapsWithSole [.Subscript o i p] e n env=pure false:=by
 cases e<;>rfl
def qq {e o:Expr}{f:Str}(n:Nat)(env:Env):swapsWith e (some (.Attribute o f p)) n env=pure false:=by
 cases e<;>rfl
def lL {e o i:Expr}(env:Env):swappedStores [.Subscript o i p] e env=pure none:=by
 cases e<;>rfl
def lK {o i:Expr}{pos:Pos}{env:Env}(h:dg i=true):∀ v,assign (.Subscript o i pos) env v=(do
   let ov <-holding [v] (eval o env)
   let iv <-holding [v,ov] (eval i env)
   standAt pos
   holding [v,ov,iv] (setItem ov iv v)
   release [v,ov,iv] []):=by
 intro v;cases i<;>first|rfl|cases h
def vw {i:Expr}(h:dg i=true):∀ ov iv new,augStore i ov iv new=(do holding [new,ov,iv] (setItem ov iv new);release [new,ov,iv] [];pure .next):=by
 intro ov iv new;cases i<;>first|rfl|cases h
def B3 (op:Operator):CL X op (Dr op):=by
 intro Y s U H x y v u Q I r1 r2 h;unfold Dr at h
 split at h
 .exact zx Y s U H _ _ v u Q I r1 r2 ⟨_,_,rfl,rfl,h⟩
 .exact yW Y s U H _ _ v u Q I r1 r2 ⟨_,_,rfl,rfl,h⟩
 .exact h.elim
def yo (g:Gd X G S k E):zU X (t6 G.R.K):=by
 intro Y s U H x y v u Q I r1 r2 h;unfold t6 at h;rw[g.hK]at h
 split at h
 .obtain⟨xs,w,h1,h2,h3,q⟩:=h;exact sP Y s U H _ _ v u Q I r1 r2 ⟨_,xs,_,w,rfl,rfl,h1,h2,h3,q⟩
 .exact h.elim
def lJ {py:Pos}{y:Str}{n:Nat}{env:Env}(hk:env.scope.kind=.function):∃ b,swapsWith (.ListComp elt gs scope p) (some (.Name y py)) n env=pure b/\(b=true->env.scope.names.lookup y=some .local):=by
 refine⟨_,rfl,λh=>?_⟩;simp only[lv]at h;have:=h.1.1.2;exact beq_iff_eq.mp this
end
set_option maxHeartbeats 2000000
variable {S:Sn}
section
variable {k:Nat}
def BW {x:Ex}(h:mE S x (.ListComp elt gs scope p)=true):(∃ e' sel it y py iter,x=.lc e' sel it/\gs=[⟨.Name y py,iter,[],0⟩]/\
  dQ S scope [y] sel=true/\mI S it (.Name y py) iter=true/\mE { S with sc:=cF S.sc scope,N:=y::sel.filterMap λi=>S.N[i]? } e' elt=true/\cb iter=true)\/
  (∃ e' c sel it y py iter c',x=.lci e' c sel it/\gs=[⟨.Name y py,iter,[c'],0⟩]/\
  dQ S scope [y] sel=true/\mI S it (.Name y py) iter=true/\mE { S with sc:=cF S.sc scope,N:=y::sel.filterMap λi=>S.N[i]? } e' elt=true/\mT { S with sc:=cF S.sc scope,N:=y::sel.filterMap λi=>S.N[i]? } c c'=true/\cb iter=true)\/
  ∃ e' n sel it ts kt pt iter,x=.lct e' n sel it/\gs=[⟨.Tuple ts kt pt,iter,[],0⟩]/\
  dQ S scope (vm ts) sel=true/\qJ { S with sc:=cF S.sc scope,N:=vm ts++sel.filterMap λi=>S.N[i]? } (List.range n) ts=true/\(vm ts).length=n/\mI S it (.Tuple ts kt pt) iter=true/\mE { S with sc:=cF S.sc scope,N:=vm ts++sel.filterMap λi=>S.N[i]? } e' elt=true/\cb iter=true:=by
 cases x<;>(try (cases(show false=true from h);done))
 all_goals (conv at h=>lhs;whnf)
 all_goals (iterate 5 (split at h<;>first|(cases h;done)|skip))
 all_goals (simp only[lv,decide_eq_true_eq]at h)
 all_goals first
  |exact .inl ⟨_,_,_,_,_,_,rfl,rfl,h.1.1.1,h.1.1.2,h.1.2,h.2⟩
  |exact .inr (.inl ⟨_,_,_,_,_,_,_,_,rfl,rfl,h.1.1.1.1,h.1.1.1.2,h.1.1.2,h.1.2,h.2⟩)
  |exact .inr (.inr ⟨_,_,_,_,_,_,_,_,rfl,rfl,h.1.1.1.1.1,h.1.1.1.1.2,h.1.1.1.2,h.1.1.2,h.1.2,h.2⟩)
def m8 (e:Expr){x:Ex}(h:mE S x e=true):nr e=true\/∃ elt gs scope p,e=.ListComp elt gs scope p:=by
 cases e<;>first|exact .inl rfl|exact .inr ⟨_,_,_,_,rfl⟩|(cases x<;>cases(show false=true from h))
def BX {G:Gx}{X:Cx}{E:St->XK}(g:Gs X G S k E){i:Nat}{x:Str}{e:Ex}{e':Expr}{px:Pos}(hx:S.loc i x=true)(h:mE S e e'=true):PS X (.Assign [.Name x px] e' p) (λD U H=>wS (.asg i e) G D E U H):=by
 obtain⟨hi,hl⟩:=g.loc hx;have hN:X.N.Nodup:=by rw[g.N];exact g.nd
 rcases m8 e' h with hn|⟨elt,gs,scope,pp,rfl⟩
 .exact ur hN hi hl (sE e g.toGd h) (eI hn _ _ _) (.inl (g.fn x))
 .intro Y s U H D I q;obtain⟨b,hb,hb2⟩:=lJ (elt:=elt) (gs:=gs) (scope:=scope) (p:=pp) (py:=px) (y:=x) (n:=p.line) (env:=X.env) I.ok.kind;cases b with
  |false=>exact ur hN hi hl (sE e g.toGd h) hb (.inl (g.fn x)) Y s U H D I q
  |true=>
   rcases BW h with⟨e2,sel,it,y,py,iter,rfl,rfl,h1,h2,h3,h4⟩|⟨e2,c,sel,it,y,py,iter,c',rfl,rfl,h1,h2,h3,h5,h4⟩|⟨e2,n,sel,it,ts,kt,pt,iter,rfl,rfl,h1,h5,h6,h2,h3,h4⟩
   .obtain⟨hc,q⟩:=(show G.cm=true/\wI G it U H (λJ H1=>t8 (λσ' H' Q'=>wE G e2 σ' H' Q' (λ_ _=>False)) J (none::eY U sel) H1 (λx H1=>D.nx (U.set i (some x)) H1)) (E U) from q);rw[rH]at q;obtain⟨cl,C⟩:=bI g.toGd I.ok h1;exact pY (g.cm hc) C (sI it g.toGd h2) (λs H fp=>sE e2 (g.toGd.comp C s H fp) h3) (a8 h4 _) hN hi (hb2 rfl) hb Y s U H D I q
   .cases(show false=true from h)
   .obtain⟨hc,q⟩:=(show G.cm=true/\wI G it U H (λJ H1=>LCt G.R.K n (λσ' H' Q'=>wE G e2 σ' H' Q' (λ_ _=>False)) J (re n none++eY U sel) H1 (λx H1=>D.nx (U.set i (some x)) H1)) (E U) from q);rw[sD,<-pd h6]at q;obtain⟨cl,C⟩:=bI g.toGd I.ok h1;exact dM (g.cm hc) C (sI it g.toGd h2) (λs H fp=>nG (g.toGd.comp C s H fp) hc h5) (λs H fp=>gm) (λs H fp=>sE e2 (g.toGd.comp C s H fp) h3) (a8 h4 _) hN hi (hb2 rfl) hb Y s U H D I q
mutual
theorem sS:∀ (x:Sx){G:Gx}{X:Cx}{S:Sn}{E:St->XK},Gs X G S k E->∀ {st:Stmt},mS S x st=true->PS X st (λD U H=>wS x G D E U H)
 | .asg i e,G,X,S,E,g,st,h=>by
  sleep 3
  simp only[lv]at h;exact BX g h.1 h.2
 | .asgT is e,G,X,S,E,g,st,h=>by cases(show false=true from h)
 | .par is es,G,X,S,E,g,st,h=>by cases(show false=true from h)
 | .sub o i v,G,X,S,E,g,st,h=>by
  sleep 3
  simp only[lv]at h;obtain⟨⟨⟨h1,h2⟩,h3⟩,h4⟩:=h;exact yw (sE v g.toGd h3) (zp (sE o g.toGd h1) (sE i g.toGd h2) (nH g.un) (lK h4)) (pz _ _) (lL _) rfl
 | .fld o f v,G,X,S,E,g,st,h=>by
  sleep 3
  simp only[lv,decide_eq_true_eq]at h;obtain⟨⟨h1,rfl⟩,h3⟩:=h;intro Y s U H D I q;have q':wE G v U H (λy H1=>wE G o U H1 (λx H2=>zJ G f x y H2 (λH3=>D.nx U H3)) (E U)) (E U):=q;refine plainObj_wpAny_Assign_Attribute (au (sE v g.toGd h3 Y s U H _ I q') λu s1 ⟨y,H1,I1,ry,q⟩=>au (sE o g.toGd h1 Y s1 U H1 _ I1 q) λov s2 ⟨x,H2,I2,rx,q2⟩=>?_) (qq _ _);unfold zJ at q2;obtain⟨a,i,rfl,hna,q2⟩:=q2;obtain rfl:ov=Value.ref a:=rx;have n:=g.tab.na i f hna;rcases q2 with⟨dx,fs,ho,ea,l,q2⟩|⟨d,fs,fr,ho,ea,l,q2⟩|⟨fr,ho,ea,q2⟩
  .exact mw I2 ea (g.tab.oc i ho).1 n l ry λs3 I3=>⟨U,_,I3,q2⟩
  .exact mL I2 ea (g.tab.xc i ho).1 n l ry λs3 I3=>⟨U,_,I3,q2⟩
  .exact mZ I2 ea (g.tab.xc i ho).1 n ry λd s3 hd I3=>⟨U,_,I3,q2 d hd⟩
 | .aug i op e,G,X,S,E,g,st,h=>by cases(show false=true from h)
 | .augS o i op e,G,X,S,E,g,st,h=>by
  sleep 2
  simp only[lv,decide_eq_true_eq]at h;obtain⟨⟨⟨⟨h1,h2⟩,rfl⟩,h3⟩,h4⟩:=h;exact wq (sE o g.toGd h1) (sE i g.toGd h2) (yo g.toGd) (sE e g.toGd h3) (B3 op) (nH g.un) (vw h4)
 | .ret e,G,X,S,E,g,st,h=>by
  sleep 2
  exact zX (sE e g.toGd h)
 | .retN,G,X,S,E,g,st,h=>by cases(show false=true from h)
 | .pass,G,X,S,E,g,st,h=>by cases(show false=true from h)
 | .brk,G,X,S,E,g,st,h=>by cases(show false=true from h)
 | .cont,G,X,S,E,g,st,h=>by cases(show false=true from h)
 | .expr e,G,X,S,E,g,st,h=>by
  sleep 1
  simp only[lv]at h;exact vL (sE e g.toGd h.1) (eI h.2 _ _ _)
 | .ife c a b,G,X,S,E,g,st,h=>by
  sleep 1
  simp only[lv]at h;exact PS.imp (Be (PT.bX (sT c g.toGd h.1.1)) (sB a g h.1.2) (sB b g h.2)) λD U H q=>⟨_,q,λk H1 z=>by rwa [c5]at z⟩
 | .whl c b,G,X,S,E,g,st,h=>by cases(show false=true from h)
 | .for t it b,G,X,S,E,g,st,h=>by
  sleep 2
  simp only[lv]at h;obtain⟨⟨⟨h1,h2⟩,h3⟩,h4⟩:=h;intro Y s U H D I q
  conv at q=>whnf
  obtain⟨hc,q⟩:=q;unfold hX at q;exact yV g.own (g.cm hc) (sI it g.toGd h2) (A9 g hc h1) (sB b g h3) (a8 h4 _) Y s U H D I q
 | .rais e,G,X,S,E,g,st,h=>by
  sleep 3
  intro Y s U H D I q
  conv at q=>whnf
  obtain⟨hc,q⟩:=q;refine tW (g.xok hc) (g.cm hc) (PE.bX (sE e g.toGd h)) Y s U H D I ⟨_,q,λv H1 z=>?_⟩;obtain⟨a,i,dx,fs,ev,ea,hi,q⟩:=z;exact⟨a,_,dx,fs,ev,ea,(g.tab.xc i hi).1,q⟩
 | .tryx b hs,G,X,S,E,g,st,h=>by
  sleep 4
  simp only[lv]at h;intro Y s U H D I q;obtain⟨hc,q⟩:=(show G.cm=true/\wB b G D (λσ' e H'=>wH hs G D σ' e H') U H from q);refine ym (E':=λσ' e H'=>wH hs G D σ' e H') I g.stk g.fr (λxe hx ho=>?_) λσ' H' s' e C dx fs T J he hT hH hp st q'=>?_
  .exact sB b (g.dU hx ho) h.1 [] s U H D (I.dU xe) q
  .exact sH hs g h.2 J he hT hH hp st q'
theorem sB:∀ (x:ie){G:Gx}{X:Cx}{S:Sn}{E:St->XK},Gs X G S k E->∀ {st:List Stmt},mB S x st=true->x6 X st (λD U H=>wB x G D E U H)
 | .nil,G,X,S,E,g,[],h=>vp
 | .nil,G,X,S,E,g,_::_,h=>by cases(show false=true from h)
 | .cons x xs,G,X,S,E,g,[],h=>by cases(show false=true from h)
 | .cons x xs,G,X,S,E,g,st::sts,h=>by
  have h:(mS S x st&&mB S xs sts)=true:=h;simp only[lv]at h;exact uE (sS x g h.1) (sB xs g h.2)
theorem sH:∀ (x:uH){G:Gx}{X:Cx}{S:Sn}{E:St->XK},Gs X G S k E->∀ {hs:List ExceptHandler},mH S x hs=true->∀ {Y:EM}{U:St}{H:Hp}{s:Shared}{e C:Addr}{dx:Option Addr}{fs:List (Str×V)}{T:Addr}{D:Ends},
  L2.Inv X Y U H s->H e=some (.exc C dx fs false)->X.s₀.heap.objs.size<=T->H T=none->(∀ p ∈ X.pn++Y,p.1≠T)->uG s.heap e T .none->wH x G D U e H->wpAny (model X.prog X.w) X.A (handleBy (.ref e) X.env hs) (SP X Y D) X.xe s
 | .nil,G,X,S,E,g,hs,h,Y,U,H,s,e,C,dx,fs,T,D,I,he,hT,hH,hp,st,q=>by
  simp only[wH]at q
 | .cons c i b hs,G,X,S,E,g,l,h,Y,U,H,s,e,C,dx,fs,T,D,I,he,hT,hH,hp,st,q=>by
  conv at h=>lhs;whnf
  split at h
  .simp only[lv,decide_eq_true_eq]at h;obtain⟨⟨⟨⟨⟨h1,h2⟩,h3⟩,h4⟩,h5⟩,h6⟩:=h;obtain⟨hg,hdb⟩:=g.glob h1;have hm:=g.tab.gcl _ _ (g.hT▸h2);obtain⟨j,dx',fs',kk,he',hxc,hsub,q⟩:=(show ∃ j dx fs k,H e=some (.exc (G.R.cad j) dx fs false)/\G.T.xc.contains j=true/\G.T.sub.lookup (j,c)=some k/\_ from q);have ee:=he.symm.trans he'
   injection ee with ee
   injection ee with e1 e2 e3 e4
   subst e1;obtain⟨_,hs2⟩:=g.tab.sub j c kk hsub;obtain⟨hs3,hs4⟩:=hs2 hxc;refine j3 (i:=i) I he hT hH hp st (g.tab.xc j hxc).1 hs4 hs3 hg hm (by rw[g.N];exact g.nd) (by rw[g.N];exact h3) (by rw[g.sc];exact h4) hdb (λhk s2 J=>?_) λhk=>?_
   .rw[hk]at q;unfold gb at q;exact sB b (g.aU (.ref e)) h5 Y s2 _ H _ J q
   .rw[hk]at q;unfold gb at q;exact sH hs g h6 I he hT hH hp st q
  .cases h
end
end
abbrev bW (T:Tab)(R:Rt):Nat->Nat->Sp
 |0,_=>λ_ _ _ _=>False
 |k+1,f=>λvs H Q E=>match T.fns[f]? with
  |some d=>vs.length=d.ps.length/\wB d.body ⟨T,R,bW T R k,true⟩ { nx:=λ_ H'=>Q .non H',rt:=Q } (λ_=>E) (start d.N vs) H
  |none=>False
structure pE (K:W.Frag) (T:Tab) (f:Addr) (d:aA):Prop where
 ex:∃ (name qual:Str) (params:Arguments) (body:List Stmt) (scope:Scope) (dV kV doc pm cdv ct oc:Value) (od an:Option Addr) (osl:Array (Option Value)),
  K.lookup f=some ⟨oc,od,.func (W.fnOf name qual params body scope dV kV doc pm an cdv ct),osl⟩/\W.codeIn K cdv qual=true/\gi d.N d.ps scope/\mB ⟨T,scope,d.N⟩ d.body body=true/\
  ∀ j,∃ ds,Binds K (W.fnOf name qual params body scope dV kV doc pm an cdv ct) d.ps ds/\Vals (d.dfl.drop j) ds
def uA {P:Program}{w:World}{K:W.Frag}{mg:EN}{base:Heap}{T:Tab}{R:Rt}(tab:vP K mg T R)(hK:R.K=K)(fs:∀ f d,T.fns[f]? =some d->pE K T (R.fad f) d):
  ∀ (k f:Nat) (d:aA),T.fns[f]? =some d->qU P w K mg base (2*k) (R.fad f) d (bW T R k f)
 |0,f,d,hd=>by
  obtain⟨name,qual,params,body,scope,dV,kV,doc,pm,cdv,ct,oc,od,an,osl,lk,hcd,S,hm,hb⟩:=(fs f d hd).ex;exact⟨⟨_,⟨λ_ _ _ _ h=>h.elim,λ_ _ _ _ _ _ _ _ _ _ _ _ _ h=>h.elim⟩,hb⟩,λ_ _ _ _ _=>⟨λ_ _ _ _ h=>h.elim,λ_ _ _ _ _ _ _ _ _ _ _ _ _ h=>h.elim⟩⟩
 |k+1,f,d,hd=>by
  obtain⟨name,qual,params,body,scope,dV,kV,doc,pm,cdv,ct,oc,od,an,osl,lk,hcd,S,hm,hb⟩:=(fs f d hd).ex;have F:=BR (P:=P) (w:=w) (mg:=mg) (base:=base) (CX:=tQ P w) (k:=2*k+1) (sp:=bW T R (k+1) f) lk hcd S (λvs H Q E h=>?_) (λA outer s H vs Q E hr h=>?_)
  .refine⟨⟨_,F,hb⟩,λfd oc' od' osl' lk'=>?_⟩;have e:=lk.symm.trans lk'
   injection e with e
   injection e with e1 e2 e3 e4
   injection e3 with e3
   subst e3;exact F
  .simp only[bW,hd]at h;exact h.1
  .simp only[bW,hd]at h;refine⟨λD U H=>wB d.body ⟨T,R,bW T R k,true⟩ D (λ_=>E) U H,?_,h.2⟩;have hx:=pD (P:=P) (w:=w) (K:=K) (mg:=mg) (base:=base) (N:=d.N) (qual:=qual) (scope:=scope) (f:=R.fad f) (cd:=cdv) (A:=A) (outer:=outer) (E:=E) (s:=s) (H:=H);refine sB (k:=2*k) d.body (G:=⟨T,R,bW T R k,true⟩) (S:=⟨T,scope,d.N⟩) { hK:=hK,hT:=rfl,sc:=rfl,N:=rfl,nd:=S.nd,pass:=iD hx,cm:=λ_=>rfl,room:=λ_=>hr,un:= ?_,tab:=tab,fns:=λf' d' hd'=>uA tab hK fs k f' d' hd',xok:=λ_=>hx,own:=PassesOwn.leaving,stk:=rfl,fr:=rfl,fn:=λ_=>rfl } hm;have:=hr.un;show(A.deeper _).units+200<cLine
   omega
abbrev fU (K:W.Frag)(n:Nat):Sp:=λvs H Q _=>∃ (a:Addr) (ns:List Int),vs=[.ref a]/\aK K H a (ns.map V.int)/\ns.length<=n/\∀ H',Q (.bl true) H'
variable {P:Program}
def sj {w:World}{H:Hp}{s:Shared}{e:Value}{s':Shared}(h:tQ P w [] H s (λ_ _=>False) e s'):False:=by
 obtain⟨e,H',C,dx,fs,T,_,_,_,_,_,_,_,_,_,q⟩:=h;exact q
variable {K:W.Frag}{fd:FuncData}{ps:List Str}
def Ae (h:Binds K fd ps []):∀ j:Nat,∃ ds,Binds K fd ps ds/\Vals (([]:List V).drop j) ds:=λj=>⟨[],h,by simp;exact .nil⟩
def vo {ds:List Value}{T:Addr}{o:Obj}{items:Array Value}{c n:Nat}(hd:fd.defaults=.ref T)(ho:K.lookup T=some o)(hs:o.data=.seq items c)(hn:n+ds.length=ps.length)
  (h:∀ us:List Value,us.length=n->∃ k:Option (Array Value)->Sem (List (Str×Value)),bindArgs fd ⟨us,[]⟩=seqItems? fd.defaults >>= k/\k (some items)=pure (ps.zip (us++ds))):Binds K fd ps ds:=λs us X hl=>by
 obtain⟨k,h1,h2⟩:=h us (by rw[ci]at hl;omega);exact W.binds_K X hd ho hs h1 h2
def iK:∀ {vs:List V}{us:List Value}(j:Nat),Vals vs us->Vals (vs.drop j) (us.drop j)
 |_,_,0,h=>h
 |_,_,j+1,.nil=>by simp;exact .nil
 |_::_,_::_,j+1,.cons _ h=>by simpa using iK j h
def mn {α β:Type} [BEq α] [LawfulBEq α] {x:α}{y:β}:∀ {l:List (α×β)},l.lookup x=some y->(x,y) ∈ l
 | [],h=>by simp at h
 |(a,b)::l,h=>by
  rw[lookup_cons]at h;cases e:x ==a with
  |true=>
   rw[e]at h;have:=beq_iff_eq.mp e;subst this
   injection h with h
   subst h;exact lf
  |false=>
   rw[e]at h;exact dl _ (mn h)
def gI {α β:Type} [BEq α] [LawfulBEq α] {P:α->β->Prop}{l:List (α×β)}(h:∀ p ∈ l,P p.1 p.2):∀ x y,l.lookup x=some y->P x y:=λx y e=>h (x,y) (mn e)
def eK {α β γ:Type} [BEq α] [LawfulBEq α] [BEq β] [LawfulBEq β] {P:α->β->γ->Prop}{l:List ((α×β)×γ)}(h:∀ p ∈ l,P p.1.1 p.1.2 p.2):∀ x y z,l.lookup (x,y)=some z->P x y z:=λx y z e=>h ((x,y),z) (mn e)
def fw {α:Type} [BEq α] [LawfulBEq α] {P:α->Prop}{l:List α}(h:∀ p ∈ l,P p):∀ x,l.contains x=true->P x:=λx e=>h x (by simpa using e)
def vN {α β:Type} [BEq α] [LawfulBEq α] [BEq β] [LawfulBEq β] {P:α->β->Prop}{l:List (α×β)}(h:∀ p ∈ l,P p.1 p.2):∀ x y,l.contains (x,y)=true->P x y:=λx y e=>h (x,y) (by simpa using e)
abbrev oA (P:Nat->aA->Prop):Nat->List aA->Prop
 |_,[]=>True
 |n,d::r=>P n d/\oA P (n+1) r
def xS {P:Nat->aA->Prop}:∀ {l:List aA}{n:Nat},oA P n l->∀ f d,l[f]? =some d->P (n+f) d
 | [],_,_,f,d,e=>by simp at e
 |a::l,n,h,0,d,e=>by
  have:a=d:=by simpa using e
  subst this;exact h.1
 |a::l,n,h,f+1,d,e=>by
  have:=xS h.2 f d (by simpa using e)
  rwa [Nat.add_assoc,Nat.add_comm 1 f]at this
def lU {P:Nat->aA->Prop}{l:List aA}(h:oA P 0 l):∀ f d,l[f]? =some d->P f d:=λf d e=>by
 have:=xS h f d e
 rwa [Nat.zero_add]at this
def Al {w:World}{mg:EN}{base:Heap}{T:Tab}{R:Rt}(tab:vP K mg T R)(hK:R.K=K)(fs:∀ f d,T.fns[f]? =some d->pE K T (R.fad f) d) (k fl:Nat) (d:aA) (hd:T.fns[fl]? =some d)
  {oc:Value}{od:Option Addr}{osl:Array (Option Value)}(lk:K.lookup (R.fad fl)=some ⟨oc,od,.func fd,osl⟩) (h:∀ vs H Q E,fU K 63 vs H Q E->bW T R k fl vs H Q E):bV P w K mg base (tQ P w) (2*k) (R.fad fl) fd d.ps (fU K 63):=
 ((uA tab hK fs k fl d hd).own _ _ _ _ lk).imp h
end L3
namespace L3
open PySem L2
abbrev ik:HO->HO
 | .lst _=>.lst []
 | .dK _=>.dK []
 | .dT _=>.dT []
 | .fZ _ (.dK _)=>.dK []
 | .ins C dx _=>.ins C dx []
 | .exc C _ _ _=>.exc C none [] false
 |o=>o
abbrev kd:HO->Option String
 | .lst _=>some "list"
 | .tup _=>some "tuple"
 | .dK _=>some "dict"
 | .fZ _ (.dK _)=>some "dict"
 |_=>none
def nX (o:HO):kd (ik o)=kd o:=by
 cases o<;>first|rfl|(rename_i u;cases u<;>rfl)
abbrev gh (H H':Hp):Prop:=∀ a o,H a=some o->∃ o',H' a=some o'/\ik o'=ik o
def gh.tup {H H':Hp}(g:gh H H'){t:Addr}{xs:List V}(h:H t=some (.tup xs)):H' t=some (.tup xs):=by
 obtain⟨o',h1,h2⟩:=g t _ h;have key:∀ u:HO,ik u=.tup xs->u=.tup xs:=λu=>by cases u<;>intro e<;>first|exact e|cases e|(rename_i v;cases v<;>cases e)
 rw[key o' h2]at h1;exact h1
variable {H:Hp}{t:String}
def gh.ty {H':Hp}(g:gh H H'){v:V}(h:tyName v H=some t):tyName v H'=some t:=by
 cases v<;>try exact h
 rename_i a;have h':(match H a with|some (.lst _)=>some "list"|some (.tup _)=>some "tuple"|some (.dK _)=>some "dict"|some (.fZ _ (.dK _))=>some "dict"|_=>none)=some t:=h;show(match H' a with|some (.lst _)=>some "list"|some (.tup _)=>some "tuple"|some (.dK _)=>some "dict"|some (.fZ _ (.dK _))=>some "dict"|_=>none)=some t;cases e:H a with
 |none=>rw[e]at h';cases h'
 |some o=>
  rw[e]at h';obtain⟨o',h1,h2⟩:=g a _ e;rw[h1];have key:kd o'=kd o:=by rw[<-nX o',<-nX o,h2]
  have k1:∀ u:HO,(match some u with|some (HO.lst _)=>some "list"|some (.tup _)=>some "tuple"|some (.dK _)=>some "dict"|some (.fZ _ (.dK _))=>some "dict"|_=>none)=kd u:=λu=>by cases u<;>first|rfl|(rename_i v;cases v<;>rfl)
  rw[k1]at h'⊢;rw[key];exact h'
variable {a:Addr}{xs:List V}
def vc (e:H a=some (.lst xs)):tyName (.ref a) H=some "list":=by
 show(match H a with|some (.lst _)=>some "list"|some (.tup _)=>some "tuple"|some (.dK _)=>some "dict"|some (.fZ _ (.dK _))=>some "dict"|_=>none)=_;rw[e]
def gh.upd {o o':HO}(h:H a=some o)(e:ik o'=ik o):gh H (L2.upd H a o'):=λb u hb=>by
 by_cases z:b=a
 .subst z;rw[h]at hb;cases hb;exact⟨o',aj,e⟩
 .exact⟨u,(af z).trans hb,rfl⟩
def gh.new {o':HO}(h:H a=none):gh H (L2.upd H a o'):=λb u hb=>⟨u,(af λz=>by rw[z,h]at hb;cases hb).trans hb,rfl⟩
structure ah where
 p:Hp->(Addr->Prop)->Prop
 st:∀ H H' D,p H D->(∀ a,D a->H' a=H a)->gh H H'->p H' D
 up:∀ H D D',p H D->(∀ a,D a->D' a)->p H D'
abbrev pt (a:Addr)(o:HO):ah:=⟨λH D=>D a/\H a=some o,λH H' D h k _=>⟨h.1,(k a h.1).trans h.2⟩,λH D D' h k=>⟨k a h.1,h.2⟩⟩
abbrev tu (t:Addr)(xs:List V):ah:=⟨λH _=>H t=some (.tup xs),λH H' D h _ k=>k.tup h,λH D D' h _=>h⟩
abbrev tys (xs:List V):ah:=⟨λH _=>∀ x ∈ xs,∃ t,tyName x H=some t,λH H' D h _ k x hx=>let⟨t,e⟩:=h x hx;⟨t,k.ty e⟩,λH D D' h _=>h⟩
abbrev pu (φ:Prop):ah:=⟨λ_ _=>φ,λ_ _ _ h _ _=>h,λ_ _ _ h _=>h⟩
abbrev ex {α:Type}(f:α->ah):ah:=⟨λH D=>∃ x,(f x).p H D,λH H' D ⟨x,h⟩ k t=>⟨x,(f x).st H H' D h k t⟩,λH D D' ⟨x,h⟩ k=>⟨x,(f x).up H D D' h k⟩⟩
abbrev jV (A B:ah):ah:=⟨λH D=>∃ D1 D2:Addr->Prop,(∀ a,D1 a->D a)/\(∀ a,D2 a->D a)/\(∀ a,D1 a->D2 a->False)/\A.p H D1/\B.p H D2,
 λH H' D ⟨D1,D2,s1,s2,dj,h1,h2⟩ k t=>⟨D1,D2,s1,s2,dj,A.st H H' D1 h1 (λa z=>k a (s1 a z)) t,B.st H H' D2 h2 (λa z=>k a (s2 a z)) t⟩,
 λH D D' ⟨D1,D2,s1,s2,dj,h1,h2⟩ k=>⟨D1,D2,λa z=>k a (s1 a z),λa z=>k a (s2 a z),dj,h1,h2⟩⟩
abbrev aQ:List ah->Hp->(Addr->Prop)->Prop
 | [],_,_=>True
 |A::O,H,D=>∃ D1 D2:Addr->Prop,(∀ a,D1 a->D a)/\(∀ a,D2 a->D a)/\(∀ a,D1 a->D2 a->False)/\A.p H D1/\aQ O H D2
abbrev Sep (O:List ah)(H:Hp):Prop:=∃ D:Addr->Prop,(∀ a,D a->H a≠none)/\aQ O H D
inductive ai (A:ah):List ah->List ah->Prop where
 |e {O:List ah}:ai A (A::O) O
 |t {B:ah}{O Γ':List ah}(h:ai A O Γ'):ai A (B::O) (B::Γ')
variable {g:List ah}
section
variable {A B:ah}{O Γ':List ah}{H H':Hp}{a b p t:Addr}{o o':HO}{xs:List V}{φ:Prop}
def aQ.st:∀ {O:List ah}{H H':Hp}{D:Addr->Prop},aQ O H D->(∀ a,D a->H' a=H a)->gh H H'->aQ O H' D
 | [],_,_,_,_,_,_=>True.intro
 |A::O,H,H',D,⟨D1,D2,s1,s2,dj,h1,h2⟩,k,t=>⟨D1,D2,s1,s2,dj,A.st H H' D1 h1 (λa z=>k a (s1 a z)) t,aQ.st h2 (λa z=>k a (s2 a z)) t⟩
def aQ.up:∀ {O:List ah}{H:Hp}{D D':Addr->Prop},aQ O H D->(∀ a,D a->D' a)->aQ O H D'
 | [],_,_,_,_,_=>True.intro
 |A::O,H,D,D',⟨D1,D2,s1,s2,dj,h1,h2⟩,k=>⟨D1,D2,λa z=>k a (s1 a z),λa z=>k a (s2 a z),dj,h1,h2⟩
def Sep.nil:Sep [] H:=⟨λ_=>False,λ_ z=>z.elim,True.intro⟩
def aQ.pull:∀ {O Γ':List ah}{D:Addr->Prop},ai A O Γ'->aQ O H D->aQ (A::Γ') H D:=by
 intro O Γ' D h
 induction h generalizing D with
 |e=>exact λz=>z
 |t h ih=>
  rintro⟨D1,D2,s1,s2,dj,h1,h2⟩;obtain⟨E1,E2,t1,t2,ej,k1,k2⟩:=ih h2;refine⟨E1,λa=>D1 a\/E2 a,λa z=>s2 a (t1 a z),λa z=>z.elim (s1 a) λz=>s2 a (t2 a z),λa z1 z2=>?_,k1,D1,E2,λa z=>.inl z,λa z=>.inr z,λa z1 z2=>dj a z1 (t2 a z2),h1,k2⟩;rcases z2 with z2|z2
  .exact dj a z2 (t1 a z1)
  .exact ej a z1 z2
def Sep.pull (h:ai A O Γ')(s:Sep O H):Sep (A::Γ') H:=let⟨D,k,z⟩:=s;⟨D,k,aQ.pull h z⟩
def aQ.push:∀ {O Γ':List ah}{D:Addr->Prop},ai A O Γ'->aQ (A::Γ') H D->aQ O H D:=by
 intro O Γ' D h
 induction h generalizing D with
 |e=>exact λz=>z
 |t h ih=>
  rintro⟨D1,D2,s1,s2,dj,h1,E1,E2,t1,t2,ej,k1,k2⟩;refine⟨E1,λa=>D1 a\/E2 a,λa z=>s2 a (t1 a z),λa z=>z.elim (s1 a) λz=>s2 a (t2 a z),λa z1 z2=>?_,k1,ih ⟨D1,E2,λa z=>.inl z,λa z=>.inr z,λa z1 z2=>dj a z1 (t2 a z2),h1,k2⟩⟩;rcases z2 with z2|z2
  .exact dj a z2 (t1 a z1)
  .exact ej a z1 z2
def Sep.push (h:ai A O Γ')(s:Sep (A::Γ') H):Sep O H:=let⟨D,k,z⟩:=s;⟨D,k,aQ.push h z⟩
def Sep.drop (s:Sep (A::O) H):Sep O H:=let⟨D,k,D1,D2,s1,s2,dj,h1,h2⟩:=s;⟨D2,λa z=>k a (s2 a z),h2⟩
def Sep.at (s:Sep (pt a o::O) H):H a=some o:=let⟨D,k,D1,D2,s1,s2,dj,h1,h2⟩:=s;h1.2
def Sep.atT (s:Sep (tu t xs::O) H):H t=some (.tup xs):=let⟨D,k,D1,D2,s1,s2,dj,h1,h2⟩:=s;h1
def Sep.pure (s:Sep (pu φ::O) H):φ:=let⟨D,k,D1,D2,s1,s2,dj,h1,h2⟩:=s;h1
def Sep.w6 (h:φ)(s:Sep O H):Sep (pu φ::O) H:=let⟨D,k,h2⟩:=s;⟨D,k,λ_=>False,D,λ_ z=>z.elim,λ_ z=>z,λ_ z _=>z,h,h2⟩
def Sep.Dk (h:H t=some (.tup xs))(s:Sep O H):Sep (tu t xs::O) H:=let⟨D,k,h2⟩:=s;⟨D,k,λ_=>False,D,λ_ z=>z.elim,λ_ z=>z,λ_ z _=>z,h,h2⟩
def Sep.ne (s:Sep (pt a o::pt b o'::O) H):a≠b:=by
 obtain⟨D,k,D1,D2,s1,s2,dj,h1,E1,E2,t1,t2,ej,k1,k2⟩:=s;rintro rfl;exact dj a h1.1 (t1 a k1.1)
def Sep.set (s:Sep (pt a o::O) H)(n:ik o'=ik o):Sep (pt a o'::O) (upd H a o'):=by
 obtain⟨D,k,D1,D2,s1,s2,dj,h1,h2⟩:=s;refine⟨D,λb z=>?_,D1,D2,s1,s2,dj,⟨h1.1,aj⟩,aQ.st h2 (λb z=>af λe=>dj a h1.1 (e▸z)) (gh.upd h1.2 n)⟩
 by_cases e:b=a
 .rw[e,aj];exact λz=>by cases z
 .rw[af e];exact k b z
def Sep.new (s:Sep O H)(h:H p=none):Sep (pt p o::O) (upd H p o):=by
 obtain⟨D,k,z⟩:=s;have ne:∀ b,D b->b≠p:=λb hb e=>k b hb (e▸h)
 refine⟨λb=>b=p\/D b,λb hb=>?_,λb=>b=p,D,λb e=>.inl e,λb e=>.inr e,λb e z=>ne b z e,⟨rfl,aj⟩,aQ.st z (λb hb=>af (ne b hb)) (gh.new h)⟩;rcases hb with rfl|hb
 .rw[aj];exact λz=>by cases z
 .rw[af (ne b hb)];exact k b hb
def Sep.dZ (s:Sep O H)(h:H p=none):Sep (tu p xs::O) (upd H p (.tup xs)):=Sep.Dk aj (Sep.drop (s.new (o:=.tup xs) h))
def Sep.toT (s:Sep (pt t (.tup xs)::O) H):Sep (tu t xs::O) H:=Sep.Dk s.at s.drop
def Sep.star:Sep (jV A B::O) H ↔ Sep (A::B::O) H:=by
 constructor
 .rintro⟨D,k,D1,D2,s1,s2,dj,⟨E1,E2,t1,t2,ej,k1,k2⟩,h2⟩;refine⟨D,k,E1,λa=>E2 a\/D2 a,λa z=>s1 a (t1 a z),λa z=>z.elim (λz=>s1 a (t2 a z)) (s2 a),λa z1 z2=>?_,k1,E2,D2,λa z=>.inl z,λa z=>.inr z,λa z1 z2=>dj a (t2 a z1) z2,k2,h2⟩;rcases z2 with z2|z2
  .exact ej a z1 z2
  .exact dj a (t1 a z1) z2
 .rintro⟨D,k,D1,D2,s1,s2,dj,h1,E1,E2,t1,t2,ej,k1,k2⟩;refine⟨D,k,λa=>D1 a\/E1 a,E2,λa z=>z.elim (s1 a) λz=>s2 a (t1 a z),λa z=>s2 a (t2 a z),λa z1 z2=>?_,⟨D1,E1,λa z=>.inl z,λa z=>.inr z,λa z1 z2=>dj a z1 (t1 a z2),h1,k1⟩,k2⟩;rcases z1 with z1|z1
  .exact dj a z1 (t2 a z2)
  .exact ej a z1 z2
def Sep.AM {α:Type}{f:α->ah}:Sep (ex f::O) H ↔ ∃ x,Sep (f x::O) H:=by
 constructor
 .rintro⟨D,k,D1,D2,s1,s2,dj,⟨x,h1⟩,h2⟩;exact⟨x,D,k,D1,D2,s1,s2,dj,h1,h2⟩
 .rintro⟨x,D,k,D1,D2,s1,s2,dj,h1,h2⟩;exact⟨D,k,D1,D2,s1,s2,dj,⟨x,h1⟩,h2⟩
def Sep.BE (s:Sep (tys xs::O) H):∀ x ∈ xs,∃ t,tyName x H=some t:=let⟨D,k,D1,D2,s1,s2,dj,h1,h2⟩:=s;h1
def Sep.free (h:∀ D,A.p H D) (s:Sep O H):Sep (A::O) H:=let⟨D,k,h2⟩:=s;⟨D,k,λ_=>False,D,λ_ z=>z.elim,λ_ z=>z,λ_ z _=>z,h _,h2⟩
def Sep.B2 (h:∀ x ∈ xs,∃ t,tyName x H=some t) (s:Sep O H):Sep (tys xs::O) H:=s.free λ_=>h
def Sep.get (s:Sep O H)(h:ai (pt a o) O Γ'):H a=some o:=(s.pull h).at
def Sep.BO (s:Sep O H)(h:ai (tu t xs) O Γ'):H t=some (.tup xs):=(s.pull h).atT
inductive cH (A B:ah):List ah->List ah->Prop where
 |e {O:List ah}:cH A B (A::O) (B::O)
 |t {C:ah}{O Γ':List ah}(h:cH A B O Γ'):cH A B (C::O) (C::Γ')
def ai.k1 {b:ah}:ai A (b::A::g) (b::g):=.t .e
def ai.k2 {b c:ah}:ai A (b::c::A::g) (b::c::g):=.t .k1
def ai.k3 {b c d:ah}:ai A (b::c::d::A::g) (b::c::d::g):=.t .k2
def ai.j2 {b c:ah}{f:List ah}(h:ai A g f):ai A (b::c::g) (b::c::f):=.t (.t h)
def cH.k1 {b:ah}:cH A B (b::A::g) (b::B::g):=.t .e
def cH.k2 {b c:ah}:cH A B (b::c::A::g) (b::c::B::g):=.t .k1
def cH.kq (h:cH A B O Γ'):∃ Δ,ai A O Δ/\ai B Γ' Δ:=by
 induction h with
 |e=>exact⟨_,.e,.e⟩
 |t h ih=>
  obtain⟨Δ,h1,h2⟩:=ih;exact⟨_,.t h1,.t h2⟩
def Sep.put (s:Sep O H)(h:cH (pt a o) (pt a o') O Γ')(n:ik o'=ik o):Sep Γ' (upd H a o'):=by
 obtain⟨Δ,h1,h2⟩:=h.kq;exact((s.pull h1).set n).push h2
inductive Sub:List ah->List ah->Prop where
 |refl {O:List ah}:Sub O O
 |nil {O:List ah}:Sub [] O
 |cons {A:ah}{O Γ' Δ:List ah}(h:ai A O Δ) (r:Sub Γ' Δ):Sub (A::Γ') O
 |drop {A:ah}{O Γ':List ah}(r:Sub Γ' O):Sub Γ' (A::O)
def aQ.sub:∀ {O Γ':List ah}{D:Addr->Prop},Sub Γ' O->aQ O H D->aQ Γ' H D:=by
 intro O Γ' D h
 induction h generalizing D with
 |refl=>exact λz=>z
 |nil=>exact λ_=>True.intro
 |cons h r ih=>
  intro z;obtain⟨D1,D2,s1,s2,dj,h1,h2⟩:=aQ.pull h z;exact⟨D1,D2,s1,s2,dj,h1,ih h2⟩
 |drop r ih=>
  rintro⟨D1,D2,s1,s2,dj,h1,h2⟩;exact(ih h2).up s2
def Sep.sub (h:Sub Γ' O)(s:Sep O H):Sep Γ' H:=let⟨D,k,z⟩:=s;⟨D,k,aQ.sub h z⟩
end
@[irreducible] noncomputable def ae (T:Tab) (R:Rt) (k f:Nat):Sp:=bW T R k f
def k6:ae=bW:=by
 funext T R k f
 unfold ae
 rfl
variable {Q:VK}
def wc {T:Tab}{R:Rt}{k f:Nat}{d:aA}{vs:List V}{E:XK}(hk:0<k)(hd:T.fns[f]? =some d)(hl:vs.length=d.ps.length)
  (h:wB d.body ⟨T,R,ae T R (k-1),true⟩ { nx:=λ_ H'=>Q .non H',rt:=Q } (λ_=>E) (start d.N vs) H):ae T R k f vs H Q E:=by
 rw[k6]at h⊢;cases k with
 |zero=>exact absurd hk (by decide)
 |succ k=>
  show(match T.fns[f]? with|some d=>_|none=>False);rw[hd];exact⟨hl,h⟩
variable {c:Bool}
def jy {A B:Prop}(h1:c=true->A)(h2:c=false->B):gb c A B:=by
 unfold gb;cases c
 .exact h2 rfl
 .exact h1 rfl
def bt {A B:Prop}(h:c=true)(h1:A):gb c A B:=by subst h;unfold gb;exact h1
def ck {A B:Prop}(h:c=false)(h1:B):gb c A B:=by subst h;unfold gb;exact h1
def yg {A B:Prop}(h:gb c B A):gb (!c) A B:=by
 unfold gb at h⊢;cases c
 .exact h
 .exact h
def bZ {p:Prop} [Decidable p] {A B:Prop}(h1:p->A)(h2:¬ p->B):gb (decide p) A B:=jy (λh=>h1 (of_decide_eq_true h)) λh=>h2 (of_decide_eq_false h)
def Ax {p:Prop} [Decidable p] {A B:Prop}(h1:¬ p->A)(h2:p->B):gb (!decide p) A B:=jy (λh=>h1 (by simpa using h)) λh=>h2 (by simpa using h)
def dv {i j:Int}{A B:Prop}(h1:i=j->A)(h2:i≠j->B):gb (lG (.int i) (.int j)) A B:=by
 show gb (i ==j) A B;exact jy (λh=>h1 (by simpa using h)) λh=>h2 (by simpa using h)
variable {dx:Addr}{n:Nat}{fs:List (Str×V)}{es:List V}{R:Hp->Prop}{fr b:Bool}{ns:List Int}
section
variable {K:W.Frag}{G:Gx}{O Γ':List ah}{H:Hp}{Q:VK}{a p:Addr}{o:HO}{xs ys:List V}{v w:V}{i:Int}{f:Str}
def al (s:Sep O H)(h:∀ p H',Sep (pt p o::O) H'->Q (.ref p) H'):∀ p,H p=none->Q (.ref p) (upd H p o):=λp hp=>h p _ (s.new hp)
def aW {C x:Addr}(s:Sep O H)(h1:H x=none)(h2:H dx=none)(h3:dx≠x):Sep (pt x (.ins C dx [])::pt dx (.own x)::O) (upd (upd H dx (.own x)) x (.ins C dx [])):=(s.new h2).new (by rw[af h3.symm];exact h1)
def jT {dx:Option Addr}{E:XK}(s:Sep O H)(r:cH (pt a (.exc (G.R.cad n) dx fs true)) (pt a (.exc (G.R.cad n) dx fs false)) O Γ')(ho:G.T.xc.contains n=true)(h:∀ H',Sep Γ' H'->E a H'):
  ∃ b i dx fs,V.ref a=.ref b/\H b=some (.exc (G.R.cad i) dx fs true)/\G.T.xc.contains i=true/\E b (upd H b (.exc (G.R.cad i) dx fs false)):=by
 obtain⟨Δ,h1,h2⟩:=r.kq;exact⟨a,n,dx,fs,rfl,s.get h1,ho,h _ (s.put r rfl)⟩
def aF (s:Sep O H)(hl:es.length<=10000)(h:∀ p H',Sep (pt p (.lst es)::O) H'->Q (.ref p) H'):vW es H Q:=by unfold vW;exact⟨hl,al s h⟩
def cW (s:Sep O H)(hl:es.length<=10000)(h:∀ p H',Sep (pt p (.tup es)::O) H'->Q (.ref p) H'):dZ es H Q:=by unfold dZ;exact⟨hl,al s h⟩
def zY (s:Sep O H)(h:∀ p H',Sep (pt p (.dK [])::O) H'->Q (.ref p) H'):newD H Q:=by unfold newD;exact al s h
def pU (e:H a=some (.lst xs))(hv:qH xs i=some v)(q:Q v H):ya K (.ref a) (.int i) H Q:=by unfold ya;exact .inl ⟨xs,i,v,rfl,.inl (aK.of e),hv,q⟩
def AW {j:Nat}(s:Sep O H)(r:cH (pt a (.lst xs)) (pt a (.lst ys)) O Γ')(hj:uO xs.length i=some j)(hx:xs.set j v=ys)(h:∀ H',Sep Γ' H'->R H'):kZ (.ref a) (.int i) v H R:=by
 obtain⟨Δ,h1,h2⟩:=r.kq;subst hx;unfold kZ;exact .inl ⟨xs,i,j,rfl,s.get h1,hj,h _ (s.put r rfl)⟩
def AU (e:H a=some (.lst xs))(h0:0<=i)(hv:xs[i.toNat]? =some v)(q:Q v H):t6 K (.ref a) (.int i) H Q:=by unfold t6;exact⟨xs,v,aK.of e,h0,hv,q⟩
def aL (e:H a=some (.ins (G.R.cad n) dx fs))(ho:G.T.oc.contains n=true)(hn:G.T.na.contains (n,f)=true)(hl:fs.lookup f=some v)(q:Q v H):lN G f (.ref a) H Q:=by unfold lN;exact⟨a,n,fs,v,rfl,.inl ⟨ho,dx,e⟩,hn,hl,q⟩
def Cg (e:H a=some (.exc (G.R.cad n) (some dx) fs fr))(ho:G.T.xc.contains n=true)(hn:G.T.na.contains (n,f)=true)(hl:fs.lookup f=some v)(q:Q v H):lN G f (.ref a) H Q:=by unfold lN;exact⟨a,n,fs,v,rfl,.inr ⟨ho,dx,fr,e⟩,hn,hl,q⟩
def Dp {fs':List (Str×V)}(s:Sep O H)(r:cH (pt a (.ins (G.R.cad n) dx fs)) (pt a (.ins (G.R.cad n) dx fs')) O Γ')(ho:G.T.oc.contains n=true)(hn:G.T.na.contains (n,f)=true)(hl:fs.length<1000)(hf:bT f v fs=fs')(h:∀ H',Sep Γ' H'->R H'):zJ G f (.ref a) v H R:=by
 obtain⟨Δ,h1,h2⟩:=r.kq;subst hf;unfold zJ;exact⟨a,n,rfl,hn,.inl ⟨dx,fs,ho,s.get h1,hl,h _ (s.put r rfl)⟩⟩
def qL (s:Sep (pt a (.exc (G.R.cad n) none [] fr)::O) H)(ho:G.T.xc.contains n=true)(hn:G.T.na.contains (n,f)=true)(h:∀ d H',Sep (pt a (.exc (G.R.cad n) (some d) [(f,v)] fr)::pt d (.own a)::O) H'->R H'):zJ G f (.ref a) v H R:=by
 unfold zJ;refine⟨a,n,rfl,hn,.inr (.inr ⟨fr,ho,s.at,λd hd=>h d _ ?_⟩)⟩;exact((s.new (o:=.own a) hd).pull (.t .e)).set rfl
def fR {n:String}(ht:tyName v H=some t)(hb:G.T.subB.lookup (t,n)=some b)(q:Q (.bl b) H):eZ G (.ty n) v H Q:=by unfold eZ;exact .inl ⟨t,b,ht,hb,q⟩
def Bp (ht:tyName v H=some t)(hb:G.T.subO.lookup (t,n)=some b)(q:Q (.bl b) H):eZ G (.own n) v H Q:=by unfold eZ;exact .inl ⟨t,b,ht,hb,q⟩
def A8 {j:Nat}{dx:Option Addr}(e:H a=some (.exc (G.R.cad j) dx fs fr))(ho:G.T.xc.contains j=true)(hb:G.T.sub.lookup (j,n)=some b)(q:Q (.bl b) H):eZ G (.own n) (.ref a) H Q:=by unfold eZ;exact .inr ⟨a,j,b,rfl,.inr ⟨ho,dx,fs,fr,e⟩,hb,q⟩
def ax {j:Nat}(e:H a=some (.ins (G.R.cad j) dx fs))(ho:G.T.oc.contains j=true)(hb:G.T.sub.lookup (j,n)=some b)(q:Q (.bl b) H):eZ G (.own n) (.ref a) H Q:=by unfold eZ;exact .inr ⟨a,j,b,rfl,.inl ⟨ho,dx,fs,e⟩,hb,q⟩
def bb (e:H a=some (.lst xs))(q:Q (.int xs.length) H):kD G .len [.ref a] H Q:=by unfold kD;exact⟨_,xs.length,rfl,.inl ⟨xs,aK.of e,rfl⟩,q⟩
def wj {m:Int}(hc:G.cm=true)(e:H a=some (.lst (ns.map V.int)))(hm:m ∈ ns)(hl:∀ z ∈ ns,m<=z) (q:Q (.int m) H):kD G .min [.ref a] H Q:=by unfold kD;exact⟨hc,.inr ⟨a,ns,m,rfl,aK.of e,hm,hl,q⟩⟩
def bB (s:Sep O H)(e:H a=some (.lst xs))(h:∀ p H',Sep (pt p (.lst xs)::O) H'->Q (.ref p) H'):kD G .list [.ref a] H Q:=by unfold kD;exact .inl ⟨_,xs,rfl,.inl (aK.of e),al s h⟩
def kQ (s:Sep O H){b:Addr}(e1:H a=some (.lst xs))(e2:H b=some (.lst ys))(hl:xs.length+ys.length<=100000)(h:∀ p H',Sep (pt p (.lst (xs++ys))::O) H'->Q (.ref p) H'):qz K a b H Q:=by unfold qz;exact .inl ⟨xs,ys,e1,e2,hl,al s h⟩
def Cb (s:Sep O H)(e:H a=some (.lst xs))(h1: -1000<=i)(h2:i<=1000)(h3:xs.length<=1000)(h:∀ p H',Sep (pt p (.lst (re i.toNat xs).flatten)::O) H'->Q (.ref p) H'):vM K a i H Q:=by unfold vM;exact .inl ⟨xs,e,h1,h2,h3,al s h⟩
def Ds {lo hi:Option Int}(s:Sep O H)(e:aK K H a xs)(h:∀ p H',Sep (pt p (.lst (dq xs lo hi))::O) H'->Q (.ref p) H'):yd K (.ref a) lo hi H Q:=by unfold yd;exact .inl ⟨xs,e,al s h⟩
def pq {R:It->Hp->Prop}(e:H a=some (.lst xs))(h:R (yb K a) H):rm K a H R:=by unfold rm;exact .inl ⟨⟨xs,aK.of e⟩,h⟩
def wV {R:It->Hp->Prop}(e:H a=some (.lst xs))(h:R (BH a) H):vO a H R:=by unfold vO;exact⟨⟨xs,e⟩,h⟩
def rl {lo hi:Option Int}(s:Sep O H)(e:H a=some (.lst xs))(h:∀ p H',Sep (pt p (.lst (dq xs lo hi))::O) H'->Q (.ref p) H'):yd K (.ref a) lo hi H Q:=by unfold yd;exact .inl ⟨xs,aK.of e,al s h⟩
end
variable {x:V}
section
variable {K:W.Frag}{H:Hp}{Q:VK}
def kR (f:aH x=true):lG x x=true:=by
 cases x<;>simp[aH]at f<;>simp[lG]
def eE {y:V}(fx:aH x=true)(fy:aH y=true)(q:Q (.bl (lG x y)) H):g4 K false x y H Q:=by unfold g4;exact⟨0,_,.flat fx fy,by decide,.inl fx,q⟩
def zG {b:Addr}(h:jF K H n (.ref a) (.ref b) c)(hn:n<=100)(ne:a≠b)(q:Q (.bl (!c)) H):g4 K true (.ref a) (.ref b) H Q:=by unfold g4;exact⟨n,c,h,hn,.inr (.inl λz=>ne (V.ref.inj z)),q⟩
def all_true (n:Nat):(List.range n).all (λ_=>true)=true:=by simp
def Ad {b:Addr}{ys:List V}(h1:H a=some (.tup xs))(h2:H b=some (.tup ys))(hl:xs.length=ys.length)(h:∀ (j:Nat) x y,xs[j]? =some x->ys[j]? =some y->jF K H (n+1) x y true):jF K H (n+2) (.ref a) (.ref b) true:=by
 have:=jF.tt (K:=K) (n:=n) (e:=λ_=>true) (bp.of h1) (bp.of h2) h;rw[all_true,hl]at this;simpa using this
end
variable {K:W.Frag}{rest:St}{te:TE}
section
variable {D:Ends}{F:(St->Hp->Prop)->V->St->Hp->Prop}{U:St}{H:Hp}
def oh {lo:Int}(I:Nat->St->Hp->Prop)(h0:I 0 U H)(hs:∀ j U H,j<n->I j U H->F (I (j+1)) (.int (lo+j)) U H) (hd:∀ U H,I n U H->D.nx U H):hX (AN lo n) D F U H:=by
 unfold hX;refine⟨λi m U H=>m=n-i/\i<=n/\I i U H,⟨n,by simp,Nat.zero_le _,h0⟩,λi m U H ⟨e,hi,h⟩=>?_⟩
 by_cases hlt:i<n
 .refine .inr ⟨hlt,I (i+1),λσ' H' h'=>⟨n-(i+1),by omega,rfl,hlt,h'⟩,λx H' y=>?_⟩;obtain⟨rfl,rfl⟩:=y;exact hs i U H' hlt h
 .have:i=n:=by omega
  subst this;exact .inl ⟨pc _,hd U H h⟩
def gj (I:Nat->St->Hp->Prop)(h0:I 0 U H)(hl:∀ j U H,I j U H->aK K H a xs)
  (hs:∀ j x U H,xs[j]? =some x->I j U H->F (I (j+1)) x U H) (hd:∀ U H,I xs.length U H->D.nx U H):hX (yb K a) D F U H:=by
 unfold hX;refine⟨λi m U H=>m=xs.length-i/\i<=xs.length/\I i U H,⟨xs.length,by simp,Nat.zero_le _,h0⟩,λi m U H ⟨e,hi',h⟩=>?_⟩
 by_cases hlt:i<xs.length
 .refine .inr ⟨⟨xs,xs[i],hl i U H h,le hlt⟩,I (i+1),λσ' H' h'=>⟨xs.length-(i+1),by omega,rfl,hlt,h'⟩,λx H' y=>?_⟩;obtain⟨rfl,hy⟩:=y;exact hs i x U H' (hy xs (hl i U H' h)) h
 .have:i=xs.length:=by omega
  subst this;exact .inl ⟨⟨xs,hl _ U H h,pc _⟩,hd U H h⟩
def gr (I:Nat->St->Hp->Prop)(h0:I 0 U H)(hl:∀ j U H,I j U H->H a=some (.lst xs)) (hs:∀ j x T U H,xs[j]? =some x->I j U H->H T=none->F (I (j+1)) (.ref T) U (upd H T (.tup [.int j,x])))
  (hd:∀ U H,I xs.length U H->D.nx U H):hX (BH a) D F U H:=by
 unfold hX;refine⟨λi m U H=>m=xs.length-i/\i<=xs.length/\I i U H,⟨xs.length,by simp,Nat.zero_le _,h0⟩,λi m U H ⟨e,hi',h⟩=>?_⟩
 by_cases hlt:i<xs.length
 .refine .inr ⟨⟨xs,xs[i],hl i U H h,le hlt⟩,I (i+1),λσ' H' h'=>⟨xs.length-(i+1),by omega,rfl,hlt,h'⟩,λx H' y=>?_⟩;obtain⟨T,z,hT,rfl,rfl,hy⟩:=y;exact hs i z T U H (hy xs (hl i U H h)) h hT
 .have:i=xs.length:=by omega
  subst this;exact .inl ⟨⟨xs,hl _ U H h,pc _⟩,hd U H h⟩
@[irreducible] noncomputable def ql (I:Addr->List V->Hp->Prop) (D:Addr) (ys:List V) (rest:St) (x:Option V):VK:=λv H3=>∃ zs,H3 D=some (.lst zs)/\zs.length<bn/\∃ ys2 x2,x::rest=x2::rest/\ys2.length=ys.length+1/\I D ys2 (upd H3 D (.lst (zs++[v])))
def ql.mk {I:Addr->List V->Hp->Prop}{D:Addr}{ys:List V}{x:Option V}{v:V}{H3:Hp}(h1:H3 D=some (.lst ys))(hl:ys.length<=999)(h2:I D (ys++[v]) (upd H3 D (.lst (ys++[v])))):ql I D ys rest x v H3:=
 by unfold ql;exact⟨ys,h1,cf nofun,ys++[v],x,rfl,by simp,h2⟩
def sv (hn:n<=1000)(I:Addr->List V->Hp->Prop)(h0:∀ D,H D=none->I D [] (upd H D (.lst [])))
  (hs:∀ D ys H',ys.length<n->I D ys H'->te (some (.int (0+(ys.length:Nat)))::rest) H' (ql I D ys rest (some (.int (0+(ys.length:Nat))))))
  (hd:∀ D ys H',ys.length=n->I D ys H'->Q (.ref D) H'):t8 te (AN 0 n) (none::rest) H Q:=by
 unfold t8;intro D hD;refine⟨λi m σ' H'=>m=n-i/\i<=n/\∃ ys x0,σ'=x0::rest/\ys.length=i/\I D ys H',⟨n,by simp,Nat.zero_le _,[],none,rfl,rfl,h0 D hD⟩,λi m σ' H' ⟨e,hi,ys,x0,e1,e2,h⟩=>?_⟩;subst e1 e2
 by_cases hlt:ys.length<n
 .refine .inr ⟨hlt,λσ2 H2=>∃ ys2 x2,σ2=x2::rest/\ys2.length=ys.length+1/\I D ys2 H2,λσ2 H2 ⟨ys2,x2,f1,f2,f3⟩=>⟨n-(ys.length+1),by omega,rfl,hlt,ys2,x2,f1,f2,f3⟩,λx H'' y=>?_⟩;obtain⟨e1,e2⟩:=y;subst e1 e2;have z:=hs D ys H'' hlt h;unfold ql at z;exact z
 .have:ys.length=n:=by omega
  exact .inl ⟨Nat.le_of_eq this.symm,hd D ys H' this h⟩
def yM (hn:xs.length<=1000)(I:Addr->List V->Hp->Prop)(hl:∀ D ys H,I D ys H->aK K H a xs) (h0:∀ D,H D=none->I D [] (upd H D (.lst [])))
  (hs:∀ D ys x H',xs[ys.length]? =some x->I D ys H'->te (some x::rest) H' (ql I D ys rest (some x)))
  (hd:∀ D ys H',ys.length=xs.length->I D ys H'->Q (.ref D) H'):t8 te (yb K a) (none::rest) H Q:=by
 unfold t8;intro D hD;refine⟨λi m σ' H'=>m=xs.length-i/\i<=xs.length/\∃ ys x0,σ'=x0::rest/\ys.length=i/\I D ys H',⟨xs.length,by simp,Nat.zero_le _,[],none,rfl,rfl,h0 D hD⟩,λi m σ' H' ⟨e,hi,ys,x0,e1,e2,h⟩=>?_⟩;subst e1 e2
 by_cases hlt:ys.length<xs.length
 .refine .inr ⟨⟨xs,xs[ys.length],hl D ys H' h,le hlt⟩,λσ2 H2=>∃ ys2 x2,σ2=x2::rest/\ys2.length=ys.length+1/\I D ys2 H2,λσ2 H2 ⟨ys2,x2,f1,f2,f3⟩=>⟨xs.length-(ys.length+1),by omega,rfl,hlt,ys2,x2,f1,f2,f3⟩,λx H'' y=>?_⟩;obtain⟨e1,hy⟩:=y;subst e1;have z:=hs D ys x H'' (hy xs (hl D ys H'' h)) h;unfold ql at z;exact z
 .have:ys.length=xs.length:=by omega
  exact .inl ⟨⟨xs,hl D ys H' h,Nat.le_of_eq this.symm⟩,hd D ys H' this h⟩
def yQ {K:W.Frag}{G:Gx}{bs:List Bool}(hc:G.cm=true)(e:H a=some (.lst (bs.map V.bl)))(q:Q (.bl (bs.all id)) H):kD G .all [.ref a] H Q:=by unfold kD;exact⟨hc,_,bs,rfl,aK.of e,q⟩
def Ay {K:W.Frag}{G:Gx}(hc:G.cm=true)(e:H a=some (.lst (ns.map V.int)))(q:Q (.int ns.sum) H):kD G .sum [.ref a] H Q:=by unfold kD;exact⟨hc,_,ns,rfl,aK.of e,q⟩
def nu (q:Q (.bl (decide (x=.non))) H):xP false x .non H Q:=by unfold xP;exact q
def C8 (e:bp K H a xs)(fx:aH x=true)(fs:xs.all aH=true)(q:Q (.bl (AG x xs)) H):uI K false x (.ref a) H Q:=by unfold uI;exact .inl ⟨xs,.inr e,fx,fs,q⟩
end
variable {kvs:List (Key×V)}
section
variable {K:W.Frag}{G:Gx}{O Γ':List ah}{H:Hp}{Q:VK}{a b:Addr}{xs ys:List V}{v:V}
def CW {tp1 tp2:Bool}{R:It->Hp->Prop}(h1:Sq K tp1 H a xs)(h2:Sq K tp2 H b ys)(h:R (CP K tp1 a tp2 b) H):vd K (.ref a) (.ref b) H R:=by unfold vd;exact⟨tp1,a,tp2,b,rfl,rfl,⟨xs,h1⟩,⟨ys,h2⟩,h⟩
def vb {D:Ends}{F:(St->Hp->Prop)->V->St->Hp->Prop}{U:St}{tp1 tp2:Bool}(I:Nat->St->Hp->Prop)(hn:xs.length=ys.length)(h0:I 0 U H)(hl:∀ j U H,I j U H->Sq K tp1 H a xs/\Sq K tp2 H b ys)
  (hs:∀ j x y T U H,xs[j]? =some x->ys[j]? =some y->I j U H->H T=none->F (I (j+1)) (.ref T) U (upd H T (.tup [x,y]))) (hd:∀ U H,I xs.length U H->D.nx U H):hX (CP K tp1 a tp2 b) D F U H:=by
 unfold hX;refine⟨λi m U H=>m=xs.length-i/\i<=xs.length/\I i U H,⟨xs.length,by simp,Nat.zero_le _,h0⟩,λi m U H ⟨e,hi',h⟩=>?_⟩
 by_cases hlt:i<xs.length
 .obtain⟨g1,g2⟩:=hl i U H h;refine .inr ⟨⟨xs,ys,xs[i],ys[i]'(hn▸hlt),g1,g2,le hlt,le (hn▸hlt)⟩,I (i+1),λσ' H' h'=>⟨xs.length-(i+1),by omega,rfl,hlt,h'⟩,λx H' y=>?_⟩;obtain⟨T,z,z',hT,rfl,rfl,hy,hy'⟩:=y;exact hs i z z' T U H (hy xs g1) (hy' ys g2) h hT
 .have:i=xs.length:=by omega
  subst this;obtain⟨g1,g2⟩:=hl _ U H h;exact .inl ⟨⟨xs,ys,g1,g2,.inl (pc _)⟩,hd U H h⟩
def Co {tp1 tp2:Bool}{ks:List Key}(s:Sep O H)(h1:Sq K tp1 H a (ks.map kV))(h2:Sq K tp2 H b ys)(hn:ks.Nodup)(hl:ks.length=ys.length)(hz:ks.length<=1000)(h:∀ p H',Sep (pt p (.dK (ks.zip ys))::O) H'->Q (.ref p) H'):BK K (.ref a) (.ref b) H Q:=by unfold BK;exact⟨tp1,a,tp2,b,ks,ys,rfl,rfl,h1,h2,hn,hl,hz,al s h⟩
def Bh {k:Key}(e:H a=some (.dK kvs))(hv:cz kvs k=some v)(q:Q v H):ya K (.ref a) (kV k) H Q:=by unfold ya;exact .inr ⟨v,.inl ⟨kvs,k,.inl e,rfl,hv.symm⟩,q⟩
def xV {kvs':List (Key×V)}{k:Key}(s:Sep O H)(r:cH (pt a (.dK kvs)) (pt a (.dK kvs')) O Γ')(hl:kvs.length<=10000)(hx:putK kvs k v=kvs')(h:∀ H',Sep Γ' H'->R H'):kZ (.ref a) (kV k) v H R:=by
 obtain⟨Δ,h1,h2⟩:=r.kq;subst hx;unfold kZ;exact .inr ⟨_,.inl ⟨kvs,k,s.get h1,rfl,Nat.lt_of_le_of_lt hl (by decide),rfl⟩,h _ (s.put r rfl)⟩
def wu (s:Sep O H)(e:H a=some (.dK kvs))(h:∀ p H',Sep (pt p (.dK kvs)::O) H'->Q (.ref p) H'):kD G .dict [.ref a] H Q:=by unfold kD;exact⟨_,kvs,rfl,e,al s h⟩
def lI {C:Addr}(s:Sep O H)(h:∀ x dx H',Sep (pt x (.ins C dx [])::pt dx (.own x)::O) H'->Q (.ref x) H'):ud C H Q:=by unfold ud;exact λx dx h1 h2 h3=>h x dx _ (aW s h1 h2 h3)
def zQ {z:Str}(hn:z.cps.size<=1000)(I:Addr->List V->Hp->Prop)(h0:∀ D,H D=none->I D [] (upd H D (.lst [])))
  (hs:∀ D ys c H',z.cps[ys.length]? =some c->I D ys H'->te (some (.str ⟨#[c]⟩)::rest) H' (ql I D ys rest (some (.str ⟨#[c]⟩))))
  (hd:∀ D ys H',ys.length=z.cps.size->I D ys H'->Q (.ref D) H'):t8 te (yC z) (none::rest) H Q:=by
 unfold t8;intro D hD;refine⟨λi m σ' H'=>m=z.cps.size-i/\i<=z.cps.size/\∃ ys x0,σ'=x0::rest/\ys.length=i/\I D ys H',⟨z.cps.size,by simp,Nat.zero_le _,[],none,rfl,rfl,h0 D hD⟩,λi m σ' H' ⟨e,hi,ys,x0,e1,e2,h⟩=>?_⟩;subst e1 e2
 by_cases hlt:ys.length<z.cps.size
 .refine .inr ⟨hlt,λσ2 H2=>∃ ys2 x2,σ2=x2::rest/\ys2.length=ys.length+1/\I D ys2 H2,λσ2 H2 ⟨ys2,x2,f1,f2,f3⟩=>⟨z.cps.size-(ys.length+1),by omega,rfl,hlt,ys2,x2,f1,f2,f3⟩,λx H'' y=>?_⟩;obtain⟨e1,c,hc,rfl⟩:=y;subst e1;have w:=hs D ys c H'' hc h;unfold ql at w;exact w
 .have:ys.length=z.cps.size:=by omega
  exact .inl ⟨Nat.le_of_eq this.symm,hd D ys H' this h⟩
end
end L3
namespace L3
open PySem PySem.Spec PySem.W L2
variable {ps:List Str}
def rq:∀ {us:List Value}{n:Str},us.length=ps.length->n ∈ ps->((ps.zip us).lookup n).isNone=false:=by
 induction ps with
 |nil=>intro us n _ h;cases h
 |cons p ps ih=>
  intro us n hl h;cases us with
  |nil=>cases hl
  |cons u us=>
   rw[zip_cons_cons,lookup_cons];cases e:n ==p with
   |true=>rfl
   |false=>
    rcases li.mp h with rfl|h
    .rw[beq_self_eq_true]at e;cases e
    .exact ih (Nat.succ.inj hl) h
def mV:∀ {ps:List Str}{us:List Value},ps.Nodup->us.length=ps.length->∀ {L:List (Str×Value)},(∀ n ∈ ps,L.lookup n=(ps.zip us).lookup n)->ps.filterMap (λn=>(L.lookup n).map (n,·))=ps.zip us
 | [],us,_,_,L,_=>rfl
 |p::ps,[],_,hl,L,_=>by cases hl
 |p::ps,u::us,nd,hl,L,hL=>by
  have h0:L.lookup p=some u:=by rw[hL p lf,zip_cons_cons,lookup_cons,beq_self_eq_true]
  rw[filterMap_cons,h0,zip_cons_cons];show(p,u)::_=_;rw[mV (nodup_cons.mp nd).2 (Nat.succ.inj hl) (L:=L)];intro n hn;rw[hL n (dl _ hn),zip_cons_cons,lookup_cons];have:(n ==p)=false:=by
   cases e:n ==p with
   |false=>rfl
   |true=>
    have:=beq_iff_eq.mp e;subst this;exact absurd hn (nodup_cons.mp nd).1
  rw[this]
variable {fd:FuncData}
def ky (nd:ps.Nodup)(h1:fd.params.posonlyargs=[])(h2:fd.params.args.map (·.arg)=ps)(h3:fd.params.kwonlyargs=[])(h4:fd.params.vararg=none)(h5:fd.params.kwarg=none)(h6:fd.defaults=.none)(us:List Value)(hl:us.length=ps.length):
  bindArgs fd ⟨us,[]⟩=pure (ps.zip us):=by
 obtain⟨name,qual,⟨po,as,va,ko,kd,ka,df⟩,body,scope,glo,bX,dV,kV,doc,pm,an,cdv,ct,bu⟩:=fd;dsimp only at h1 h2 h3 h4 h5 h6;subst h1 h2 h3 h4 h5 h6;generalize hps:as.map (·.arg)=ps at nd hl⊢;have e1:seqItems? (Value.none)=(pure none:Sem (Option (Array Value))):=rfl;have e2:∀ f:Str->Bool,(∀ n ∈ ps,f n=false)->ps.filter f=[]:=λf h=>List.filter_eq_nil_iff.mpr λa ha=>by rw[h a ha];decide
 have e3:¬ (us.length>ps.length):=by omega
 have e4:=e2 (λn=>((ps.zip us).lookup n).isNone) λn hn=>rq hl hn
 have e5:=mV nd hl (L:=ps.zip us) λ_ _=>rfl
 unfold bindArgs;dsimp only[List.map_nil,nil_append,append_nil];rw[hps];simp[e1,e3,e4,e5]
abbrev gD (S:List (Str×Value))(x:Str×Value):List (Str×Value):=if(S.lookup x.1).isNone=true then S++[x] else S
def ye:∀ {L:List (Str×Value)}{S:List (Str×Value)},(∀ x ∈ L,(S.lookup x.1).isNone=false)->L.foldl gD S=S
 | [],_,_=>rfl
 |x::L,S,h=>by
  have h0:gD S x=S:=by
   unfold gD;rw[if_neg (by rw[h x lf];decide)]
  rw[foldl_cons,h0];exact ye λy hy=>h y (dl _ hy)
def xD:∀ {L:List (Str×Value)}{S:List (Str×Value)},(L.map (·.1)).Nodup->(∀ x ∈ L,S.lookup x.1=none)->L.foldl gD S=S++L
 | [],S,_,_=>by rw[append_nil];rfl
 |x::L,S,nd,h=>by
  have h0:gD S x=S++[x]:=by
   unfold gD;rw[if_pos (by rw[h x lf];rfl)]
  rw[map_cons]at nd;rw[foldl_cons,h0,xD (nodup_cons.mp nd).2]
  .rw[jp];rfl
  .intro y hy;have hne:(y.1 ==x.1)=false:=by
    cases e:y.1 ==x.1 with
    |false=>rfl
    |true=>
     have e:=beq_iff_eq.mp e;exact absurd (List.mem_map_of_mem (f:=(·.1)) hy) (e▸(nodup_cons.mp nd).1)
   obtain⟨a,b⟩:=x;rw[List.lookup_append,h y (dl _ hy),lookup_cons,hne]
   rfl
def xO {n:Str}:∀ {L:List (Str×Value)},(∀ x ∈ L,x.1≠n)->L.lookup n=none
 | [],_=>rfl
 |(a,b)::L,h=>by
  have:(n ==a)=false:=by
   cases e:n ==a with
   |false=>rfl
   |true=>exact absurd (beq_iff_eq.mp e).symm (h (a,b) lf)
  rw[lookup_cons,this];exact xO λx hx=>h x (dl _ hx)
variable {A:List Str}{B:List Value}
def js {x:Str×Value}(h:x ∈ A.zip B):x.1 ∈ A:=by
 obtain⟨a,b⟩:=x;exact(of_mem_zip h).1
def zip_map (h:A.length<=B.length):(A.zip B).map (·.1)=A:=List.map_fst_zip h
def jD {B:List Str}{us:List Value}(h:A.length=us.length):(A++B).zip us=A.zip us:=by
 have:=zip_append (l₁:=A) (l₂:=us) (r₁:=B) (r₂:=[]) h;rw[append_nil,List.zip_nil_right,append_nil]at this;exact this
def vS {B:List Str}{us D1 D2:List Value}(nd:(A++B).Nodup)(h1:A.length=us.length)(h2:B.length=D2.length)(h3:D1.length<=A.length):
  (((A++B).drop (A.length-D1.length)).zip (D1++D2)).foldl gD ((A++B).zip us)=(A++B).zip (us++D2):=by
 have a:=ye (L:=(A.drop (A.length-D1.length)).zip D1) (S:=(A++B).zip us) λx hx=>by
  rw[jD h1];exact rq h1.symm (List.mem_of_mem_drop (js hx))
 have b:=xD (L:=B.zip D2) (S:=(A++B).zip us) (by rw[zip_map nofun];exact(List.nodup_append.mp nd).2.1) λx hx=>by
  refine xO λy hy e=>?_
  rw[jD h1]at hy;exact(List.nodup_append.mp nd).2.2 y.1 (js hy) x.1 (js hx) e
 rw[List.drop_append_of_le_length nofun,zip_append (by rw[io];omega),List.foldl_append,a,b,jD h1,zip_append h1]
def tU {us ds:List Value}(nd:ps.Nodup)(h1:us.length<=ps.length)(h2:ds.length<=ps.length)(h3:ps.length<=us.length+ds.length):
  ((ps.drop (ps.length-ds.length)).zip ds).foldl gD (ps.zip us)=ps.zip (us++ds.drop (us.length+ds.length-ps.length)):=by
 have nd2:(ps.take us.length++ps.drop us.length).Nodup:=by rw[take_append_drop];exact nd
 have:=vS (A:=ps.take us.length) (B:=ps.drop us.length) (us:=us) (D1:=ds.take (us.length+ds.length-ps.length)) (D2:=ds.drop (us.length+ds.length-ps.length)) nd2 (by rw[db];omega) (by rw[io,io];omega) (by rw[db,db];omega);rw[take_append_drop,take_append_drop,db,db]at this;rw[show min us.length ps.length-min (us.length+ds.length-ps.length) ds.length=ps.length-ds.length by omega]at this;exact this
def kh:∀ {L:List (Str×Value)}{S:List (Str×Value)},(forIn L S λx r=>(match x with|(name,d)=>if(r.lookup name).isNone=true then pure (ForInStep.yield (r++[(name,d)])) else pure (ForInStep.yield r):Sem (ForInStep (List (Str×Value)))))=pure (L.foldl gD S)
 | [],S=>by simp
 |(a,b)::L,S=>by
  rw[forIn_cons,foldl_cons,<-kh];unfold gD
  by_cases e:(S.lookup a).isNone=true
  .simp only[e,if_true,pure_bind]
  .simp only[e,if_false,pure_bind,Bool.false_eq_true]
def tX {T:Addr}{items:Array Value}(nd:ps.Nodup)(h1:fd.params.posonlyargs=[])(h2:fd.params.args.map (·.arg)=ps)(h3:fd.params.kwonlyargs=[])(h4:fd.params.vararg=none)(h5:fd.params.kwarg=none)(h6:fd.defaults=.ref T)(us:List Value)(l1:us.length<=ps.length)(l2:items.toList.length<=ps.length)(l3:ps.length<=us.length+items.toList.length):
  ∃ k:Option (Array Value)->Sem (List (Str×Value)),bindArgs fd ⟨us,[]⟩=seqItems? fd.defaults >>= k/\k (some items)=pure (ps.zip (us++items.toList.drop (us.length+items.toList.length-ps.length))):=by
 obtain⟨name,qual,⟨po,as,va,ko,kd,ka,df⟩,body,scope,glo,bX,dV,kV,doc,pm,an,cdv,ct,bu⟩:=fd;dsimp only at h1 h2 h3 h4 h5 h6;subst h1 h2 h3 h4 h5 h6;generalize hps:as.map (·.arg)=ps at nd l1 l2 l3⊢;have e2:∀ f:Str->Bool,(∀ n ∈ ps.take (ps.length-items.toList.length),f n=false)->(ps.take (ps.length-items.toList.length)).filter f=[]:=λf h=>List.filter_eq_nil_iff.mpr λa ha=>by rw[h a ha];decide
 have e3:¬ (us.length>ps.length):=by omega
 have ez:ps.zip us=(ps.take us.length).zip us:=by
  have:=jD (A:=ps.take us.length) (B:=ps.drop us.length) (us:=us) (by rw[db];omega);rw[take_append_drop]at this;exact this
 have e4:=e2 (λn=>((ps.zip us).lookup n).isNone) λn hn=>by
  rw[ez];refine rq (by rw[db];omega) ?_;have:ps.take (ps.length-items.toList.length)=(ps.take us.length).take (ps.length-items.toList.length):=by rw[List.take_take,Nat.min_eq_left nofun]
  rw[this]at hn;exact mem_of_mem_take hn
 have e6:=tU (us:=us) (ds:=items.toList) nd l1 l2 l3;have e5:=mV (us:=us++items.toList.drop (us.length+items.toList.length-ps.length)) nd (by rw[ci,io];omega) λ_ _=>rfl
 have e7:items.toList.length-ps.length=0:=by omega
 unfold bindArgs;dsimp only[List.map_nil,nil_append,append_nil];rw[hps];refine⟨_,rfl,?_⟩;simp only[Option.getD_some,List.map_nil,nil_append,e7,drop_zero,e4,e3,List.isEmpty_nil,Bool.not_true,decide_false,Bool.false_and,Bool.false_eq_true,if_false,forIn_nil,append_nil];rw[kh,e6,pure_bind,pure_bind];simp only[e5,List.isEmpty_nil,Bool.not_true,Bool.false_eq_true,if_false]
abbrev yf (x:Option (Option Value))(a:Addr):Bool:=match x with
 |some (some (.ref b))=>b ==a
 |_=>false
variable {x:Option (Option Value)}
def dW {a:Addr}(h:yf x a=true):x=some (some (.ref a)):=by
 unfold yf at h
 split at h
 .rw[beq_iff_eq.mp h]
 .cases h
abbrev qI (x:Option (Option Value))(a:String):Bool:=match x with
 |some (some (.builtin b))=>b ==a
 |_=>false
variable {a:String}
def bK (h:qI x a=true):x=some (some (.builtin a)):=by
 unfold qI at h
 split at h
 .rw[beq_iff_eq.mp h]
 .cases h
abbrev DC (x:Option Value)(a:String):Bool:=match x with
 |some (.type b)=>b ==a
 |_=>false
def zK {x:Option Value}(h:DC x a=true):x=some (.type a):=by
 unfold DC at h
 split at h
 .rw[beq_iff_eq.mp h]
 .cases h
abbrev rO (x:Option (Option Value)):Bool:=match x with
 |some none=>true
 |_=>false
def jx (h:rO x=true):x=some none:=by
 unfold rO at h
 split at h
 .rfl
 .cases h
abbrev vQ (x:Option Bool)(b:Bool):Bool:=match x with
 |some c=>c ==b
 |none=>false
def cK {x:Option Bool}{b:Bool}(h:vQ x b=true):x=some b:=by
 unfold vQ at h
 split at h
 .rw[beq_iff_eq.mp h]
 .cases h
abbrev C9 (v:V)(x:Option (Option Value)):Bool:=match v,x with
 | .int i,some (some (.int j _))=>i ==j
 | .str s,some (some (.str s' _))=>s ==s'
 | .ref a,y=>yf y a
 |_,_=>false
def yA {v:V}(h:C9 v x=true):∃ u,x=some (some u)/\RelV v u:=by
 unfold C9 at h
 split at h
 .rw[<-beq_iff_eq.mp h];exact⟨_,rfl,_,rfl⟩
 .rw[<-beq_iff_eq.mp h];exact⟨_,rfl,_,rfl⟩
 .rw[dW h];exact⟨_,rfl,rfl⟩
 .cases h
section
variable (K:Frag) (C:Addr)
abbrev wg:Bool:=plainGet K C Str.empty&&(hasDictIn K C&&(plainOver K C&&qI (findIn K (.ref C) "__setattr__") "object.__setattr__"))
def ph {K:Frag}{C:Addr}(h:wg K C=true):vJ K C:=by
 unfold wg at h;simp only[lv]at h;exact⟨h.1,h.2.1,h.2.2.1,bK h.2.2.2⟩
abbrev uU:Bool:=qI (findIn K (.ref C) "__class__") "object.__class__"&&(qI (specialIn K (.builtin "object.__class__") "__get__") "getset_descriptor.__get__"&&vQ (takesIn K (.builtin "object.__class__")) true)
abbrev j9:Bool:=DC (typeIn K (.ref C)) "type"&&((clsIn K C).any (λcd=>cC cd.mro)&&(hasDictIn K C&&(qI (findIn K (.ref C) "__getattribute__") "BaseException.__getattribute__"&&(rO (findIn K (.ref C) "__getattr__")&&qI (findIn K (.ref C) "__setattr__") "object.__setattr__"))))
def hE {K:Frag}{C:Addr}(h:j9 K C=true):bM K C:=by
 unfold j9 at h;simp only[lv]at h;exact⟨zK h.1,h.2.1,h.2.2.1,bK h.2.2.2.1,jx h.2.2.2.2.1,bK h.2.2.2.2.2⟩
end
abbrev all2 {α:Type}(l:List α)(p:α->Bool):Bool:=match l with
 | []=>true
 |a::r=>p a&&all2 r p
def aq {α:Type}{p:α->Bool}:∀ {l:List α},all2 l p=true->∀ a ∈ l,p a=true
 | [],_,_,h=>by cases h
 |a::r,h,b,hb=>by
  unfold all2 at h;rw[lv]at h;rcases li.mp hb with rfl|hb
  .exact h.1
  .exact aq h.2 b hb
abbrev zu (K:Frag)(fs cs:List Addr)(gs:List (Str×V)):Rt:=⟨K,λi=>fs.getD i 0,λi=>cs.getD i 0,λx=>gs.lookup x⟩
section
variable (K:Frag) (T:Tab) (fs cs:List Addr) (gs:List (Str×V))
abbrev xf:Bool:=
 (all2 T.gfn (λp=>yf (nsIn K mainGlobals p.1) (fs.getD p.2 0)&&(keepIn K (.ref (fs.getD p.2 0))&&(T.fns[p.2]?).isSome))&&
 (all2 T.gcl (λp=>yf (nsIn K mainGlobals p.1) (cs.getD p.2 0))&&
 (all2 T.gbl (λx=>rO (nsIn K mainGlobals x)&& !(x ==("__name__":Str)))&&
 (all2 T.gbi (λx=>match nsIn K mainGlobals x with
  |some (some (.ref B))=>qI (specialIn K (.ref B) "__getattribute__") "type.__getattribute__"&&(readsIn K B (.type "type")&&(match findCls K (.ref B) (.type "type") "__init__" with|some (.val (.builtin n))=>n =="ValueError.__init__"|_=>false))
  |_=>false)&&
 (all2 gs (λp=>C9 p.2 (nsIn K mainGlobals p.1))&&
 (all2 T.na (λp=>rO (findIn K (.ref (cs.getD p.1 0)) p.2))&&
 (all2 T.me (λp=>wg K (cs.getD p.1.1 0)&&(yf (findIn K (.ref (cs.getD p.1.1 0)) p.1.2) (fs.getD p.2 0)&&(isFn K (.ref (fs.getD p.2 0))&&(keepIn K (.ref (fs.getD p.2 0))&&(T.fns[p.2]?).isSome)))))))))))&&
 (all2 T.ini0 (λc=>bg K (cs.getD c 0)&&(qI (findIn K (.ref (cs.getD c 0)) "__init__") "ValueError.__init__"&&(keepIn K (.ref (cs.getD c 0))&&j9 K (cs.getD c 0))))&&
 (all2 T.inip (λc=>makesIn K (cs.getD c 0)&&(qI (findIn K (.ref (cs.getD c 0)) "__init__") "object.__init__"&&keepIn K (.ref (cs.getD c 0))))&&
 (all2 T.ini (λp=>(T.fns[p.2]?).isSome&&((if T.xc.contains p.1=true then bg K (cs.getD p.1 0) else makesIn K (cs.getD p.1 0))&&(yf (findIn K (.ref (cs.getD p.1 0)) "__init__") (fs.getD p.2 0)&&(isFn K (.ref (fs.getD p.2 0))&&keepIn K (.ref (cs.getD p.1 0))))))&&
 (all2 T.oc (λc=>wg K (cs.getD c 0)&&(uU K (cs.getD c 0)&&vQ (mroIn K (cs.getD c 0) (.type "object")) true))&&
 (all2 T.xc (λc=>j9 K (cs.getD c 0)&&uU K (cs.getD c 0))&&
 (all2 T.sub (λp=>vQ (kitOne K (.ref (cs.getD p.1.1 0)) (.ref (cs.getD p.1.2 0))) p.2&&(!T.xc.contains p.1.1||(vQ (mroIn K (cs.getD p.1.1 0) (.ref (cs.getD p.1.2 0))) p.2&&j9 K (cs.getD p.1.2 0))))&&
 (all2 T.subT (λp=>vQ (kitOne K (.ref (cs.getD p.1.1 0)) (.type p.1.2)) p.2)&&
 (all2 T.subB (λp=>vQ (kitOne K (.type p.1.1) (.type p.1.2)) p.2)&&
 (all2 T.subO (λp=>vQ (kitOne K (.type p.1.1) (.ref (cs.getD p.1.2 0))) p.2)&&
  all2 T.cin (λp=>qI (specialIn K (.ref (cs.getD p.1 0)) "__getattribute__") "type.__getattribute__"&&(readsIn K (cs.getD p.1 0) (.type "type")&&((match findCls K (.ref (cs.getD p.1 0)) (.type "type") "__init__" with|some (.val (.ref f))=>f ==fs.getD p.2 0|_=>false)&&(keepIn K (.ref (fs.getD p.2 0))&&(T.fns[p.2]?).isSome)))))))))))))
end
def gw {α:Type}{x:Option α}(h:x.isSome=true):∃ d,x=some d:=Option.isSome_iff_exists.mp h
variable {K:Frag}{T:Tab}{fs:List Addr}{gs:List (Str×V)}{mg:EN}
def uN {cs:List Addr}{h:Heap}(X:K.In h)(G:h.Ns mainGlobals mg)(z:xf K T fs cs gs=true):vP K mg T (zu K fs cs gs):=by
 unfold xf at z;simp only[lv]at z;obtain⟨⟨z1,z2,z3,z4,z5,z6,z7⟩,z8,z9,z10,z11,z12,z13,z14,z15,z16,z17⟩:=z;exact {
  gfn:=gI λp hp=>by
   have:=aq z1 p hp;simp only[lv]at this;exact⟨mg_of X G (dW this.1),this.2.1,gw this.2.2⟩
  gcl:=gI λp hp=>mg_of X G (dW (aq z2 p hp))
  gbl:=fw λx hx=>by
   have:=aq z3 x hx;simp only[lv]at this;exact⟨mg_none_of X G (jx this.1),by simpa using this.2⟩
  gbi:=fw λx hx=>by
   have:=aq z4 x hx
   split at this
   .rename_i B e;simp only[lv]at this;refine⟨B,mg_of X G e,bK this.1,this.2.1,?_⟩;have t:=this.2.2
    split at t
    .rename_i n e2;rw[e2,beq_iff_eq.mp t]
    .cases t
   .cases this
  gl:=gI λp hp=>by
   obtain⟨u,e,r⟩:=yA (aq z5 p hp);exact⟨u,mg_of X G e,r⟩
  na:=vN λp hp=>jx (aq z6 p hp)
  me:=eK λp hp=>by
   have:=aq z7 p hp;simp only[lv]at this;exact⟨ph this.1,⟨dW this.2.1,this.2.2.1,this.2.2.2.1⟩,gw this.2.2.2.2⟩
  ini0:=fw λc hc=>by
   have:=aq z8 c hc;simp only[lv]at this;exact⟨this.1,bK this.2.1,this.2.2.1,hE this.2.2.2⟩
  inip:=fw λc hc=>by
   have:=aq z9 c hc;simp only[lv]at this;exact⟨this.1,bK this.2.1,this.2.2⟩
  ini:=gI λp hp=>by
   have:=aq z10 p hp;simp only[lv]at this;refine⟨gw this.1,?_⟩;have t:=this.2
   by_cases e:T.xc.contains p.1=true
   .rw[if_pos e]at t⊢;exact⟨t.1,dW t.2.1,t.2.2.1,t.2.2.2⟩
   .rw[if_neg e]at t⊢;exact⟨t.1,dW t.2.1,t.2.2.1,t.2.2.2⟩
  oc:=fw λc hc=>by
   have:=aq z11 c hc;simp only[uU,lv]at this;exact⟨ph this.1,bK this.2.1.1,bK this.2.1.2.1,cK this.2.1.2.2,cK this.2.2⟩
  xc:=fw λc hc=>by
   have:=aq z12 c hc;simp only[uU,lv]at this;exact⟨hE this.1,bK this.2.1,bK this.2.2.1,cK this.2.2.2⟩
  sub:=eK λp hp=>by
   have:=aq z13 p hp;simp only[lv]at this;refine⟨cK this.1,λe=>?_⟩;have t:=this.2;rw[e,Bool.not_true,Bool.false_or,lv]at t;exact⟨cK t.1,hE t.2⟩
  subT:=eK λp hp=>cK (aq z14 p hp)
  subB:=eK λp hp=>cK (aq z15 p hp)
  subO:=eK λp hp=>cK (aq z16 p hp)
  cin:=gI λp hp=>by
   have:=aq z17 p hp;simp only[lv]at this;refine⟨⟨bK this.1,this.2.1,?_,this.2.2.2.1⟩,gw this.2.2.2.2⟩;have t:=this.2.2.1
   split at t
   .rename_i f e2;rw[beq_iff_eq.mp t]at e2;exact e2
   .cases t }
abbrev Cq:List Str->Bool
 | []=>true
 |a::r=>!r.contains a&&Cq r
def sr:∀ {l:List Str},Cq l=true->l.Nodup
 | [],_=>List.nodup_nil
 |a::r,h=>by
  unfold Cq at h;rw[lv]at h;exact nodup_cons.mpr ⟨by simpa using h.1,sr h.2⟩
abbrev Dz (N P:List Str)(sc:Scope):Bool:=decide (sc.kind=.function)&&(!sc.isCoroutine&&(!sc.isGenerator&&(Cq N&&(N.take P.length ==P&&(all2 P (λx=>match sc.names.lookup x with|some .local=>true|some .cell=>true|_=>false)&&all2 sc.names (λy=>match y.2 with| .free=>false|_=>true))))))
def nj {N P:List Str}{sc:Scope}(h:Dz N P sc=true):gi N P sc:=by
 unfold Dz at h;simp only[lv,decide_eq_true_eq]at h;refine⟨h.1,by simpa using h.2.1,by simpa using h.2.2.1,sr h.2.2.2.1,beq_iff_eq.mp h.2.2.2.2.1,λx hx=>?_,λy hy e=>?_⟩
 .have:=aq h.2.2.2.2.2.1 x hx
  split at this
  .rename_i e;exact .inl e
  .rename_i e;exact .inr e
  .cases this
 .have:=aq h.2.2.2.2.2.2 y hy;rw[e]at this;cases this
abbrev DJ:V->Value->Bool
 | .non,.none=>true
 | .bl b,.bool c=>b ==c
 | .int i,.int j _=>i ==j
 | .str s,.str s' _=>s ==s'
 |_,_=>false
def zO {v:V}{u:Value}(h:DJ v u=true):RelV v u:=by
 unfold DJ at h
 split at h
 .rfl
 .rw[beq_iff_eq.mp h];rfl
 .rw[beq_iff_eq.mp h];exact⟨_,rfl⟩
 .rw[beq_iff_eq.mp h];exact⟨_,rfl⟩
 .cases h
abbrev sN:List V->List Value->Bool
 | [],[]=>true
 |v::vs,u::us=>DJ v u&&sN vs us
 |_,_=>false
def jm:∀ {vs:List V}{us:List Value},sN vs us=true->Vals vs us
 | [],[],_=>.nil
 |v::vs,u::us,h=>by
  unfold sN at h;rw[lv]at h;exact .cons (zO h.1) (jm h.2)
 | [],_::_,h=>by cases h
 |_::_,[],h=>by cases h
abbrev Dl (K:Frag)(fd:FuncData)(d:aA):Bool:=match fd.defaults with
 | .none=>d.dfl.isEmpty
 | .ref T=>!d.dfl.isEmpty&&(match K.lookup T with
  |some o=>(match o.data with| .seq items _=>sN d.dfl items.toList&&decide (items.toList.length<=d.ps.length)|_=>false)
  |none=>false)
 |_=>false
abbrev xT (K:Frag)(T:Tab)(f:Addr)(d:aA):Bool:=match K.lookup f with
 |some ⟨_,_,.func fd,_⟩=>(match fd.body with
  | .stmts body=>decide (fd.globals=mainGlobals)&&(fd.closure.isEmpty&&(decide (fd.builtins=builtinsNs)&&(codeIn K fd.code fd.qualname&&(Dz d.N d.ps fd.scope&&(mB ⟨T,fd.scope,d.N⟩ d.body body&&
   (fd.params.posonlyargs.isEmpty&&(fd.params.args.map (·.arg) ==d.ps&&(fd.params.kwonlyargs.isEmpty&&(fd.params.vararg.isNone&&(fd.params.kwarg.isNone&&Dl K fd d))))))))))
  |_=>false)
 |_=>false
variable {d:aA}
def yx {f:Addr}(h:xT K T f d=true):pE K T f d:=by
 unfold xT at h
 split at h
 .rename_i oc od fd sl e;obtain⟨name,qual,params,body,scope,glo,bX,dV,kV,doc,pm,an,cdv,ct,bu⟩:=fd;dsimp only at h
  split at h
  .rename_i body;simp only[lv,decide_eq_true_eq,isEmpty_iff,Option.isNone_iff_eq_none]at h;obtain⟨h1,h2,h3,h4,h5,h6,h7,h8,h9,h10,h11,h12⟩:=h;subst h1 h2 h3;have S:=nj h5;have nd:d.ps.Nodup:=by
    rw[<-S.pre];exact S.nd.sublist (take_sublist _ _)
   refine⟨⟨name,qual,params,body,scope,dV,kV,doc,pm,cdv,ct,oc,od,an,sl,e,h4,S,h6,?_⟩⟩;unfold Dl at h12;dsimp only at h12
   split at h12
   .rw[isEmpty_iff.mp h12];exact Ae (.all λus hl=>ky nd h7 (beq_iff_eq.mp h8) h9 h10 h11 rfl us hl)
   .rename_i T0;rw[lv]at h12;have h12:=h12.2
    split at h12
    .rename_i o ho
     split at h12
     .rename_i items c hs;rw[lv,decide_eq_true_eq]at h12;intro j;refine⟨items.toList.drop j,?_,iK j (jm h12.1)⟩;refine vo (n:=d.ps.length-(items.toList.drop j).length) rfl ho hs (by rw[io];omega) λus hl=>?_
      rw[io]at hl;obtain⟨k,k1,k2⟩:=tX (fd:=fnOf name qual params body scope (.ref T0) kV doc pm an cdv ct) (items:=items) nd h7 (beq_iff_eq.mp h8) h9 h10 h11 rfl us nofun h12.2 nofun;refine⟨k,k1,?_⟩;rw[k2]
      by_cases e:j<=items.toList.length
      .rw[show us.length+items.toList.length-d.ps.length=j by omega]
      .rw[show us.length+items.toList.length-d.ps.length=items.toList.length by omega,List.drop_length,List.drop_eq_nil_of_le (by omega:items.toList.length<=j)]
     .cases h12
    .cases h12
   .cases h12
  .cases h
 .cases h
abbrev hW (K:Frag)(T:Tab)(fs:List Addr):Nat->List aA->Bool
 |_,[]=>true
 |n,d::r=>xT K T (fs.getD n 0) d&&hW K T fs (n+1) r
def nF {K:Frag}{T:Tab}{fs:List Addr}:∀ {l:List aA}{n:Nat},hW K T fs n l=true->oA (λf d=>pE K T (fs.getD f 0) d) n l
 | [],_,_=>True.intro
 |d::r,n,h=>by
  unfold hW at h;rw[lv]at h;exact⟨yx h.1,nF h.2⟩
def wW (h:hW K T fs 0 T.fns=true):∀ f d,T.fns[f]? =some d->pE K T (fs.getD f 0) d:=lU (P:=λf d=>pE K T (fs.getD f 0) d) (nF h)
def nD {K:Frag}{T:Tab}{fs:List Addr}:∀ {l:List aA}{n f:Nat}{d:aA},hW K T fs n l=true->l[f]? =some d->xT K T (fs.getD (n+f) 0) d=true
 | [],_,_,_,_,e=>by simp at e
 |a::r,n,0,d,h,e=>by
  unfold hW at h;rw[lv]at h;have:a=d:=by simpa using e
  subst this;exact h.1
 |a::r,n,f+1,d,h,e=>by
  unfold hW at h;rw[lv]at h;have:=nD h.2 (f:=f) (d:=d) (by simpa using e)
  rwa [Nat.add_assoc,Nat.add_comm 1 f]at this
def wZ {fl:Nat}(z:hW K T fs 0 T.fns=true)(hd:T.fns[fl]? =some d)(hp:d.ps=[("_law_script":Str)]) (hf:d.dfl=[]):
  ∃ oc od fd sl,K.lookup (fs.getD fl 0)=some ⟨oc,od,.func fd,sl⟩/\∀ (s:Shared) (v:Value),BindsTo s fd ⟨[v],[]⟩ [("_law_script",v)]:=by
 have h:=nD z hd;rw[Nat.zero_add]at h;unfold xT at h
 split at h
 .rename_i oc od fd sl e;refine⟨oc,od,fd,sl,e,λs v=>?_⟩
  split at h
  .rename_i body hb;simp only[lv,decide_eq_true_eq,isEmpty_iff,Option.isNone_iff_eq_none]at h;obtain⟨h1,h2,h3,h4,h5,h6,h7,h8,h9,h10,h11,h12⟩:=h;have nd:d.ps.Nodup:=by
    rw[<-(nj h5).pre];exact(nj h5).nd.sublist (take_sublist _ _)
   unfold Dl at h12;rw[hf]at h12;have e6:fd.defaults=.none:=by
    split at h12
    .rename_i e;exact e
    .rw[lv]at h12;cases h12.1
    .cases h12
   have:=ky nd h7 (beq_iff_eq.mp h8) h9 h10 h11 e6 [v] (by rw[hp];rfl);rw[hp]at this;exact .of_eq this
  .cases h
 .cases h
def vn {P:Program}{w:World}{h:Heap}{fa:Addr}{cs:List Addr}{fl k:Nat}(X:K.In h)(G:h.Ns mainGlobals mg)(hfa:mg "law"=some (.ref fa))
  (z1:xf K T fs cs gs=true) (z2:hW K T fs 0 T.fns=true) (z3:yf (nsIn K mainGlobals "law") (fs.getD fl 0)=true) (hd:T.fns[fl]? =some d) (hp:d.ps=[("_law_script":Str)]) (hf:d.dfl=[])
  (ht:∀ vs H Q E,fU K 63 vs H Q E->ae T (zu K fs cs gs) k fl vs H Q E):
  ∃ fd:FuncData,(∀ (s:Shared) (v:Value),BindsTo s fd ⟨[v],[]⟩ [("_law_script",v)])/\∀ base:Heap,K.In base->base.Ns mainGlobals mg->bV P w K mg base (tQ P w) (2*k) fa fd ["_law_script"] (fU K 63):=by
 have e0:fs.getD fl 0=fa:=by
  have e:=hfa.symm.trans (mg_of X G (dW z3))
  injection e with e
  injection e with e
  exact e.symm
 have fn:=wW z2;have tk:=uN X G z1;have N:=fn fl d hd;have hN:=wZ z2 hd;obtain⟨oc,od,fd,sl,e,hb⟩:=hN hp hf;refine⟨fd,hb,λbase hb hg=>?_⟩;have F:=Al (P:=P) (w:=w) (base:=base) (R:=zu K fs cs gs) tk rfl fn k fl d hd (fd:=fd) (lk:=e) (k6▸ht);rw[hp]at F;rw[<-e0];exact F
abbrev Ed (K:Frag)(a:Addr)(vs:List V):Bool:=match K.lookup a with
 |some ⟨.type t,_,.seq items _,_⟩=>t =="tuple"&&(decide (items.size<=1000)&&sN vs items.toList)
 |_=>false
def zf {a:Addr}{vs:List V}(h:Ed K a vs=true)(H:Hp):bp K H a vs:=by
 unfold Ed at h
 split at h
 .rename_i t od items n sl e;simp only[lv,decide_eq_true_eq]at h;refine .inr ⟨_,items,n,e,?_,rfl,?_,jm h.2.2⟩
  .show Value.type t=_;rw[beq_iff_eq.mp h.1]
  .exact Nat.le_of_lt (cf h.2.1)
 .cases h
end L3
namespace L3
open PySem L2
noncomputable abbrev d5.c (e:Ex)(r:d5):d5:=.cons e r
noncomputable abbrev d5.n:d5:=.nil
noncomputable abbrev ie.c (e:Sx)(r:ie):ie:=.cons e r
noncomputable abbrev ie.n:ie:=.nil
noncomputable abbrev uH.c (a b:Nat)(e:ie)(r:uH):uH:=.cons a b e r
noncomputable abbrev uH.n:uH:=.nil
noncomputable abbrev Ex.i (x:Int):Ex:=.int x
noncomputable abbrev Ex.s (x:Str):Ex:=.str x
noncomputable abbrev Ex.k (x:Nat)(e:d5):Ex:=.call x e
noncomputable abbrev Ex.m (a:Ex)(x:Str)(e:d5):Ex:=.meth a x e
noncomputable abbrev Ex.f (c:Tx)(a b:Ex):Ex:=.ife c a b
noncomputable abbrev Ex.q (o:CmpOp)(a b:Ex):Ex:=.cmp o a b
noncomputable abbrev Tx.q (o:CmpOp)(a b:Ex):Tx:=.cmp o a b
noncomputable abbrev Sx.a (x:Nat)(e:Ex):Sx:=.asg x e
noncomputable abbrev Sx.r (e:Ex):Sx:=.ret e
noncomputable abbrev Sx.f (c:Tx)(a b:ie):Sx:=.ife c a b
noncomputable abbrev Sx.e (e:Ex):Sx:=.expr e
end L3
set_option Elab.async false
set_option maxHeartbeats 8000000
open PySem PySem.Spec L2 L3
namespace My
open PySem L2 L3
set_option hygiene false
local macro_rules|`(#[])=>`(.n)|`(#[$x:term])=>`(.c $x .n)|`(#[$x:term,$xs:term,*])=>`(.c $x #[$xs,*])
set_option hygiene true
abbrev bG:aA:=⟨["self","at"],["self","at"],[],#[.e (.bini #[.v 0,.s "no list of 1 to 60 contents"]),.fld (.v 0) "at" (.v 1)]⟩
abbrev fq:aA:=⟨["self","box","number"],["self","box","number"],[],#[.e (.bini #[.v 0,.s "a box can't hold this"]),.fld (.v 0) "box" (.v 1),.fld (.v 0) "number" (.v 2)]⟩
abbrev eC:aA:=⟨["self","word"],["self","word"],[],#[.e (.bini #[.v 0,.s "a deed can't be made of this"]),.fld (.v 0) "word" (.v 1)]⟩
abbrev bN:aA:=⟨["self","at"],["self","at"],[],#[.e (.bini #[.v 0,.s "no list of 1 to 24 deeds"]),.fld (.v 0) "at" (.v 1)]⟩
abbrev dI:aA:=⟨["self","at"],["self","at"],[],#[.e (.bini #[.v 0,.s "no place to stand at"]),.fld (.v 0) "at" (.v 1)]⟩
abbrev ef:aA:=⟨["self","word"],["self","word"],[],#[.e (.bini #[.v 0,.s "no name, or a name that is taken or unknown"]),.fld (.v 0) "word" (.v 1)]⟩
abbrev bP:aA:=⟨["self","many"],["self","many"],[],#[.e (.bini #[.v 0,.s "none or too many deeds, laid flat"]),.fld (.v 0) "many" (.v 1)]⟩
abbrev hR:aA:=⟨["thing"],["thing"],[],#[.r (.and (.isi (.v 0) (.ty "int")) (.not (.isi (.v 0) (.ty "bool"))))]⟩
abbrev eB:aA:=⟨["thing"],["thing"],[],#[.r (.and (.k 7 #[.v 0]) (.cmp2 .LtE .LtE (.i 0) (.v 0) (.gl "BOUND")))]⟩
abbrev kC:aA:=⟨["thing"],["thing"],[],#[.r (.and (.isi (.v 0) (.ty "str")) (.q .In (.v 0) (.gl "NAMES")))]⟩
abbrev fV:aA:=⟨["thing"],["thing"],[],#[.r (.and (.k 7 #[.v 0]) (.cmp2 .LtE .LtE (.neg (.gl "BOUND")) (.v 0) (.gl "BOUND")))]⟩
abbrev sY:aA:=⟨["box","thing"],["box","thing"],[],#[.f (.or (.q .Eq (.v 0) (.s "here")) (.q .Eq (.v 0) (.s "there"))) #[.r (.k 10 #[.v 1])] .n,.f (.q .Eq (.v 0) (.s "way")) #[.r (.and (.k 7 #[.v 1]) (.or (.q .Eq (.v 1) (.i 1)) (.q .Eq (.v 1) (.neg (.i 1)))))] .n,.f (.q .Eq (.v 0) (.s "met")) #[.r (.and (.k 7 #[.v 1]) (.or (.q .Eq (.v 1) (.i 0)) (.q .Eq (.v 1) (.i 1))))] .n,.r (.k 8 #[.v 1])]⟩
abbrev cn:aA:=⟨["self","here","there","left","way","sign","met"],["self","here","there","left","way","sign","met","handed","box","number"],[.int 0,.int 0,.int 0,.int 1,.int 0,.int 0],#[.a 7 (.tup #[.v 1,.v 2,.v 3,.v 4,.v 5,.v 6]),.for (.tp [8,9]) (.zip (.gl "NAMES") (.v 7)) #[.f (.not (.val (.k 11 #[.v 8,.v 9]))) #[.rais (.make 2 #[.v 8,.v 9])] .n],.fld (.v 0) "numbers" (.dzip (.gl "NAMES") (.v 7))]⟩
abbrev jB:aA:=⟨["self"],["self"],[],#[.r (.bf .tuple #[.lc (.ix (.fld (.v 1) "numbers") (.v 0)) [0] (.seq (.gl "NAMES"))])]⟩
abbrev cY:aA:=⟨["self"],["self","other"],[],#[.a 1 (.make 8 .n),.fld (.v 1) "numbers" (.bf .dict #[.fld (.v 0) "numbers"]),.r (.v 1)]⟩
abbrev fO:aA:=⟨["word","box"],["word","box"],[],#[.f (.not (.val (.k 9 #[.v 1]))) #[.rais (.make 3 #[.v 0])] .n]⟩
abbrev cI:aA:=⟨["word","number"],["word","number"],[],#[.f (.not (.val (.k 10 #[.v 1]))) #[.rais (.make 3 #[.v 0])] .n]⟩
abbrev cL:aA:=⟨["self","box","number"],["self","box","number"],[],#[.e (.k 15 #[.s "set",.v 1]),.e (.k 16 #[.s "set",.v 2]),.fld (.v 0) "box" (.v 1),.fld (.v 0) "number" (.v 2)]⟩
abbrev kg:aA:=⟨["self"],["self"],[],#[.r (.lst #[.s "set",.fld (.v 0) "box",.bf .str #[.fld (.v 0) "number"]])]⟩
abbrev cy:aA:=⟨["rows"],["rows","at","thing"],[],#[.f (.or (.not (.val (.isi (.v 0) (.ty "list")))) (.not (.cmp2 .LtE .LtE (.i 1) (.bf .len #[.v 0]) (.gl "MOST_ROWS")))) #[.rais (.make 4 #[.neg (.i 1)])] .n,.for (.tp [1,2]) (.enm (.v 0)) #[.f (.not (.val (.isi (.v 2) (.own 9)))) #[.rais (.make 4 #[.v 1])] .n]]⟩
abbrev dD:aA:=⟨["at","many"],["at","many"],[],#[.f (.or (.not (.val (.k 7 #[.v 0]))) (.not (.cmp2 .LtE .LtE (.i 0) (.v 0) (.v 1)))) #[.rais (.make 5 #[.v 0])] .n]⟩
abbrev aw:aA:=⟨["self","rows","store","boxes","at"],["self","rows","store","boxes","at"],[.int 0],#[.e (.k 19 #[.v 1]),.e (.k 20 #[.v 4,.bf .len #[.v 1]]),.fld (.v 0) "deeds" (.bf .list #[.v 1]),.fld (.v 0) "store" (.m (.v 2) "copied" .n),.fld (.v 0) "boxes" (.m (.v 3) "copied" .n),.fld (.v 0) "at" (.v 4)]⟩
abbrev g8:aA:=⟨["self"],["self"],[],#[.r (.lc (.m (.v 0) "words" .n) [] (.seq (.fld (.v 0) "deeds")))]⟩
abbrev fh:aA:=⟨["self"],["self"],[],#[.r (.make 11 #[.fld (.v 0) "deeds",.fld (.v 0) "store",.fld (.v 0) "boxes",.fld (.v 0) "at"])]⟩
abbrev iZ:aA:=⟨["thing"],["thing"],[],#[.r (.and (.k 7 #[.v 0]) (.cmp2 .LtE .LtE (.i 0) (.v 0) (.gl "MOST_HOPPED")))]⟩
abbrev o5:aA:=⟨["thing"],["thing"],[],#[.r (.or (.q .Is (.v 0) .non) (.and (.k 7 #[.v 0]) (.or (.q .Eq (.v 0) (.i 0)) (.q .Eq (.v 0) (.i 1)))))]⟩
abbrev cT:aA:=⟨["self","many","on"],["self","many","on"],[.non],#[.f (.or (.not (.val (.k 24 #[.v 1]))) (.not (.val (.k 25 #[.v 2])))) #[.rais (.make 3 #[.s "hop"])] .n,.fld (.v 0) "many" (.v 1),.fld (.v 0) "on" (.v 2)]⟩
abbrev kX:aA:=⟨["self"],["self","told"],[],#[.a 1 (.lst #[.s "hop",.bf .str #[.fld (.v 0) "many"]]),.f (.q .IsNot (.fld (.v 0) "on") .non) #[.e (.lm .extend (.v 1) #[.lst #[.s "if",.bf .str #[.fld (.v 0) "on"]]])] .n,.r (.v 1)]⟩
abbrev dC:aA:=⟨["self","name"],["self","name"],[],#[.fld (.v 0) "called" (.v 1)]⟩
abbrev qd:aA:=⟨["self"],["self"],[],#[.r (.tup #[.s "do",.fld (.v 0) "called"])]⟩
abbrev cg:aA:=⟨["self","many","block"],["self","many","block"],[],#[.fld (.v 0) "many" (.v 1),.fld (.v 0) "block" (.bf .list #[.v 2])]⟩
abbrev jN:aA:=⟨["self"],["self"],[],#[.r (.tup #[.s "times",.fld (.v 0) "many",.bf .list #[.fld (.v 0) "block"]])]⟩
abbrev bq:aA:=⟨["self","on","block","other"],["self","on","block","other"],[.non],#[.fld (.v 0) "on" (.v 1),.fld (.v 0) "block" (.bf .list #[.v 2]),.fld (.v 0) "other" (.f (.q .Is (.v 3) .non) (.lst .n) (.bf .list #[.v 3]))]⟩
abbrev ly:aA:=⟨["self"],["self"],[],#[.r (.tup #[.s "when",.fld (.v 0) "on",.bf .list #[.fld (.v 0) "block"],.bf .list #[.fld (.v 0) "other"]])]⟩
abbrev iQ:aA:=⟨["thing"],["thing"],[],#[.f (.or (.not (.val (.isi (.v 0) (.ty "str")))) (.not (.cmp2 .LtE .LtE (.i 1) (.bf .len #[.v 0]) (.gl "LONGEST_NAME")))) #[.r (.bl false)] .n,.r (.bf .all #[.lc (.q .In (.v 0) (.gl "LETTERS")) [] (.seq (.v 0))])]⟩
abbrev dB:aA:=⟨["book","block"],["book","block","item"],[],#[.for (.nm 2) (.seq (.v 1)) #[.f (.and (.val (.isi (.v 2) (.own 13))) (.not (.val (.m (.v 0) "has" #[.fld (.v 2) "called"])))) #[.rais (.make 6 #[.fld (.v 2) "called"])] .n,.f (.val (.isiT (.v 2) [14,15])) #[.e (.k 35 #[.v 0,.fld (.v 2) "block"])] .n,.f (.val (.isi (.v 2) (.own 15))) #[.e (.k 35 #[.v 0,.fld (.v 2) "other"])] .n]]⟩
abbrev ei:aA:=⟨["book","item"],["book","item"],[],#[.f (.val (.isi (.v 1) (.own 13))) #[.r (.m (.v 0) "count_named" #[.fld (.v 1) "called"])] .n,.f (.val (.isi (.v 1) (.own 14))) #[.r (.bin .Mult (.fld (.v 1) "many") (.k 38 #[.v 0,.fld (.v 1) "block"]))] .n,.f (.val (.isi (.v 1) (.own 15))) #[.r (.k 37 #[.v 0,.v 1])] .n,.r (.i 1)]⟩
abbrev eG:aA:=⟨["book","when"],["book","when","many"],[],#[.a 2 (.bin .Add (.i 1) (.k 38 #[.v 0,.fld (.v 1) "block"])),.f (.q .Eq (.bf .len #[.fld (.v 1) "other"]) (.i 0)) #[.r (.v 2)] .n,.r (.bin .Add (.bin .Add (.v 2) (.i 1)) (.k 38 #[.v 0,.fld (.v 1) "other"]))]⟩
abbrev dw:aA:=⟨["book","block"],["book","block"],[],#[.r (.bf .sum #[.lc (.k 36 #[.v 1,.v 0]) [0] (.seq (.v 1))])]⟩
abbrev cE:aA:=⟨["self"],["self"],[],#[.fld (.v 0) "blocks" .dnew,.fld (.v 0) "counts" .dnew]⟩
abbrev g9:aA:=⟨["self","word"],["self","word"],[],#[.r (.q .In (.v 1) (.fld (.v 0) "blocks"))]⟩
abbrev fT:aA:=⟨["self","word","block"],["self","word","block"],[],#[.f (.or (.not (.val (.k 34 #[.v 1]))) (.val (.m (.v 0) "has" #[.v 1]))) #[.rais (.make 6 #[.v 1])] .n,.e (.k 35 #[.v 0,.v 2]),.sub (.fld (.v 0) "counts") (.v 1) (.k 38 #[.v 0,.v 2]),.sub (.fld (.v 0) "blocks") (.v 1) (.bf .list #[.v 2])]⟩
abbrev bF:aA:=⟨["self","word"],["self","word"],[],#[.r (.ix (.fld (.v 0) "blocks") (.v 1))]⟩
abbrev bD:aA:=⟨["self","word"],["self","word"],[],#[.r (.ix (.fld (.v 0) "counts") (.v 1))]⟩
abbrev g0:aA:=⟨["book","block"],["book","block"],[],#[.e (.k 35 #[.v 0,.v 1]),.r (.k 38 #[.v 0,.v 1])]⟩
abbrev o7:aA:=⟨["head","pairs"],["head","pairs"],[],#[.r (.lct (.tup #[.bin .Add (.v 2) (.v 0),.v 1]) 2 [0] (.seq (.v 1)))]⟩
abbrev iV:aA:=⟨["book","place","do"],["book","place","do"],[],#[.f (.q .Eq (.m (.v 0) "count_named" #[.fld (.v 2) "called"]) (.i 0)) #[.r (.lst .n)] .n,.r (.k 45 #[.tup #[.v 1],.k 50 #[.v 0,.m (.v 0) "block_named" #[.fld (.v 2) "called"]]])]⟩
abbrev eU:aA:=⟨["book","place","times"],["book","place","times","once","pairs","turn"],[],#[.f (.q .Eq (.fld (.v 2) "many") (.i 0)) #[.r (.lst .n)] .n,.a 3 (.k 50 #[.v 0,.fld (.v 2) "block"]),.a 4 (.lst .n),.for (.nm 5) (.rng1 (.fld (.v 2) "many")) #[.e (.lm .extend (.v 4) #[.k 45 #[.tup #[.v 1,.v 5],.v 3]])],.r (.v 4)]⟩
abbrev fM:aA:=⟨["book","place","when"],["book","place","when","block","other","first","second"],[],#[.a 3 (.k 45 #[.tup #[.v 1,.i 0],.k 50 #[.v 0,.fld (.v 2) "block"]]),.f (.q .Eq (.bf .len #[.fld (.v 2) "other"]) (.i 0)) #[.r (.bin .Add (.lst #[.tup #[.tup #[.v 1],.make 12 #[.bf .len #[.v 3],.bin .Sub (.i 1) (.fld (.v 2) "on")]]]) (.v 3))] .n,.a 4 (.k 45 #[.tup #[.v 1,.i 1],.k 50 #[.v 0,.fld (.v 2) "other"]]),.a 5 (.tup #[.tup #[.v 1],.make 12 #[.bin .Add (.bf .len #[.v 3]) (.i 1),.bin .Sub (.i 1) (.fld (.v 2) "on")]]),.a 6 (.tup #[.tup #[.v 1,.i 2],.make 12 #[.bf .len #[.v 4]]]),.r (.bin .Add (.bin .Add (.bin .Add (.lst #[.v 5]) (.v 3)) (.lst #[.v 6])) (.v 4))]⟩
abbrev fS:aA:=⟨["book","place","item"],["book","place","item"],[],#[.f (.val (.isi (.v 2) (.own 13))) #[.r (.k 46 #[.v 0,.v 1,.v 2])] .n,.f (.val (.isi (.v 2) (.own 14))) #[.r (.k 47 #[.v 0,.v 1,.v 2])] .n,.f (.val (.isi (.v 2) (.own 15))) #[.r (.k 48 #[.v 0,.v 1,.v 2])] .n,.r (.lst #[.tup #[.tup #[.v 1],.v 2]])]⟩
abbrev sk:aA:=⟨["book","block"],["book","block","pairs","place","item"],[],#[.a 2 (.lst .n),.for (.tp [3,4]) (.enm (.v 1)) #[.e (.lm .extend (.v 2) #[.k 49 #[.v 0,.v 3,.v 4]])],.r (.v 2)]⟩
abbrev fN:aA:=⟨["book","block"],["book","block","many"],[],#[.a 2 (.k 44 #[.v 0,.v 1]),.f (.not (.cmp2 .LtE .LtE (.i 1) (.v 2) (.gl "MOST_ROWS"))) #[.rais (.make 7 #[.v 2])] .n,.r (.k 50 #[.v 0,.v 1])]⟩
abbrev sW:aA:=⟨["book","block"],["book","block"],[],#[.r (.lct (.v 1) 2 [] (.seq (.k 51 #[.v 0,.v 1])))]⟩
abbrev jr:aA:=⟨["self"],["self"],[],#[.r (.lst #[.s "copy"])]⟩
abbrev jI:aA:=⟨["self"],["self"],[],#[.r (.lst #[.s "turn"])]⟩
abbrev dA:aA:=⟨["cells"],["cells","at","thing"],[],#[.f (.or (.not (.val (.isi (.v 0) (.ty "list")))) (.not (.cmp2 .LtE .LtE (.i 1) (.bf .len #[.v 0]) (.gl "MOST_CELLS")))) #[.rais (.make 1 #[.neg (.i 1)])] .n,.for (.tp [1,2]) (.enm (.v 0)) #[.f (.not (.val (.k 8 #[.v 2]))) #[.rais (.make 1 #[.v 1])] .n]]⟩
abbrev cp:aA:=⟨["self","cells"],["self","cells"],[],#[.e (.k 55 #[.v 1]),.fld (.v 0) "contents" (.bf .list #[.v 1]),.fld (.v 0) "permits" (.bin .Mult (.lst #[.s "open"]) (.bf .len #[.v 1]))]⟩
abbrev jR:aA:=⟨["self"],["self"],[],#[.r (.bf .list #[.fld (.v 0) "contents"])]⟩
abbrev cR:aA:=⟨["self"],["self","other"],[],#[.a 1 (.make 19 #[.lst #[.i 0]]),.fld (.v 1) "contents" (.bf .list #[.fld (.v 0) "contents"]),.fld (.v 1) "permits" (.bf .list #[.fld (.v 0) "permits"]),.r (.v 1)]⟩
abbrev aR:aA:=⟨["self","rows","store","boxes","at"],["self","rows","store","boxes","at"],[.int 0],#[.e (.cini 11 #[.v 0,.v 1,.v 2,.v 3,.v 4]),.fld (.v 0) "entries" (.lst .n)]⟩
abbrev iq:aA:=⟨["self"],["self"],[],#[.r (.lct (.tup #[.v 0,.v 1,.bf .list #[.v 2]]) 3 [] (.seq (.fld (.v 0) "entries")))]⟩
abbrev fD:aA:=⟨["self"],["self","other"],[],#[.a 1 (.make 20 #[.fld (.v 0) "deeds",.fld (.v 0) "store",.fld (.v 0) "boxes",.fld (.v 0) "at"]),.fld (.v 1) "entries" (.m (.v 0) "log" .n),.r (.v 1)]⟩
abbrev f7:aA:=⟨["_law_script"],["_law_script","_law_cells","_law_fold","_law_cell"],[],#[.a 1 (.bf .list #[.sl (.v 0) .no (.yes (.i 63))]),.a 2 (.bf .len #[.v 1]),.for (.nm 3) (.seq (.v 1)) #[.a 2 (.bin .Mod (.bin .Add (.bin .Add (.bin .Mult (.v 2) (.i 48271)) (.bin .Mod (.v 3) (.i 2147483647))) (.i 1)) (.i 2147483629))],.r (.lst #[.v 1,.v 2,.i 0,.i 0,.i 0])]⟩
abbrev fP:aA:=⟨["_law_hand_here","_law_many"],["_law_hand_here","_law_many","_law_rest","_law_cell","_law_one","_law_two"],[],#[.augS (.v 0) (.i 4) .Add (.i 1),.a 2 (.ix (.v 0) (.i 3)),.a 3 (.ix (.v 0) (.i 1)),.f (.q .Gt (.v 2) (.i 0)) #[.sub (.v 0) (.i 3) (.bin .FloorDiv (.v 2) (.v 1)),.r (.bin .Mod (.v 2) (.v 1))] .n,.f (.q .Lt (.ix (.v 0) (.i 2)) (.bf .len #[.ix (.v 0) (.i 0)])) #[.a 3 (.ix (.ix (.v 0) (.i 0)) (.ix (.v 0) (.i 2))),.augS (.v 0) (.i 2) .Add (.i 1),.f (.q .GtE (.v 3) (.bin .Pow (.i 10) (.i 18))) #[.sub (.v 0) (.i 3) (.bin .FloorDiv (.v 3) (.v 1)),.r (.bin .Mod (.v 3) (.v 1))] .n] .n,.a 4 (.bin .Mod (.bin .Pow (.bin .Add (.bin .Mod (.v 3) (.i 998244353)) (.bin .Mult (.i 7919) (.ix (.v 0) (.i 4)))) (.i 5)) (.i 2147483647)),.a 5 (.bin .Mod (.bin .Pow (.bin .Add (.bin .Add (.v 4) (.bin .Mult (.i 104729) (.ix (.v 0) (.i 4)))) (.ix (.v 0) (.i 1))) (.i 3)) (.i 2147483629)),.r (.bin .Mod (.bin .FloorDiv (.v 5) (.i 7)) (.v 1))]⟩
abbrev cU:aA:=⟨["_law_watched","_law_rows"],["_law_watched","_law_rows","e"],[],#[.tryx #[.f (.val (.v 0)) #[.e (.make 20 #[.v 1,.make 19 #[.lst #[.i 1,.i 2]],.make 8 .n])] #[.e (.make 11 #[.v 1,.make 19 #[.lst #[.i 1,.i 2]],.make 8 .n])]] (.c 0 2 #[.f (.and (.val (.isi (.v 2) (.own 4))) (.not (.val (.isi (.v 2) (.own 5))))) #[.r (.tup #[.s "rows",.fld (.v 2) "at"])] .n,.r (.tup #[.s "other",.i 0])] .n),.r (.tup #[.s "made",.i 0])]⟩
abbrev dF:aA:=⟨["_law_hand_here","_law_rows"],["_law_hand_here","_law_rows","_law_way"],[],#[.a 2 (.k 63 #[.v 0,.i 6]),.f (.q .Eq (.v 2) (.i 0)) #[.r (.make 13 #[.s "one"])] .n,.f (.q .Eq (.v 2) (.i 1)) #[.r (.make 14 #[.bin .Add (.i 1) (.k 63 #[.v 0,.i 2]),.lst #[.mk0 17]])] .n,.f (.q .Eq (.v 2) (.i 2)) #[.r (.make 15 #[.k 63 #[.v 0,.i 2],.sl (.v 1) .no (.yes (.i 1)),.sl (.v 1) (.yes (.i 1)) (.yes (.i 2))])] .n,.r (.ix (.lst #[.make 15 #[.i 0,.lst #[.mk0 18]],.make 14 #[.i 0,.lst .n],.lst #[.mk0 17]]) (.bin .Sub (.v 2) (.i 3)))]⟩
abbrev lC:aA:=⟨["_law_script"],["_law_script","_law_hand_here","_law_book","_law_turn","_law_some","_law_rows","_law_places","_law_found","_law_at","_law_watched","_law_items"],[],#[.a 1 (.k 62 #[.v 0]),.a 2 (.make 16 .n),.e (.m (.v 2) "name" #[.s "one",.lst #[.mk0 17,.mk0 18]]),.for (.nm 3) (.rng1 (.i 6)) #[.a 4 (.lst #[.mk0 17,.mk0 18,.make 12 #[.i 1],.make 10 #[.s "met",.i 1]]),.a 5 (.lc (.ix (.v 1) (.k 63 #[.v 2,.i 4])) [4,1] (.rng1 (.bin .Add (.i 1) (.k 63 #[.v 1,.i 21])))),.a 6 (.lc (.k 63 #[.v 1,.bin .Add (.bf .len #[.v 2]) (.i 1)]) [1,5] (.rng1 (.bin .Add (.i 1) (.k 63 #[.v 1,.i 2])))),.a 7 (.bf .list #[.v 5]),.for (.nm 8) (.seq (.v 6)) #[.e (.lm .insert (.v 7) #[.v 8,.k 65 #[.v 1,.v 5]])],.for (.nm 9) (.seq (.lst #[.bl true,.bl false])) #[.f (.or (.q .NotEq (.k 64 #[.v 9,.v 7]) (.tup #[.s "rows",.bf .min #[.v 6]])) (.q .NotEq (.k 64 #[.v 9,.v 5]) (.tup #[.s "made",.i 0]))) #[.r (.bl false)] .n],.a 10 (.lst #[.make 13 #[.s "one"],.make 14 #[.i 1,.sl (.v 5) .no (.yes (.i 3))],.make 15 #[.i 1,.sl (.v 5) .no (.yes (.i 2))]]),.f (.q .NotEq (.k 64 #[.bl true,.k 52 #[.v 2,.v 10]]) (.tup #[.s "made",.i 0])) #[.r (.bl false)] .n],.r (.bl true)]⟩
abbrev tab:Tab where
  fns:=(bG::fq::eC::bN::dI::ef::bP::hR::eB::kC::fV::sY::cn::jB::cY::fO::cI::cL::kg::cy::dD::aw::g8::fh::iZ::o5::cT::kX::dC::qd::cg::jN::bq::ly::iQ::dB::ei::eG::dw::cE::g9::fT::bF::bD::g0::o7::iV::eU::fM::fS::sk::fN::sW::jr::jI::dA::cp::jR::cR::aR::iq::fD::f7::fP::cU::dF::lC::[])
  gfn:=(("is_whole",7)::("is_content",8)::("is_box",9)::("is_number",10)::("fits",11)::("check_box",15)::("check_number",16)::("check_rows",19)::("check_place",20)::("is_many",24)::("is_on",25)::("is_name",34)::("check_names",35)::("count_item",36)::("count_when",37)::("count_block",38)::("count_of",44)::("under",45)::("laid_do",46)::("laid_times",47)::("laid_when",48)::("laid_item",49)::("laid",50)::("laid_flat",51)::("flat",52)::("check_cells",55)::("_law_hand",62)::("_law_draw",63)::("_law_made",64)::("_law_no_row",65)::("law",66)::[])
  gcl:=[("HaulError",0),("NoStore",1),("NoFit",2),("NoDeed",3),("NoRows",4),("NoPlace",5),("NoName",6),("NoFlat",7),("Boxes",8),("Deed",9),("Set",10),("Machine",11),("Hop",12),("Do",13),("Times",14),("When",15),("Book",16),("Copy",17),("Turn",18),("Store",19),("Watched",20)]
  gbl:=["all","bool","dict","enumerate","int","isinstance","len","list","min","range","str","sum","tuple","zip"]
  gbi:=["HaulError"]
  na:=((1,"at")::(2,"box")::(2,"number")::(3,"word")::(4,"at")::(5,"at")::(6,"word")::(7,"many")::(8,"numbers")::(10,"box")::(10,"number")::(11,"at")::(11,"boxes")::(11,"deeds")::(11,"store")::(12,"many")::(12,"on")::(13,"called")::(14,"block")::(14,"many")::(15,"block")::(15,"on")::(15,"other")::(16,"blocks")::(16,"counts")::(19,"contents")::(19,"permits")::(20,"at")::(20,"boxes")::(20,"deeds")::(20,"entries")::(20,"store")::[])
  me:=[((8,"copied"),14),((8,"told"),13),((10,"words"),18),((11,"copied"),23),((11,"rows"),22),((12,"words"),27),((13,"told"),29),((14,"told"),31),((15,"told"),33),((16,"block_named"),42),((16,"count_named"),43),((16,"has"),40),((16,"name"),41),((17,"words"),53),((18,"words"),54),((19,"copied"),58),((19,"told"),57),((20,"copied"),61),((20,"log"),60),((20,"rows"),22)]
  ini:=[(1,0),(2,1),(3,2),(4,3),(5,4),(6,5),(7,6),(8,12),(10,17),(11,21),(12,26),(13,28),(14,30),(15,32),(16,39),(19,56),(20,59)]
  ini0:=[]
  inip:=[17,18]
  oc:=[8,9,10,11,12,13,14,15,16,17,18,19,20]
  xc:=[0,1,2,3,4,5,6,7]
  sub:=(((0,0),true)::((0,5),false)::((0,4),false)::((1,0),true)::((1,5),false)::((1,4),false)::((2,0),true)::((2,5),false)::((2,4),false)::((3,0),true)::((3,5),false)::((3,4),false)::((4,0),true)::((4,5),false)::((4,4),true)::((5,0),true)::((5,5),true)::((5,4),false)::((6,0),true)::((6,5),false)::((6,4),false)::((7,0),true)::((7,5),false)::((7,4),false)::((8,9),false)::((8,13),false)::((8,14),false)::((8,15),false)::((9,9),true)::((9,13),false)::((9,14),false)::((9,15),false)::((10,9),true)::((10,13),false)::((10,14),false)::((10,15),false)::((11,9),false)::((11,13),false)::((11,14),false)::((11,15),false)::((12,9),true)::((12,13),false)::((12,14),false)::((12,15),false)::((13,9),false)::((13,13),true)::((13,14),false)::((13,15),false)::((14,9),false)::((14,13),false)::((14,14),true)::((14,15),false)::((15,9),false)::((15,13),false)::((15,14),false)::((15,15),true)::((16,9),false)::((16,13),false)::((16,14),false)::((16,15),false)::((17,9),true)::((17,13),false)::((17,14),false)::((17,15),false)::((18,9),true)::((18,13),false)::((18,14),false)::((18,15),false)::((19,9),false)::((19,13),false)::((19,14),false)::((19,15),false)::((20,9),false)::((20,13),false)::((20,14),false)::((20,15),false)::[])
  subT:=[]
  subB:=[(("NoneType","bool"),false),(("NoneType","int"),false),(("NoneType","list"),false),(("NoneType","str"),false),(("bool","bool"),true),(("bool","int"),true),(("bool","list"),false),(("bool","str"),false),(("int","bool"),false),(("int","int"),true),(("int","list"),false),(("int","str"),false),(("str","bool"),false),(("str","int"),false),(("str","list"),false),(("str","str"),true),(("list","bool"),false),(("list","int"),false),(("list","list"),true),(("list","str"),false),(("tuple","bool"),false),(("tuple","int"),false),(("tuple","list"),false),(("tuple","str"),false),(("dict","bool"),false),(("dict","int"),false),(("dict","list"),false),(("dict","str"),false)]
  subO:=[(("NoneType",9),false),(("bool",9),false),(("int",9),false),(("str",9),false),(("list",9),false),(("tuple",9),false),(("dict",9),false)]
  cin:=[(11,21)]
/-- what the proofs ask of the addresses -/
structure Ro (K:W.Frag) (R:Rt):Prop where
  hK:R.K=K
  g_BOUND:R.gl "BOUND"=some (.int 1000000000)
  g_MOST_ROWS:R.gl "MOST_ROWS"=some (.int 24)
  g_MOST_HOPPED:R.gl "MOST_HOPPED"=some (.int 24)
  g_LONGEST_NAME:R.gl "LONGEST_NAME"=some (.int 8)
  g_MOST_CELLS:R.gl "MOST_CELLS"=some (.int 60)
  g_LETTERS:R.gl "LETTERS"=some (.str "abcdefghijklmnopqrstuvwxyz")
  g_NAMES:∃ a,R.gl "NAMES"=some (.ref a)/\∀ H,bp K H a [.str "here",.str "there",.str "left",.str "way",.str "sign",.str "met"]
end My
set_option Elab.async false
set_option maxHeartbeats 8000000
namespace My
open PySem L2 L3
open L2.V renaming ref→sK,int→tz,str→ul,non→ut
open L2.HO renaming lst→v0,tup→wf,ins→wn
local macro_rules|`(tactic|delta $x:ident)=>`(tactic|refine wc (d:=$x) nofun rfl rfl ?_)
variable {h ns cs:List Int}{m i at_:Int}{n:Nat}{a d dx l:Addr}{v:V}{t:String}{xs ds vs:List V}{α:Type}{G:Gx}{ws:List Str}{c:Str->Int}{o:Option Int}{kvs:List (Key×V)}{rest:St}
section
variable {K:W.Frag}{R:Rt}{k:Nat}{H:Hp}{Q:VK}{E:XK}{O Γ' Δ:List ah}
local macro_rules| `(tactic|walk_at "w")=>`(tactic|conv=>whnf)
local macro_rules| `(tactic|left)=>`(tactic|walk_at "w")
local macro_rules| `(tactic|symm)=>`(tactic|((with_reducible (repeat(first|exact ai.e|apply ai.t)));done))
local macro_rules| `(tactic|ac_rfl)=>`(tactic|((with_reducible (repeat(first|exact cH.e|apply cH.t)));done))
local macro_rules| `(tactic|ac_nf)=>`(tactic|first|(with_reducible exact Sub.refl)|(refine' Sub.cons ?h ?r;(case h=>symm);(case r=>ac_nf))|(with_reducible exact Sub.nil)|(with_reducible apply Sub.drop;(ac_nf)))
local macro_rules| `(tactic|walk_at "sp")=>`(tactic|(refine Sep.sub ?_ (by with_reducible assumption);(ac_nf)))
local macro_rules| `(tactic|grind)=>`(tactic|first|exact Sep.get (by with_reducible assumption) (by symm)|exact Sep.BO (by with_reducible assumption) (by symm))
local macro_rules| `(tactic|walk_at "ar")=>`(tactic|first|lia|omega|decide|exact nl rfl|(unfold pR;omega)|(unfold wb;omega)|(unfold wb;decide)|(unfold pR;decide)|(simp only[ce,length_set,length_replicate];omega))
local macro_rules| `(tactic|walk_at "ls")=>`(tactic|first|(conv=>lhs;simp only[List.set_cons_succ,List.set_cons_zero,Int.reduceToNat])|rfl)
local macro_rules| `(tactic|walk_at "pf")=>`(tactic|first|(conv=>lhs;simp (decide:=true) only [bT,if_true,if_false])|rfl)
local macro_rules| `(tactic|walk_at "st")=>`(tactic|first
  |(with_reducible refine And.intro rfl ?_)
  |(with_reducible refine bt rfl ?_)
  |(with_reducible refine ck rfl ?_)
  |(with_reducible refine yg ?_)
  |((with_reducible refine' pU ?e ?v ?_);(case e=>grind);(case v=>exact rfl))
  |((with_reducible refine' ix_t ?e ?v ?_);(case e=>grind);(case v=>exact rfl))
  |((with_reducible refine' AU ?e ?i ?v ?_);(case e=>grind);(case i=>omega);(case v=>exact rfl))
  |(with_reducible refine bf_min rfl ?_)
  |(with_reducible refine bf_max rfl ?_)
  |((with_reducible refine' bb ?e ?_);(case e=>grind))
  |((with_reducible refine' bf_lenT ?e ?_);(case e=>grind))
  |((with_reducible refine' AW ?s ?r ?j ?x (λH hs=>?_));(case s=>with_reducible assumption);(case r=>ac_rfl);(case j=>exact rfl);(case x=>walk_at "ls"))
  |((with_reducible refine' aF ?s ?l (λp H hs=>?_));(case s=>with_reducible assumption);(case l=>exact nl rfl))
  |((with_reducible refine' cW ?s ?l (λp H hs=>?_));(case s=>with_reducible assumption);(case l=>exact nl rfl))
  |((with_reducible refine' zY ?s (λp H hs=>?_));(case s=>with_reducible assumption))
  |((with_reducible refine' pq ?e ?_);(case e=>grind))
  |((with_reducible refine' wV ?e ?_);(case e=>grind))
  |((with_reducible refine' kQ ?s ?e ?f ?l (λp H hs=>?_));(case s=>with_reducible assumption);(case e=>grind);(case f=>grind);(case l=>walk_at "ar"))
  |((with_reducible refine' Cb ?s ?e ?f ?g ?l (λp H hs=>?_));(case s=>with_reducible assumption);(case e=>grind);(case f=>walk_at "ar");(case g=>walk_at "ar");(case l=>walk_at "ar"))
  |((with_reducible refine' Dp ?s ?r ?o ?n ?l ?x (λH hs=>?_));(case s=>with_reducible assumption);(case r=>ac_rfl);(case o=>exact rfl);(case n=>exact rfl);(case l=>walk_at "ar");(case x=>walk_at "pf"))
  |((with_reducible refine' aL ?e ?o ?n ?l ?_);(case e=>grind);(case o=>exact rfl);(case n=>exact rfl);(case l=>exact rfl))
  |((with_reducible refine' Cg ?e ?o ?n ?l ?_);(case e=>grind);(case o=>exact rfl);(case n=>exact rfl);(case l=>exact rfl))
  |((with_reducible refine' A8 ?e ?o ?b ?_);(case e=>grind);(case o=>exact rfl);(case b=>exact rfl))
  |((with_reducible refine' isi_xt ?e ?o ?b ?_);(case e=>grind);(case o=>exact rfl);(case b=>exact rfl))
  |((with_reducible refine' fR ?t ?b ?_);(case t=>exact rfl);(case b=>exact rfl))
  |((with_reducible refine' eE ?a ?b ?_);(case a=>exact rfl);(case b=>exact rfl))
  |((with_reducible refine' ne_flat ?a ?b ?_);(case a=>exact rfl);(case b=>exact rfl))
  |((with_reducible refine' bB ?s ?e (λp H hs=>?_));(case s=>with_reducible assumption);(case e=>grind))
  |((with_reducible refine' rl ?s ?e (λp H hs=>?_));(case s=>with_reducible assumption);(case e=>grind))
  |(refine And.intro (by walk_at "ar") ?_))
local macro_rules| `(tactic|walk_at "go")=>`(tactic|(walk_at "w";repeat(walk_at "st";walk_at "w")))
local macro_rules| `(tactic|right)=>`(tactic|walk_at "go")
abbrev hand (h:Addr)(m:Int):ah:=ex λx:Addr×List Int×Int×Int×Int×Int=>jV (pt h (v0 [sK x.1,tz x.2.2.1,tz x.2.2.2.1,tz x.2.2.2.2.1,tz x.2.2.2.2.2])) (jV (pt x.1 (v0 (x.2.1.map tz)))
 (pu (x.2.1.length<=63/\0<=x.2.2.1/\x.2.2.1<2147483629/\0<=x.2.2.2.1/\0<=x.2.2.2.2.1/\0<=x.2.2.2.2.2/\x.2.2.2.2.2<=m)))
def qT {h:Addr}(s:Sep (hand h m::O) H):∃ (c:Addr) (ns:List Int) (fo i r n:Int),Sep (pt h (v0 [sK c,tz fo,tz i,tz r,tz n])::pt c (v0 (ns.map tz))::O) H/\ns.length<=63/\0<=fo/\fo<2147483629/\0<=i/\0<=r/\0<=n/\n<=m:=by
 obtain⟨⟨c,ns,fo,i,r,n⟩,s⟩:=Sep.AM.mp s;have s2:=Sep.star.mp ((Sep.star.mp s).pull .k1);have p:=(s2.pull .k1).pure;exact⟨c,ns,fo,i,r,n,((s2.pull .k1).drop).pull .k1,p⟩
def ft {h c:Addr}{fo r n:Int}(s:Sep (pt h (v0 [sK c,tz fo,tz i,tz r,tz n])::pt c (v0 (ns.map tz))::O) H)(p:ns.length<=63/\0<=fo/\fo<2147483629/\0<=i/\0<=r/\0<=n/\n<=m):Sep (hand h m::O) H:=by
 refine Sep.AM.mpr ⟨⟨c,ns,fo,i,r,n⟩,Sep.star.mpr ?_⟩;exact(Sep.star.mpr (((s.pull .k1).pull .e |> λs=>(Sep.w6 p s).pull .k1))).pull .k1
def BY:(10:Int) ^ Int.toNat 18=1000000000000000000:=by decide
def yI {h:Addr}{n:Int}(hk:1<=k)(s:Sep (hand h m::O) H)(hm:m<=1099511627776)(hn0:0<n)(hn1:n<1073741824)
  (q:∀ (r:Int) (H':Hp),0<=r->r<n->Sep (hand h (m+1)::O) H'->Q (tz r) H'):ae tab R k 63 [sK h,tz n] H Q E:=by
 obtain⟨c,ns,fo,i,r,j,hs,h63,f0,f1,i0,r0,k0,k1⟩:=qT s;clear s;have nn:n≠0:=by omega
 delta fP;right;refine bZ (λhr=>?_) (λhr=>?_)
 .right;rename_i H1 hs1 H2 hs2;exact q _ _ (Int.emod_nonneg _ nn) (Int.emod_lt_of_pos _ hn0) (ft hs2 ⟨h63,f0,f1,i0,Int.ediv_nonneg r0 nofun,by omega,by omega⟩)
 right;refine bZ (λhc=>?_) (λhc=>?_)
 .right;obtain⟨z,hz⟩:∃ z,qH (ns.map tz) i=some (tz z):=tV i0 (by rw[ce]at hc;exact hc);refine pU (by grind) hz ?_;right;refine bZ (λhz18=>?_) (λhz18=>?_)
  .rw[BY]at hz18;right;rename_i H1 hs1 H2 hs2 H3 hs3;exact q _ _ (Int.emod_nonneg _ nn) (Int.emod_lt_of_pos _ hn0) (ft hs3 ⟨h63,f0,f1,by omega,Int.ediv_nonneg nofun nofun,by omega,by omega⟩)
  .right;rename_i H1 hs1 H2 hs2;exact q _ _ (Int.emod_nonneg _ nn) (Int.emod_lt_of_pos _ hn0) (ft hs2 ⟨h63,f0,f1,by omega,r0,by omega,by omega⟩)
 .right;rename_i H1 hs1;exact q _ _ (Int.emod_nonneg _ nn) (Int.emod_lt_of_pos _ hn0) (ft hs1 ⟨h63,f0,f1,by omega,r0,by omega,by omega⟩)
def Ag (hk:1<=k)(s:Sep O H)(hS:aK R.K H a (ns.map tz))(h63:ns.length<=63)(q:∀ h H',Sep (hand h 0::O) H'->Q (sK h) H'):ae tab R k 62 [sK a] H Q E:=by
 delta f7;right;refine Ds s hS (λp H1 hs1=>?_);rw[By ns h63]at hs1;right;rename_i c H2 hs2;refine gj (xs:=ns.map tz) (λj U H=>∃ (fo:Int) (v:Option V),U=[some (sK a),some (sK c),some (tz fo),v]/\0<=fo/\fo<2147483629/\Sep (pt c (v0 (ns.map tz))::pt p (v0 (ns.map tz))::O) H) ?_ ?_ ?_ ?_
 .exact⟨_,none,rfl,by rw[ce];omega,by rw[ce];omega,hs2⟩
 .rintro j U H ⟨fo,v,rfl,h0,h2,hs⟩;exact aK.of hs.at
 .rintro j x U H hx ⟨fo,v,rfl,h0,h2,hs⟩;obtain⟨z,rfl⟩:=mz hx;right;exact⟨_,_,rfl,by omega,by omega,hs⟩
 .rintro U H ⟨fo,v,rfl,h0,h2,hs⟩;right;rename_i l H3 hs3;exact q l _ (ft ((hs3.pull .k2).drop) ⟨h63,h0,h2,by omega,by omega,by omega,by omega⟩)
def jb {h:Addr}{n:Int}(s:Sep (hand h m::O) H)(e:m<=n):Sep (hand h n::O) H:=by
 obtain⟨c,ns,fo,i,r,j,hs,h63,f0,f1,i0,r0,k0,k1⟩:=qT s;exact ft hs ⟨h63,f0,f1,i0,r0,k0,by omega⟩
inductive Kd (H:Hp):V->String->Prop where
 |non:Kd H ut "NoneType"
 |bl (b:Bool):Kd H (.bl b) "bool"
 |int (i:Int):Kd H (tz i) "int"
 |str (x:Str):Kd H (ul x) "str"
 |lst {a:Addr}{xs:List V}(e:H a=some (v0 xs)):Kd H (sK a) "list"
 |tup {a:Addr}{xs:List V}(e:H a=some (wf xs)):Kd H (sK a) "tuple"
 |dct {a:Addr}{kvs:List (Key×V)}(e:Rd H a (.dK kvs)):Kd H (sK a) "dict"
def fW (h:tyName v H=some t):Kd H v t:=by
 unfold tyName at h
 split at h
 .cases h;exact .non
 .cases h;exact .bl _
 .cases h;exact .int _
 .cases h;exact .str _
 .split at h
  .rename_i e;cases h;exact .lst e
  .rename_i e;cases h;exact .tup e
  .rename_i e;cases h;exact .dct (.inl e)
  .rename_i e;cases h;exact .dct (.inr ⟨_,e⟩)
  .cases h
 .cases h
abbrev Am:V->Bool
 | tz _=>true
 |_=>false
abbrev ku:V->Bool
 | tz i=>decide (0<=i)&&decide (i<=1000000000)
 |_=>false
def aG (hk:1<=k)(ht:tyName v H=some t)(q:Q (.bl (Am v)) H):ae tab R k 7 [v] H Q E:=by
 delta hR;right;cases fW ht
 all_goals
  refine fR ht rfl ?_;right
  first
   |exact q
   |(refine fR ht rfl ?_;right;exact q)
def cx (ro:Ro K R)(hk:2<=k)(ht:tyName v H=some t)(q:Q (.bl (ku v)) H):ae tab R k 8 [v] H Q E:=by
 delta eB;right;refine aG nofun ht ?_;cases fW ht
 case int i=>
  right;refine bZ (λh0=>?_) (λh0=>?_)
  .left;simp only[ro.g_BOUND];right;have e:ku (tz i)=decide (i<=1000000000):=by simp[ku,h0]
   rw[e]at q;exact q
  .right;have e:ku (tz i)=false:=by simp[ku,h0]
   rw[e]at q;exact q
 all_goals
  right;exact q
abbrev bad (xs:List V):Option Int:=if xs.length<1\/60<xs.length then some (-1) else(xs.findIdx? λx=>!ku x).map λn=>(n:Int)
def yj (h:¬ (1<=xs.length/\xs.length<=60)):bad xs=some (-1):=by
 unfold bad;rw[if_pos nofun]
def zD {j:Nat}{x:V}(h:1<=xs.length/\xs.length<=60)(hx:xs[j]? =some x)(hc:ku x=false)(hb:∀ i y,i<j->xs[i]? =some y->ku y=true):bad xs=some j:=by
 unfold bad;rw[if_neg nofun];have:xs.findIdx? (λx=>!ku x)=some j:=by
  rw[List.findIdx?_eq_some_iff_getElem];obtain⟨hj,e⟩:=s0.mp hx;refine⟨hj,by rw[e,hc];rfl,λi hi=>?_⟩;rw[hb i xs[i] hi (le _)]
  decide
 rw[this]
 rfl
def lq (h:1<=xs.length/\xs.length<=60)(hb:∀ (i:Nat) y,xs[i]? =some y->ku y=true):bad xs=none:=by
 unfold bad;rw[if_neg nofun];have:xs.findIdx? (λx=>!ku x)=none:=by
  rw[List.findIdx?_eq_none_iff];intro x hx;obtain⟨i,hi⟩:=mem_iff_getElem?.mp hx;rw[hb i x hi]
  rfl
 rw[this]
 rfl
def vY (h:bad xs=none):1<=xs.length/\xs.length<=60:=by
 unfold bad at h
 split at h
 .cases h
 .omega
def w9 {x:V}:(re (Int.toNat (n:Int)) [x]).flatten=re n x:=by
 rw[pi]
 induction n with
 |zero=>rfl
 |succ n ih=>rw[replicate_succ,flatten_cons,ih];rfl
abbrev xx (C:Addr)(fs:List (Str×V))(x:Addr)(fr:Bool):ah:=ex λd:Addr=>jV (pt x (.exc C (some d) fs fr)) (pt d (.own x))
def nE {C x:Addr}{fs:List (Str×V)}{fr:Bool}(s:Sep (pt x (.exc C (some d) fs fr)::pt d (.own x)::O) H):Sep (xx C fs x fr::O) H:=Sep.AM.mpr ⟨d,Sep.star.mpr s⟩
def xC {C x:Addr}{fs:List (Str×V)}{fr:Bool}(s:Sep (xx C fs x fr::O) H):∃ d,Sep (pt x (.exc C (some d) fs fr)::pt d (.own x)::O) H:=let⟨d,s⟩:=Sep.AM.mp s;⟨d,Sep.star.mp s⟩
def cQ {x:Addr}(hk:1<=k)(s:Sep (pt x (.exc (R.cad 1) none [] true)::O) H)(q:∀ d H',Sep (pt x (.exc (R.cad 1) (some d) [("at",v)] true)::pt d (.own x)::O) H'->Q ut H'):ae tab R k 0 [sK x,v] H Q E:=by
 delta bG;right;refine⟨_,1,_,_,_,_,rfl,by grind,rfl,?_⟩;right;refine qL s rfl rfl (λd H hs=>?_);right;exact q d H hs
def wt (ro:Ro K R)(hk:3<=k)(s:Sep (pt a (v0 xs)::tys xs::O) H)(q0:bad xs=none->∀ H',Sep (pt a (v0 xs)::tys xs::O) H'->Q ut H')
  (q1:∀ at',bad xs=some at'->∀ x H',Sep (xx (R.cad 1) [("at",tz at')] x false::pt a (v0 xs)::tys xs::O) H'->E x H'):ae tab R k 55 [sK a] H Q E:=by
 delta dA;right;refine fR (t:="list") (vc s.at) rfl ?_;right
 by_cases hl:1<=xs.length/\xs.length<=60
 .refine bt (decide_eq_true nofun) ?_;left;simp only[ro.g_MOST_CELLS];right;refine bt (c:=decide ((xs.length:Int)<=60)) (decide_eq_true nofun) ?_;right;refine gr (xs:=xs) (λj U H=>∃ y z,U=[some (sK a),y,z]/\(∀ i w,i<j->xs[i]? =some w->ku w=true)/\Sep (pt a (v0 xs)::tys xs::O) H) ?_ ?_ ?_ ?_
  .exact⟨none,none,rfl,λi w h=>absurd h nofun,s⟩
  .rintro j U H ⟨y,z,rfl,_,hs⟩;exact hs.at
  .rintro j x T U H hx ⟨y,z,rfl,hb,hs⟩ hT;have hs1:=hs.dZ (xs:=[tz j,x]) hT;left;refine⟨T,_,rfl,.inl (bp.of hs1.atT),rfl,?_⟩;right;obtain⟨t,ht⟩:=(hs1.pull .k2).BE x (cr hx);refine cx ro nofun ht ?_;right;refine jy (λhc=>?_) (λhc=>?_)
   .right;refine⟨_,_,rfl,λi w hi hw=>?_,hs1.drop⟩
    by_cases e:i=j
    .subst e;rw[hx]at hw;cases hw;exact hc
    .exact hb i w nofun hw
   .right;intro p hp;refine cQ nofun (hs1.drop.new hp) (λd H hs=>?_);right;refine jT hs (by ac_rfl) rfl (λH hs=>?_);exact q1 _ (zD hl hx hc hb) p H (nE hs)
  .rintro U H ⟨y,z,rfl,hb,hs⟩;right;exact q0 (lq hl λi w hi=>hb i w (s0.mp hi).1 hi) _ hs
 .have fin:∀ p,H p=none->ae tab R (k-1) 0 [sK p,tz (-1)] (upd H p (.exc (R.cad 1) none [] true)) (λv H2=>v=ut/\∃ b i dx fs,sK p=sK b/\H2 b=some (.exc (R.cad i) dx fs true)/\tab.xc.contains i=true/\E b (upd H2 b (.exc (R.cad i) dx fs false))) E:=by
   intro p hp;refine cQ nofun (s.new hp) (λd H hs=>?_);refine⟨rfl,?_⟩;refine jT (G:=⟨tab,R,ae tab R 0,true⟩) hs (by ac_rfl) rfl (λH hs=>?_);exact q1 _ (yj hl) p H (nE hs)
  by_cases h1:1<=xs.length
  .refine bt (decide_eq_true nofun) ?_;left;simp only[ro.g_MOST_CELLS];right;refine ck (c:=decide ((xs.length:Int)<=60)) (decide_eq_false nofun) ?_;right;exact fin
  .refine ck (decide_eq_false nofun) ?_;right;exact fin
abbrev dP (C p:Addr)(cs ws:List V):ah:=ex λx:Addr×Addr×Addr=>jV (pt p (wn C x.1 [("contents",sK x.2.1),("permits",sK x.2.2)])) (jV (pt x.1 (.own p)) (jV (pt x.2.1 (v0 cs)) (pt x.2.2 (v0 ws))))
def j4 {C p:Addr}{cs ws:List V}(s:Sep (dP C p cs ws::O) H):∃ dx a b,Sep (pt p (wn C dx [("contents",sK a),("permits",sK b)])::pt dx (.own p)::pt a (v0 cs)::pt b (v0 ws)::O) H:=by
 obtain⟨⟨dx,a,b⟩,s⟩:=Sep.AM.mp s;refine⟨dx,a,b,?_⟩;have s1:=Sep.star.mp s;have s2:=Sep.star.mp (s1.pull .k1);have s3:=Sep.star.mp (s2.pull .k1);exact((s3.pull .k2).pull .k3)
def gM {C p b:Addr}{cs ws:List V}(s:Sep (pt p (wn C dx [("contents",sK a),("permits",sK b)])::pt dx (.own p)::pt a (v0 cs)::pt b (v0 ws)::O) H):Sep (dP C p cs ws::O) H:=by
 refine Sep.AM.mpr ⟨(dx,a,b),Sep.star.mpr ?_⟩;have s3:=Sep.star.mpr ((s.pull .k3).pull .k3);have s2:=Sep.star.mpr (s3.pull .k2);exact s2.pull .k1
def jO {p:Addr}(ro:Ro K R)(hk:4<=k)(s:Sep (pt p (wn (R.cad 19) dx [])::pt dx (.own p)::pt a (v0 xs)::tys xs::O) H)
  (q0:bad xs=none->∀ H',Sep (dP (R.cad 19) p xs (re xs.length (ul "open"))::pt a (v0 xs)::tys xs::O) H'->Q ut H')
  (q1:∀ at',bad xs=some at'->∀ x H',Sep (xx (R.cad 1) [("at",tz at')] x false::pt a (v0 xs)::tys xs::O) H'->E x H'):ae tab R k 56 [sK p,sK a] H Q E:=by
 delta cp;right;refine wt (O:=pt p (wn (R.cad 19) dx [])::pt dx (.own p)::O) ro nofun (s.sub (by ac_nf)) (λhb H hs=>?_) (λat' hb x H hs=>?_)
 .have hl:=vY hb;right;rename_i l H1 hs1 H2 hs2 m H3 hs3 w H4 hs4 H5 hs5;rw[w9]at hs5;exact q0 hb _ (gM (hs5.sub (by ac_nf)))
 .exact q1 at' hb x H (hs.sub (by ac_nf))
local macro_rules| `(tactic|walk_at "dr")=>`(tactic|(refine' yI ?k ?s ?m ?a ?b (λr H hr0 hr1 hs=>?_);(case s=>walk_at "sp");(case k=>exact nofun);(case m=>omega);(case a=>walk_at "ar");(case b=>walk_at "ar")))
local macro_rules| `(tactic|walk_at "gd")=>`(tactic|(walk_at "w";repeat(first|(walk_at "st";walk_at "w")|(walk_at "dr";walk_at "w"))))
abbrev nZ (ns:List Int):Prop:=∀ i ∈ ns,0<=i/\i<=1000000000
abbrev bx (f:α->List ah):ah:=⟨λH D=>∃ x,aQ (f x) H D,λH H' D ⟨x,h⟩ k t=>⟨x,aQ.st h k t⟩,λH D D' ⟨x,h⟩ k=>⟨x,aQ.up h k⟩⟩
def eu:∀ {O Δ:List ah}{D:Addr->Prop},aQ (O++Δ) H D ↔ ∃ D1 D2:Addr->Prop,(∀ a,D1 a->D a)/\(∀ a,D2 a->D a)/\(∀ a,D1 a->D2 a->False)/\aQ O H D1/\aQ Δ H D2
 | [],Δ,D=>⟨λh=>⟨λ_=>False,D,λ_ z=>z.elim,λ_ z=>z,λ_ z _=>z,True.intro,h⟩,λ⟨_,_,_,s2,_,_,h⟩=>aQ.up h s2⟩
 |A::O,Δ,D=>by
  constructor
  .rintro⟨E1,E2,s1,s2,dj,hA,h⟩;obtain⟨F1,F2,t1,t2,dk,h1,h2⟩:=eu.mp h;refine⟨λa=>E1 a\/F1 a,F2,λa z=>z.elim (s1 a) λz=>s2 a (t1 a z),λa z=>s2 a (t2 a z),λa z w=>z.elim (λz=>dj a z (t2 a w)) λz=>dk a z w,?_,h2⟩;exact⟨E1,F1,λa z=>.inl z,λa z=>.inr z,λa z w=>dj a z (t1 a w),hA,h1⟩
  .rintro⟨D1,D2,s1,s2,dj,⟨E1,E2,t1,t2,dk,hA,h1⟩,h2⟩;refine⟨E1,λa=>E2 a\/D2 a,λa z=>s1 a (t1 a z),λa z=>z.elim (λz=>s1 a (t2 a z)) (s2 a),λa z w=>w.elim (dk a z) λw=>dj a (t1 a z) w,hA,?_⟩;exact eu.mpr ⟨E2,D2,λa z=>.inl z,λa z=>.inr z,λa z w=>dj a (t2 a z) w,h1,h2⟩
def yq {f:α->List ah}(s:Sep (bx f::O) H):∃ x,Sep (f x++O) H:=by
 obtain⟨D,k,D1,D2,s1,s2,dj,⟨x,h1⟩,h2⟩:=s;exact⟨x,D,k,eu.mpr ⟨D1,D2,s1,s2,dj,h1,h2⟩⟩
def kA {f:α->List ah}(x:α)(s:Sep (f x++O) H):Sep (bx f::O) H:=by
 obtain⟨D,k,h⟩:=s;obtain⟨D1,D2,s1,s2,dj,h1,h2⟩:=eu.mp h;exact⟨D,k,D1,D2,s1,s2,dj,⟨x,h1⟩,h2⟩
abbrev xH:List Str:=["here","there","left","way","sign","met"]
abbrev BP:List Key:=[.inr "here",.inr "there",.inr "left",.inr "way",.inr "sign",.inr "met"]
abbrev gN:V->Bool
 | tz i=>decide (-1000000000<=i)&&decide (i<=1000000000)
 |_=>false
abbrev pV (a b:Int):V->Bool
 | tz i=>i ==a||i ==b
 |_=>false
abbrev dH:Nat->V->Bool
 |0,v=>gN v
 |1,v=>gN v
 |3,v=>pV 1 (-1) v
 |5,v=>pV 0 1 v
 |_,v=>ku v
def cO (ro:Ro K R)(hk:2<=k)(ht:tyName v H=some t)(q:Q (.bl (gN v)) H):ae tab R k 10 [v] H Q E:=by
 delta fV;right;refine aG nofun ht ?_;cases fW ht
 case int i=>
  left;refine bt rfl ?_;left;simp only[ro.g_BOUND];right;refine bZ (λh0=>?_) (λh0=>?_)
  .left;simp only[ro.g_BOUND];right;have e:gN (tz i)=decide (i<=1000000000):=by simp[gN,h0]
   rw[e]at q;exact q
  .right;have e:gN (tz i)=false:=by simp[gN,h0]
   rw[e]at q;exact q
 all_goals
  right;exact q
def rE {j:Nat}{x:Str}(h:xH[j]? =some x):(j=0/\x="here")\/(j=1/\x="there")\/(j=2/\x="left")\/(j=3/\x="way")\/(j=4/\x="sign")\/(j=5/\x="met"):=by
 rcases j with _|_|_|_|_|_|j
 .cases h;exact .inl ⟨rfl,rfl⟩
 .cases h;exact .inr (.inl ⟨rfl,rfl⟩)
 .cases h;exact .inr (.inr (.inl ⟨rfl,rfl⟩))
 .cases h;exact .inr (.inr (.inr (.inl ⟨rfl,rfl⟩)))
 .cases h;exact .inr (.inr (.inr (.inr (.inl ⟨rfl,rfl⟩))))
 .cases h;exact .inr (.inr (.inr (.inr (.inr ⟨rfl,rfl⟩))))
 .exact absurd h (by simp[xH])
local macro_rules| `(tactic|walk_at "sc")=>`(tactic|first|(refine bt (by decide+kernel) ?_;walk_at "go")|(refine ck (by decide+kernel) ?_;walk_at "go"))
def Ac {j:Nat}{x:Str}(ro:Ro K R)(hk:3<=k)(hj:xH[j]? =some x)(ht:tyName v H=some t)(q:Q (.bl (dH j v)) H):ae tab R k 11 [ul x,v] H Q E:=by
 delta sY;rcases rE hj with⟨rfl,rfl⟩|⟨rfl,rfl⟩|⟨rfl,rfl⟩|⟨rfl,rfl⟩|⟨rfl,rfl⟩|⟨rfl,rfl⟩
 all_goals right
 all_goals repeat walk_at "sc"
 .exact cO ro nofun ht q
 .exact cO ro nofun ht q
 .exact cx ro nofun ht q
 .refine aG nofun ht ?_;cases fW ht
  case int i=>
   right;refine dv (λh0=>?_) (λh0=>?_)
   .right;have e:dH 3 (tz i)=true:=by simp[dH,pV,h0]
    rw[e]at q;exact q
   .right;have e:dH 3 (tz i)=(i == -1):=by simp[dH,pV,h0]
    rw[e]at q;exact q
  all_goals
   right;exact q
 .exact cx ro nofun ht q
 .refine aG nofun ht ?_;cases fW ht
  case int i=>
   right;refine dv (λh0=>?_) (λh0=>?_)
   .right;have e:dH 5 (tz i)=true:=by simp[dH,pV,h0]
    rw[e]at q;exact q
   .right;have e:dH 5 (tz i)=(i ==1):=by simp[dH,pV,h0]
    rw[e]at q;exact q
  all_goals
   right;exact q
abbrev boxes (R:Rt)(b:Addr)(ns:List Int):ah:=bx λx:Addr×Addr=>[pt b (wn (R.cad 8) x.1 [("numbers",sK x.2)]),pt x.1 (.own b),pt x.2 (.dK (BP.zip (ns.map tz))),pu (ns.length=6)]
def oY {b:Addr}(s:Sep (boxes R b ns::O) H):∃ dx d,ns.length=6/\Sep (pt b (wn (R.cad 8) dx [("numbers",sK d)])::pt dx (.own b)::pt d (.dK (BP.zip (ns.map tz)))::O) H:=by
 obtain⟨⟨dx,d⟩,s⟩:=yq s;have s:Sep (pt b (wn (R.cad 8) dx [("numbers",sK d)])::pt dx (.own b)::pt d (.dK (BP.zip (ns.map tz)))::pu (ns.length=6)::O) H:=s;have p:=(s.pull .k3).pure;exact⟨dx,d,p,(s.pull .k3).drop⟩
def jH {b:Addr}(hn:ns.length=6)(s:Sep (pt b (wn (R.cad 8) dx [("numbers",sK d)])::pt dx (.own b)::pt d (.dK (BP.zip (ns.map tz)))::O) H):Sep (boxes R b ns::O) H:=
 kA (dx,d) (Sep.push .k3 (Sep.w6 hn s))
def six {ns:List α}(h:ns.length=6):∃ a b c d e f,ns=[a,b,c,d,e,f]:=by
 match ns,h with
 | [a,b,c,d,e,f],_=>exact⟨a,b,c,d,e,f,rfl⟩
def nU {x:Addr}(ro:Ro K R)(hk:4<=k)(hn:ns.length=6)(hf:∀ (j:Nat) i,ns[j]? =some i->dH j (tz i)=true) (s:Sep (pt x (wn (R.cad 8) dx [])::pt dx (.own x)::O) H) (q:∀ H',Sep (boxes R x ns::O) H'->Q ut H'):
  ae tab R k 12 (sK x::ns.map tz) H Q E:=by
 obtain⟨a0,a1,a2,a3,a4,a5,rfl⟩:=six hn;delta cn;right;rename_i p H1 hs1;obtain⟨na,hg,hS⟩:=ro.g_NAMES;simp only[hg];rw[<-ro.hK]at hS;right;refine CW (tp1:=true) (tp2:=true) (xs:=xH.map ul) (ys:=[tz a0,tz a1,tz a2,tz a3,tz a4,tz a5]) (hS _) (bp.of hs1.at) ?_;refine vb (xs:=xH.map ul) (ys:=[tz a0,tz a1,tz a2,tz a3,tz a4,tz a5]) (λj U H=>∃ v w,U=[some (sK x),some (tz a0),some (tz a1),some (tz a2),some (tz a3),some (tz a4),some (tz a5),some (sK p),v,w]/\Sep (pt p (wf [tz a0,tz a1,tz a2,tz a3,tz a4,tz a5])::pt x (wn (R.cad 8) dx [])::pt dx (.own x)::O) H) rfl ?_ ?_ ?_ ?_
 .exact⟨none,none,rfl,hs1⟩
 .rintro j U H ⟨v,w,rfl,hs⟩;exact⟨hS _,bp.of hs.at⟩
 .rintro j y z T U H hy hz ⟨v,w,rfl,hs⟩ hT;rw[ii]at hy;obtain⟨nm,hnm,rfl⟩:=lw.mp hy;obtain⟨i,hi,rfl⟩:∃ i,([a0,a1,a2,a3,a4,a5]:List Int)[j]? =some i/\z=tz i:=by
   have hz':(([a0,a1,a2,a3,a4,a5]:List Int).map tz)[j]? =some z:=hz;rw[ii]at hz';obtain⟨i,h1,h2⟩:=lw.mp hz';exact⟨i,h1,h2.symm⟩
  have hs2:=hs.dZ (xs:=[ul nm,tz i]) hT;left;refine⟨T,_,rfl,.inl (bp.of hs2.atT),rfl,?_⟩;right;refine Ac ro nofun hnm rfl ?_;rw[hf j i hi];right;exact⟨_,_,rfl,hs2.drop⟩
 .rintro U H ⟨v,w,rfl,hs⟩;right;simp only[hg];right;refine Co (tp1:=true) (tp2:=true) (ks:=BP) (ys:=([a0,a1,a2,a3,a4,a5]:List Int).map tz) hs (hS _) (bp.of hs.at) (by decide+kernel) rfl (nl rfl) (λd H2 hs2=>?_);right;rename_i H3 hs3;refine q _ ?_;refine jH (dx:=dx) (d:=d) rfl ?_;walk_at "sp"
def qh {b:Addr}(ro:Ro K R)(hk:5<=k)(s:Sep (boxes R b ns::O) H)(q:∀ c H',Sep (boxes R c ns::boxes R b ns::O) H'->Q (sK c) H'):ae tab R k 14 [sK b] H Q E:=by
 delta cY;right;intro x dx h1 h2 h3;refine nU (ns:=[0,0,0,1,0,0]) ro nofun rfl ?_ (aW s h1 h2 h3) (λH1 hs1=>?_)
 .intro j i hi;rcases j with _|_|_|_|_|_|j<;>first|(cases hi;rfl)|exact absurd hi (by simp)
 refine⟨rfl,?_⟩;obtain⟨dx1,d1,hn1,hs2⟩:=oY hs1;obtain⟨dx2,d2,hn2,hs3⟩:=oY (hs2.pull .k3);right;refine wu hs3 (by grind) (λd3 H3 hs4=>?_);right;rename_i H4 hs5;refine q _ _ ?_;refine jH (dx:=dx1) (d:=d3) hn2 ?_;refine Sep.push .k3 (jH (dx:=dx2) (d:=d2) hn2 ?_);walk_at "sp"
abbrev Bk:V->Bool
 | ul x=>AG (ul x) (xH.map ul)
 |_=>false
def vB (ro:Ro K R)(hk:1<=k)(ht:tyName v H=some t)(q:Q (.bl (Bk v)) H):ae tab R k 9 [v] H Q E:=by
 delta kC;right;obtain⟨a,hg,hs⟩:=ro.g_NAMES;have hs':=hs H;rw[<-ro.hK]at hs';cases fW ht
 case str x=>
  refine fR ht rfl ?_;left;refine bt rfl ?_;left;simp only[hg];right;exact C8 hs' rfl rfl q
 all_goals
  refine fR ht rfl ?_;right;exact q
def zR {j:Nat}{x:Str}(hj:xH[j]? =some x):Bk (ul x)=true:=by
 rcases rE hj with⟨rfl,rfl⟩|⟨rfl,rfl⟩|⟨rfl,rfl⟩|⟨rfl,rfl⟩|⟨rfl,rfl⟩|⟨rfl,rfl⟩<;>rfl
abbrev Ob (R:Rt)(A:ah)(b:Addr)(i:Nat)(fl:List Str):Prop:=∀ H D,A.p H D->∃ dx fs,H b=some (wn (R.cad i) dx fs)/\fs.map (·.1)=fl
def nW {m:Str}:∀ {fs:List (Str×V)},(fs.map (·.1)).all (λx=>!(m ==x))=true->fs.lookup m=none
 | [],_=>rfl
 |(x,v)::fs,h=>by
  simp only[map_cons,all_cons,lv]at h;have h1:(m ==x)=false:=by simpa using h.1
  rw[lookup_cons,h1];exact nW h.2
def dh {A:ah}{b:Addr}{i f:Nat}{fl:List Str}{m:Str}{X:Nat->Prop}(o:Ob G.R A b i fl)(s:Sep O H)(p:ai A O Δ)(hm:fl.all (λx=>!(m ==x))=true) (hf:G.T.me.lookup (i,m)=some f) (h:X f):
  ∃ p' i' dx fs f',sK b=sK p'/\H p'=some (wn (G.R.cad i') dx fs)/\fs.lookup m=none/\G.T.me.lookup (i',m)=some f'/\X f':=by
 obtain⟨D,k,D1,D2,s1,s2,dj,h1,h2⟩:=s.pull p;obtain⟨dx,fs,e1,e2⟩:=o H D1 h1;exact⟨b,i,dx,fs,f,rfl,e1,nW (e2▸hm),hf,h⟩
structure Bx where
 h:Int
 t:Int
 l:Int
 w:Int
 s:Int
 m:Int
abbrev Bx.ls (x:Bx):List Int:=[x.h,x.t,x.l,x.w,x.s,x.m]
abbrev Bx.ok (x:Bx):Prop:=(-1000000000<=x.h/\x.h<=1000000000)/\(-1000000000<=x.t/\x.t<=1000000000)/\(0<=x.l/\x.l<=1000000000)/\(x.w=1\/x.w= -1)/\(0<=x.s/\x.s<=1000000000)/\(x.m=0\/x.m=1)
abbrev pC (R:Rt)(b:Addr)(x:Bx):ah:=bx λ_:Unit=>[boxes R b x.ls,pu x.ok]
variable {x:Bx}
def A7 {b:Addr}(s:Sep (pC R b x::O) H):x.ok/\Sep (boxes R b x.ls::O) H:=by
 obtain⟨_,s⟩:=yq s;have s:Sep (boxes R b x.ls::pu x.ok::O) H:=s;exact⟨(s.pull .k1).pure,(s.pull .k1).drop⟩
def qP {b:Addr}(hx:x.ok)(s:Sep (boxes R b x.ls::O) H):Sep (pC R b x::O) H:=kA () (Sep.push .k1 (Sep.w6 hx s))
def sg {b:Addr}:Ob R (pC R b x) b 8 ["numbers"]:=by
 rintro H D ⟨_,D1,D2,_,_,_,⟨⟨dx,d⟩,E1,E2,_,_,_,⟨_,h⟩,_⟩,_⟩;exact⟨dx,_,h,rfl⟩
def zN (h:x.ok):∀ (j:Nat) i,x.ls[j]? =some i->dH j (tz i)=true:=by
 obtain⟨⟨h1,h2⟩,⟨h3,h4⟩,⟨h5,h6⟩,h7,⟨h8,h9⟩,h10⟩:=h;intro j i hi;rcases j with _|_|_|_|_|_|j
 .cases hi;simp[dH,gN,h1,h2]
 .cases hi;simp[dH,gN,h3,h4]
 .cases hi;simp[dH,ku,h5,h6]
 .cases hi;rcases h7 with e|e<;>rw[e]<;>rfl
 .cases hi;simp[dH,ku,h8,h9]
 .cases hi;rcases h10 with e|e<;>rw[e]<;>rfl
 .exact absurd hi (by simp[Bx.ls])
def wJ (h:0<=i/\i<=1000000000):ku (tz i)=true:=by simp[ku,h.1,h.2]
section
variable {b:Addr}{h t l w s m i:Int}
def uP (ro:Ro K R)(hk:4<=k)(hx:x.ok)(z:Sep (pt b (wn (R.cad 8) dx [])::pt dx (.own b)::O) H)(q:∀ H',Sep (pC R b x::O) H'->Q ut H'):
  ae tab R k 12 (sK b::x.ls.map tz) H Q E:=nU ro hk rfl (zN hx) z (λH' z2=>q H' (qP hx z2))
def d9 (ro:Ro K R)(hk:4<=k)(hx:(Bx.mk h t l w s m).ok)(z:Sep (pt b (wn (R.cad 8) dx [])::pt dx (.own b)::O) H)(q:∀ H',Sep (pC R b ⟨h,t,l,w,s,m⟩::O) H'->Q ut H'):
  ae tab R k 12 [sK b,tz h,tz t,tz l,tz w,tz s,tz m] H Q E:=uP (x:=⟨h,t,l,w,s,m⟩) ro hk hx z q
end
abbrev uy (cs:List Int)(ws:List Str):Prop:=cs.length=ws.length/\1<=cs.length/\cs.length<=60/\nZ cs
abbrev nB (R:Rt)(a:Addr)(cs:List Int)(ws:List Str):ah:=bx λ_:Unit=>[dP (R.cad 19) a (cs.map tz) (ws.map ul),pu (uy cs ws)]
def uk (s:Sep (nB R a cs ws::O) H):uy cs ws/\Sep (dP (R.cad 19) a (cs.map tz) (ws.map ul)::O) H:=by
 obtain⟨_,s⟩:=yq s;have s:Sep (dP (R.cad 19) a (cs.map tz) (ws.map ul)::pu (uy cs ws)::O) H:=s;exact⟨(s.pull .k1).pure,(s.pull .k1).drop⟩
def qQ (hx:uy cs ws)(s:Sep (dP (R.cad 19) a (cs.map tz) (ws.map ul)::O) H):Sep (nB R a cs ws::O) H:=kA () (Sep.push .k1 (Sep.w6 hx s))
def zt (s:Sep O H)(p:ai (nB R a cs ws) O Δ):uy cs ws:=(uk (s.pull p)).1
def lQ:Ob R (nB R a cs ws) a 19 ["contents","permits"]:=by
 rintro H D ⟨_,D1,D2,_,_,_,⟨⟨dx,c,d⟩,E1,E2,_,_,_,⟨_,h⟩,_⟩,_⟩;exact⟨dx,_,h,rfl⟩
section
variable {a:Addr}{cs:List Int}{ws:List Str}{i v:Int}
end
def pX (h1:1<=cs.length)(h60:cs.length<=60)(hc:nZ cs):bad (cs.map tz)=none:=by
 refine lq (by rw[ce];exact⟨h1,h60⟩) λi y hy=>?_
 rw[ii]at hy;obtain⟨z,hz,rfl⟩:=lw.mp hy;exact wJ (hc z (cr hz))
def sx (s:Sep O H):Sep (tys (cs.map tz)::O) H:=Sep.B2 (λx hx=>by
 obtain⟨z,_,rfl⟩:=List.mem_map.mp hx;exact⟨"int",rfl⟩) s
def eJ {p:Addr}(ro:Ro K R)(hk:4<=k)(h1:1<=cs.length)(h60:cs.length<=60)(hc:nZ cs)(s:Sep (pt p (wn (R.cad 19) dx [])::pt dx (.own p)::O) H)(h:ai (pt a (v0 (cs.map tz))) O Δ)
  (q:∀ H',Sep (nB R p cs (re cs.length "open")::O) H'->Q ut H'):ae tab R k 56 [sK p,sK a] H Q E:=by
 have s2:=sx (cs:=cs) (s.pull (.j2 h));refine jO (a:=a) (dx:=dx) (O:=Δ) ro hk (s2.sub ?_) (λ_ H' z=>q H' ?_) (λat' hb=>absurd hb (by rw[pX h1 h60 hc];exact λz=>nomatch z))
 .ac_nf
 .refine Sep.push (.t h) ?_;have e:re (cs.map tz).length (ul "open")=(re cs.length ("open":Str)).map ul:=by rw[ce,List.map_replicate]
  rw[e]at z;have z2:=qQ (cs:=cs) ⟨by rw[length_replicate],h1,h60,hc⟩ z;exact z2.sub (by ac_nf)
local macro_rules| `(tactic|walk_at "ag")=>`(tactic|first|refine wargs2 (vs':=[_,_]) rfl ?_|refine wargs2 (vs':=[_,_,_]) rfl ?_|refine wargs2 (vs':=[_]) rfl ?_|refine wargs2 (vs':=[_,_,_,_]) rfl ?_)
local macro_rules| `(tactic|walk_at "mt")=>`(tactic|first|((with_reducible refine' dh sg ?s ?p ?m ?f ?_);(case s=>with_reducible assumption);(case p=>symm);(case m=>exact rfl);(case f=>exact rfl))|((with_reducible refine' dh lQ ?s ?p ?m ?f ?_);(case s=>with_reducible assumption);(case p=>symm);(case m=>exact rfl);(case f=>exact rfl)))
local macro_rules| `(tactic|walk_at "ws")=>`(tactic|(walk_at "w";repeat(first|(walk_at "st";walk_at "w")|(walk_at "mt";walk_at "w")|(walk_at "ag";(walk_at "hq");walk_at "w")|(walk_at "ag";(walk_at "gq");walk_at "w"))))
local macro_rules| `(tactic|walk_at "sc")=>`(tactic|first|(refine bt (by decide+kernel) ?_;walk_at "go")|(refine ck (by decide+kernel) ?_;walk_at "go"))
section
variable {cs:List Int}{f g:Nat->Int}{i v:Int}
end
abbrev dd (R:Rt)(d:Addr)(c:Nat):ah:=bx λdx:Addr=>[pt d (wn (R.cad c) dx []),pt dx (.own d)]
def vZ {c:Nat}(s:Sep (pt d (wn (R.cad c) dx [])::pt dx (.own d)::O) H):Sep (dd R d c::O) H:=kA dx s
def Bt {c:Nat}:Ob R (dd R d c) d c []:=by
 rintro H D ⟨dx,D1,D2,_,_,_,⟨_,h⟩,_⟩;exact⟨dx,_,h,rfl⟩
section
variable {d:Addr}{h t l w s m i:Int}{P:Hp->Prop}
end
local macro_rules| `(tactic|walk_at "sx")=>`(tactic|((with_reducible (first|refine' dx_h ?s ?p ?_|refine' dx_t ?s ?p ?_|refine' dx_l ?s ?p ?_|refine' dx_w ?s ?p ?_|refine' dx_s ?s ?p ?_|refine' dx_m ?s ?p ?_));(case s=>with_reducible assumption);(case p=>symm)))
local macro_rules| `(tactic|walk_at "sy")=>`(tactic|((with_reducible (first|refine' ds_h ?s ?p (λH hs=>?_)|refine' ds_t ?s ?p (λH hs=>?_)|refine' ds_l ?s ?p (λH hs=>?_)|refine' ds_w ?s ?p (λH hs=>?_)|refine' ds_s ?s ?p (λH hs=>?_)|refine' ds_m ?s ?p (λH hs=>?_)));(case s=>with_reducible assumption);(case p=>ac_rfl)))
local macro_rules| `(tactic|walk_at "wd")=>`(tactic|(walk_at "w";repeat(first|(walk_at "sx";walk_at "w")|(walk_at "sy";walk_at "w")|(walk_at "st";walk_at "w")|(refine bf_intC ?_;walk_at "w"))))
def gK {xs:List α}(h0:0<=i)(h1:i<xs.length):∃ v,qH xs i=some v/\v ∈ xs:=by
 have hl:i.toNat<xs.length:=by omega
 refine⟨xs[i.toNat],?_,getElem_mem hl⟩;have:=L2.n6 (le hl)
 rwa [Int.toNat_of_nonneg h0]at this
abbrev inR (lo hi:Int)(v:V):Prop:=∃ i,v=tz i/\lo<=i/\i<=hi
def inR.mk {lo hi:Int}(h0:lo<=i)(h1:i<=hi):inR lo hi (tz i):=⟨i,rfl,h0,h1⟩
abbrev nY:Nat->ie->ie
 |0,b=>b
 |n+1,.cons _ r=>nY n r
 |_+1,.nil=>.nil
inductive Wd where
 |copy|turn
abbrev Wd.s:Wd->Str
 | .copy=>"copy"
 | .turn=>"turn"
abbrev Wd.cl:Wd->Nat
 | .copy=>17
 | .turn=>18
inductive Bn where
 |h
 |t
 |l
 |w
 |s
 |m
abbrev Bn.j:Bn->Nat
 | .h=>0
 | .t=>1
 | .l=>2
 | .w=>3
 | .s=>4
 | .m=>5
abbrev Bn.nm:Bn->Str
 | .h=>"here"
 | .t=>"there"
 | .l=>"left"
 | .w=>"way"
 | .s=>"sign"
 | .m=>"met"
def Bn.at (b:Bn):xH[b.j]? =some b.nm:=by cases b<;>rfl
abbrev Bx.p (x:Bx)(i:Int):Bn->Bx
 | .h=>⟨i,x.t,x.l,x.w,x.s,x.m⟩
 | .t=>⟨x.h,i,x.l,x.w,x.s,x.m⟩
 | .l=>⟨x.h,x.t,i,x.w,x.s,x.m⟩
 | .w=>⟨x.h,x.t,x.l,i,x.s,x.m⟩
 | .s=>⟨x.h,x.t,x.l,x.w,i,x.m⟩
 | .m=>⟨x.h,x.t,x.l,x.w,x.s,i⟩
inductive Sp where
 |set (b:Bn) (i:Int)
abbrev Sp.w:Sp->Str
 | .set _ _=>"set"
abbrev Sp.b:Sp->Bn
 | .set b _=>b
abbrev Sp.cl:Sp->Nat
 | .set _ _=>10
abbrev Sp.fs:Sp->List (Str×V)
 | .set b i=>[("box",ul b.nm),("number",tz i)]
abbrev Sp.ok:Sp->Prop
 | .set _ i=>-1000000000<=i/\i<=1000000000
abbrev sd (R:Rt)(d:Addr)(sp:Sp):ah:=bx λdx:Addr=>[pt d (wn (R.cad sp.cl) dx sp.fs),pt dx (.own d)]
def Dg {sp:Sp}(s:Sep (pt d (wn (R.cad sp.cl) dx sp.fs)::pt dx (.own d)::O) H):Sep (sd R d sp::O) H:=kA dx s
def Bu {sp:Sp}:Ob R (sd R d sp) d sp.cl (sp.fs.map (·.1)):=by
 rintro H D ⟨dx,D1,D2,_,_,_,⟨_,h⟩,_⟩;exact⟨dx,_,h,rfl⟩
variable {w:Str}
def lF {n:Bn}(ro:Ro K R)(hk:2<=k)(q:Q ut H):ae tab R k 15 [ul w,ul n.nm] H Q E:=by
 delta fO;right;refine vB (t:="str") ro nofun rfl ?_;rw[zR n.at];right;exact q
def gS (ro:Ro K R)(hk:3<=k)(h0: -1000000000<=i)(h1:i<=1000000000)(q:Q ut H):ae tab R k 16 [ul w,tz i] H Q E:=by
 delta cI;right;refine cO (t:="int") ro nofun rfl ?_;rw[show gN (tz i)=true by simp[gN,h0,h1]];right;exact q
def A5 {x:Addr}{n:Bn}(ro:Ro K R)(hk:4<=k)(h0: -1000000000<=i)(h1:i<=1000000000)(z:Sep (pt x (wn (R.cad 10) dx [])::pt dx (.own x)::O) H)(q:∀ H',Sep (sd R x (.set n i)::O) H'->Q ut H'):ae tab R k 17 [sK x,ul n.nm,tz i] H Q E:=by
 delta cL;right;refine lF ro nofun ?_;right;refine gS ro nofun h0 h1 ?_;right;exact q _ (Dg (by assumption))
abbrev gO:V->Bool
 | tz i=>decide (0<=i)&&decide (i<=24)
 |_=>false
abbrev AH:V->Bool
 | ut=>true
 | tz i=>i ==0||i ==1
 |_=>false
def pG (ro:Ro K R)(hk:2<=k)(ht:tyName v H=some t)(q:Q (.bl (gO v)) H):ae tab R k 24 [v] H Q E:=by
 delta iZ;right;refine aG nofun ht ?_;cases fW ht
 case int i=>
  right;refine bZ (λh0=>?_) (λh0=>?_)
  .left;simp only[ro.g_MOST_HOPPED];right;rw[show gO (tz i)=decide (i<=24) by simp[gO,h0]]at q;exact q
  .right;rw[show gO (tz i)=false by simp[gO,h0]]at q;exact q
 all_goals
  right;exact q
def wY (hk:2<=k)(ht:tyName v H=some t)(q:Q (.bl (AH v)) H):ae tab R k 25 [v] H Q E:=by
 delta o5;right;refine nu ?_;cases fW ht
 case int i=>
  left;refine ck rfl ?_;right;refine aG (t:="int") nofun rfl ?_;right;refine dv (λh0=>?_) (λh0=>?_)
  .right;rw[show AH (tz i)=true by simp[AH,h0]]at q;exact q
  .right;rw[show AH (tz i)=(i ==1) by simp[AH,h0]]at q;exact q
 case non=>
  left;refine bt rfl ?_;exact q
 all_goals
  left;refine ck rfl ?_;right;refine aG nofun ht ?_;right;exact q
abbrev oV:Option Int->V
 |none=>ut
 |some i=>tz i
abbrev CK:Option Int->Prop
 |none=>True
 |some i=>i=0\/i=1
abbrev Cr (R:Rt)(d:Addr)(n:Int)(o:Option Int):ah:=bx λdx:Addr=>[pt d (wn (R.cad 12) dx [("many",tz n),("on",oV o)]),pt dx (.own d)]
def DH {n:Int}(s:Sep (pt d (wn (R.cad 12) dx [("many",tz n),("on",oV o)])::pt dx (.own d)::O) H):Sep (Cr R d n o::O) H:=kA dx s
def AS {n:Int}:Ob R (Cr R d n o) d 12 ["many","on"]:=by
 rintro H D ⟨dx,D1,D2,_,_,_,⟨_,h⟩,_⟩;exact⟨dx,_,h,rfl⟩
def pf {x:Addr}{n:Int}(ro:Ro K R)(hk:4<=k)(h0:0<=n)(h1:n<=24)(ho:CK o)(z:Sep (pt x (wn (R.cad 12) dx [])::pt dx (.own x)::O) H)(q:∀ H',Sep (Cr R x n o::O) H'->Q ut H'):ae tab R k 26 [sK x,tz n,oV o] H Q E:=by
 delta cT;right;refine pG (t:="int") ro nofun rfl ?_;rw[show gO (tz n)=true by simp[gO,h0,h1]];right;obtain⟨t,ht⟩:∃ t,tyName (oV o) H=some t:=by cases o<;>exact⟨_,rfl⟩
 refine wY nofun ht ?_;rw[show AH (oV o)=true by cases o with|none=>rfl|some i=>rcases ho with rfl|rfl<;>rfl];right;exact q _ (DH (by assumption))
inductive Rw where
 |lg (w:Wd)
 |sp (s:Sp)
 |hop (n:Int) (o:Option Int)
abbrev Rw.ok:Rw->Prop
 | .lg _=>True
 | .sp s=>s.ok
 | .hop n o=>(0<=n/\n<=24)/\CK o
abbrev Rw.cl:Rw->Nat
 | .lg w=>w.cl
 | .sp s=>s.cl
 | .hop _ _=>12
abbrev aI (R:Rt)(d:Addr):Rw->ah
 | .lg w=>dd R d w.cl
 | .sp s=>sd R d s
 | .hop n o=>Cr R d n o
abbrev Rw.fs:Rw->List Str
 | .lg _=>[]
 | .sp s=>s.fs.map (·.1)
 | .hop _ _=>["many","on"]
def Cm (r:Rw):Ob R (aI R d r) d r.cl r.fs:=by
 cases r with
 |lg w=>exact Bt
 |sp s=>exact Bu
 |hop n o=>exact AS
def xI {r:Rw}(z:Sep O H)(p:ai (aI R d r) O Δ):∃ dx fs,H d=some (wn (R.cad r.cl) dx fs):=by
 obtain⟨D,k,D1,D2,s1,s2,dj,h1,h2⟩:=z.pull p;obtain⟨dx,fs,e,_⟩:=Cm r H D1 h1;exact⟨dx,fs,e⟩
def iG (ro:Ro K R)(hk:5<=k)(z:Sep O H)(p:ai (nB R a cs ws) O Δ)(q:∀ c H',Sep (nB R c cs ws::O) H'->Q (sK c) H'):ae tab R k 58 [sK a] H Q E:=by
 delta cR;have ok:=zt z p;right;rename_i l H1 z1;intro c dx g1 g2 g3;refine eJ (cs:=[0]) ro nofun (by decide) (by decide) (λi hi=>by rw[mem_singleton.mp hi];decide) (aW z1 g1 g2 g3) .e (λH2 z2=>⟨rfl,?_⟩);obtain⟨_,z3⟩:=uk z2;obtain⟨dx1,c1,d1,z4⟩:=j4 z3;obtain⟨_,z5⟩:=uk (z4.pull (.j2 (.j2 (.t p))));obtain⟨dx2,c2,d2,z6⟩:=j4 z5;clear z1 z2 z3 z4 z5;right;rename_i l3 H3 z7 H4 z8 l5 H5 z9 H6 z10;refine q c H6 ?_;have z11:Sep (pt c (wn (R.cad 19) dx1 [("contents",sK l3),("permits",sK l5)])::pt dx1 (.own c)::pt l3 (v0 (cs.map tz))::pt l5 (v0 (ws.map ul))::pt a (wn (R.cad 19) dx2 [("contents",sK c2),("permits",sK d2)])::pt dx2 (.own a)::pt c2 (v0 (cs.map tz))::pt d2 (v0 (ws.map ul))::Δ) H6:=z10.sub (by ac_nf);have z12:=qQ ok (gM z11);have z13:Sep (pt a (wn (R.cad 19) dx2 [("contents",sK c2),("permits",sK d2)])::pt dx2 (.own a)::pt c2 (v0 (cs.map tz))::pt d2 (v0 (ws.map ul))::nB R c cs ws::Δ) H6:=z12.sub (by ac_nf);exact Sep.push (.t p) (qQ ok (gM z13))
def iL {b:Addr}(ro:Ro K R)(hk:5<=k)(z:Sep O H)(p:ai (pC R b x) O Δ)(q:∀ c H',Sep (pC R c x::O) H'->Q (sK c) H'):ae tab R k 14 [sK b] H Q E:=by
 obtain⟨o,z2⟩:=A7 (z.pull p);refine qh ro hk z2 (λc H' z3=>q c H' ?_);have z4:=qP o z3;have z5:=qP o (z4.pull .k1);exact Sep.push (.t p) z5
abbrev DS (R:Rt)(m l s b:Addr)(at_:Int)(ds:List V):ah:=bx λdx:Addr=>[pt m (wn (R.cad 11) dx [("deeds",sK l),("store",sK s),("boxes",sK b),("at",tz at_)]),pt dx (.own m),pt l (v0 ds)]
def C7 {m s b:Addr}(z:Sep (pt m (wn (R.cad 11) dx [("deeds",sK l),("store",sK s),("boxes",sK b),("at",tz at_)])::pt dx (.own m)::pt l (v0 ds)::O) H):Sep (DS R m l s b at_ ds::O) H:=kA dx z
abbrev rK (R:Rt)(O:List ah)(ds:List V):Prop:=∀ v ∈ ds,∃ a r Δ,v=sK a/\ai (aI R a r) O Δ
def gu (r:Rw):tab.oc.contains r.cl=true/\tab.sub.lookup (r.cl,9)=some true:=by
 cases r with
 |lg w=>cases w<;>exact⟨rfl,rfl⟩
 |sp s=>cases s<;>exact⟨rfl,rfl⟩
 |hop n o=>exact⟨rfl,rfl⟩
def fe (ro:Ro K R)(hk:1<=k)(h0:1<=ds.length)(h1:ds.length<=24)(z:Sep O H)(p:ai (pt l (v0 ds)) O Δ)(hd:rK R O ds)(q:∀ H',Sep O H'->Q ut H'):ae tab R k 19 [sK l] H Q E:=by
 delta cy;left;refine fR (t:="list") (vc (z.get p)) rfl ?_;right;refine bb (z.get p) ?_;right;refine bZ (λh=>?_) (λh=>absurd nofun h);left;simp only[ro.g_MOST_ROWS];right;refine bZ (λh=>?_) (λh=>absurd nofun h);right;refine wV (z.get p) ?_;refine gr (xs:=ds) (λj U H=>∃ u v,U=[some (sK l),u,v]/\Sep O H) ?_ ?_ ?_ ?_
 .exact⟨none,none,rfl,z⟩
 .rintro j U H ⟨u,v,rfl,hs⟩;exact hs.get p
 .rintro j x T U H hx ⟨u,v,rfl,hs⟩ hT;obtain⟨a,r,Δ',rfl,hp⟩:=hd x (cr hx);have hs4:=hs.dZ (xs:=[tz j,sK a]) hT;obtain⟨dx,fs,e⟩:=xI hs4 (.t hp);left;refine⟨T,_,rfl,.inl (bp.of hs4.atT),rfl,?_⟩;generalize upd H T _=H4 at hs4 e⊢;right;refine ax e (gu r).1 (b:=true) (gu r).2 ?_;right;exact⟨_,_,rfl,hs4.drop⟩
 .rintro U H ⟨u,v,rfl,hs⟩;exact q _ hs
def dz {n:Int}(hk:2<=k)(h0:0<=at_)(h1:at_<=n)(q:Q ut H):ae tab R k 20 [tz at_,tz n] H Q E:=by
 delta dD;right;refine aG (t:="int") nofun rfl ?_;right;refine bZ (λh=>?_) (λh=>absurd h0 h);right;refine bZ (λh=>?_) (λh=>absurd h1 h);right;exact q
def pv {m s b:Addr}(ro:Ro K R)(hk:6<=k)(n0:1<=ds.length)(n1:ds.length<=24)(h0:0<=at_)(h1:at_<=ds.length){Δl Δs Δb:List ah}(pl:ai (pt l (v0 ds)) O Δl)(ps:ai (nB R s cs ws) O Δs)(pb:ai (pC R b x) O Δb)(hd:rK R O ds)
  (z:Sep (pt m (wn (R.cad 11) dx [])::pt dx (.own m)::O) H) (q:∀ l2 s2 b2 H',Sep (DS R m l2 s2 b2 at_ ds::nB R s2 cs ws::pC R b2 x::O) H'->Q ut H'):ae tab R k 21 [sK m,sK l,sK s,sK b,tz at_] H Q E:=by
 delta aw;right;refine fe ro nofun n0 n1 z (.j2 pl) (λv hv=>by
  obtain⟨a,r,Δ',e,hp⟩:=hd v hv;exact⟨a,r,_,e,.t (.t hp)⟩) (λH1 z1=>?_)
 right;refine bb (z1.get (.j2 pl)) ?_;right;refine dz nofun h0 h1 ?_;right;refine bB z1 (z1.get (.j2 pl)) (λl2 H2 z2=>?_);right;rename_i H3 z3;refine dh lQ z3 (.j2 (.t ps)) rfl rfl ?_;left;refine iG ro nofun z3 (.j2 (.t ps)) (λs2 H4 z4=>?_);right;rename_i H5 z5;refine dh sg z5 (.j2 (.j2 pb)) rfl rfl ?_;left;refine iL ro nofun z5 (.j2 (.j2 pb)) (λb2 H6 z6=>?_);right;rename_i H7 z7 H8 z8;refine q l2 s2 b2 H8 (C7 (dx:=dx) ?_);exact z8.sub (by ac_nf)
abbrev DX (R:Rt)(m l s b en:Addr)(at_:Int)(ds:List V):ah:=bx λdx:Addr=>[pt m (wn (R.cad 20) dx [("deeds",sK l),("store",sK s),("boxes",sK b),("at",tz at_),("entries",sK en)]),pt dx (.own m),pt l (v0 ds)]
section
variable {m l s b en:Addr}{at_:Int}{ds:List V}
def C2 (z:Sep (pt m (wn (R.cad 20) dx [("deeds",sK l),("store",sK s),("boxes",sK b),("at",tz at_),("entries",sK en)])::pt dx (.own m)::pt l (v0 ds)::O) H):Sep (DX R m l s b en at_ ds::O) H:=kA dx z
end
def tf {m s b:Addr}(ro:Ro K R)(hk:6<=k)(n0:1<=ds.length)(n1:ds.length<=24)(h0:0<=at_)(h1:at_<=ds.length){Δl Δs Δb:List ah}(pl:ai (pt l (v0 ds)) O Δl)(ps:ai (nB R s cs ws) O Δs)(pb:ai (pC R b x) O Δb)(hd:rK R O ds)
  (z:Sep (pt m (wn (R.cad 20) dx [])::pt dx (.own m)::O) H) (q:∀ l2 s2 b2 H',Sep (pt m (wn (R.cad 20) dx [("deeds",sK l2),("store",sK s2),("boxes",sK b2),("at",tz at_)])::pt dx (.own m)::pt l2 (v0 ds)::nB R s2 cs ws::pC R b2 x::O) H'->Q ut H'):ae tab R k 21 [sK m,sK l,sK s,sK b,tz at_] H Q E:=by
 delta aw;right;refine fe ro nofun n0 n1 z (.j2 pl) (λv hv=>by
  obtain⟨a,r,Δ',e,hp⟩:=hd v hv;exact⟨a,r,_,e,.t (.t hp)⟩) (λH1 z1=>?_)
 right;refine bb (z1.get (.j2 pl)) ?_;right;refine dz nofun h0 h1 ?_;right;refine bB z1 (z1.get (.j2 pl)) (λl2 H2 z2=>?_);right;rename_i H3 z3;refine dh lQ z3 (.j2 (.t ps)) rfl rfl ?_;left;refine iG ro nofun z3 (.j2 (.t ps)) (λs2 H4 z4=>?_);right;rename_i H5 z5;refine dh sg z5 (.j2 (.j2 pb)) rfl rfl ?_;left;refine iL ro nofun z5 (.j2 (.j2 pb)) (λb2 H6 z6=>?_);right;rename_i H7 z7 H8 z8;exact q l2 s2 b2 H8 (z8.sub (by ac_nf))
def uD {m s b:Addr}(ro:Ro K R)(hk:7<=k)(n0:1<=ds.length)(n1:ds.length<=24)(h0:0<=at_)(h1:at_<=ds.length){Δl Δs Δb:List ah}(pl:ai (pt l (v0 ds)) O Δl)(ps:ai (nB R s cs ws) O Δs)(pb:ai (pC R b x) O Δb)(hd:rK R O ds)
  (z:Sep (pt m (wn (R.cad 20) dx [])::pt dx (.own m)::O) H) (q:∀ l2 s2 b2 en H',Sep (DX R m l2 s2 b2 en at_ ds::nB R s2 cs ws::pC R b2 x::pt en (v0 [])::O) H'->Q ut H'):ae tab R k 59 [sK m,sK l,sK s,sK b,tz at_] H Q E:=by
 delta aR;right;refine tf ro nofun n0 n1 h0 h1 pl ps pb hd z (λl2 s2 b2 H1 z1=>?_);clear z;right;rename_i en H2 z2 H3 z3;exact q l2 s2 b2 en H3 (C2 (dx:=dx) (z3.sub (by ac_nf)))
def ic {x:Addr}(hk:1<=k)(s:Sep (pt x (.exc (R.cad 4) none [] true)::O) H)(q:∀ d H',Sep (pt x (.exc (R.cad 4) (some d) [("at",v)] true)::pt d (.own x)::O) H'->Q ut H'):ae tab R k 3 [sK x,v] H Q E:=by
 delta bN;right;refine⟨_,4,_,_,_,_,rfl,by grind,rfl,?_⟩;right;refine qL s rfl rfl (λd H hs=>?_);right;exact q d H hs
def aM {A:ah}:∀ {L O Δ:List ah},ai A O Δ->ai A (L++O) (L++Δ)
 | [],_,_,h=>h
 |B::L,_,_,h=>.t (aM h)
def Sep.mv:∀ {L P Δ O:List ah}{H:Hp},Sep (P++(Δ++(L++O))) H->Sep (P++(L++(Δ++O))) H
 | [],_,_,_,_,z=>z
 |A::L,P,Δ,O,H,z=>(Sep.mv (L:=L) (P:=A::P) (Δ:=Δ) (O:=O) (z.pull (aM (aM .e)))).push (aM .e)
def jf {cs:List Nat}{j:Nat}{fs:List (Str×V)}{b:Bool}(s:Sep O H)(ho:G.T.oc.contains j=true)(e:H a=some (wn (G.R.cad j) dx fs))(hb:anyS G j cs=some b)(q:∀ p H',Sep (tu p (cs.map λc=>sK (G.R.cad c))::O) H'->Q (.bl b) H'):∀ p,H p=none->kc G cs (sK a) (upd H p (wf (cs.map λc=>sK (G.R.cad c)))) Q:=λp hp=>by
 unfold kc;refine .inr ⟨a,j,b,rfl,.inl ⟨ho,dx,fs,?_⟩,hb,q p _ (s.dZ hp)⟩;rw[af λz=>by rw[z,hp]at e;cases e];exact e
inductive Itm where
 |row (r:Rw)|dO (w:Str)|tms (n:Int) (b:List Itm)|whn (o:Int) (b c:List Itm)
abbrev uh (ns:List Str):Nat->Itm->Prop
 |_,.row r=>r.ok
 |_,.dO w=>w ∈ ns
 |n+1,.tms m b=>(0<=m/\m<=9)/\b.length<=30/\∀ i ∈ b,uh ns n i
 |n+1,.whn o b c=>(o=0\/o=1)/\(b.length<=30/\∀ i ∈ b,uh ns n i)/\c.length<=30/\∀ i ∈ c,uh ns n i
 |0,.tms _ _=>False
 |0,.whn _ _ _=>False
noncomputable abbrev lH (ns:List Str)(n:Nat)(b:List Itm):Prop:=b.length<=30/\∀ i ∈ b,uh ns n i
abbrev ow (c:Str->Int):Nat->Itm->Int
 |_,.row _=>1
 |_,.dO w=>c w
 |n+1,.tms m b=>m*(b.map (ow c n)).sum
 |n+1,.whn _ b d=>1+(b.map (ow c n)).sum+(d.map (ow c n)).sum+(if d.length=0 then 0 else 1)
 |0,.tms _ _=>0
 |0,.whn _ _ _=>0
noncomputable abbrev cG (c:Str->Int)(n:Nat)(b:List Itm):Int:=(b.map (ow c n)).sum
abbrev aT (P:V->α->Prop)(vs:List V)(b:List α):Prop:=vs.length=b.length/\∀ (j:Nat) v i,vs[j]? =some v->b[j]? =some i->P v i
def aT.map {P P':V->α->Prop}{b:List α}(h:aT P vs b)(f:∀ v i,P v i->P' v i):aT P' vs b:=⟨h.1,λj v i h1 h2=>f v i (h.2 j v i h1 h2)⟩
def aT.nil {P:V->α->Prop}:aT P [] []:=⟨rfl,λj v i h _=>nomatch h⟩
def aT.snoc {P:V->α->Prop}{b:List α}{i:α}(h:aT P vs b)(p:P v i):aT P (vs++[v]) (b++[i]):=by
 refine⟨by rw[ci,ci,h.1];rfl,λj x y h1 h2=>?_⟩;rcases Nat.lt_trichotomy j vs.length with hj|hj|hj
 .rw[getElem?_append_left hj]at h1;rw[getElem?_append_left (h.1▸hj)]at h2;exact h.2 j x y h1 h2
 .subst hj;rw[getElem?_append_right (pc _),Nat.sub_self]at h1;rw[getElem?_append_right (Nat.le_of_eq h.1.symm),h.1,Nat.sub_self]at h2;cases h1;cases h2;exact p
 .rw[List.getElem?_eq_none (by rw[ci];simp;omega)]at h1;cases h1
def aT.get {P:V->α->Prop}{b:List α}{j:Nat}(h:aT P vs b)(e:vs[j]? =some v):∃ i,b[j]? =some i/\P v i:=by
 have hj:=(s0.mp e).1;have e2:b[j]? =some (b[j]'(by rw[<-h.1];exact hj)):=le _;exact⟨_,e2,h.2 j v _ e e2⟩
abbrev kN (R:Rt)(F:List ah):Nat->V->Itm->Prop
 |_,v,.row r=>∃ d,v=sK d/\aI R d r ∈ F
 |_,v,.dO w=>∃ d dx,v=sK d/\pt d (wn (R.cad 13) dx [("called",ul w)]) ∈ F
 |n+1,v,.tms m b=>∃ d dx l vs,v=sK d/\pt d (wn (R.cad 14) dx [("many",tz m),("block",sK l)]) ∈ F/\pt l (v0 vs) ∈ F/\aT (kN R F n) vs b
 |n+1,v,.whn o b c=>∃ d dx l vs l' vs',v=sK d/\pt d (wn (R.cad 15) dx [("on",tz o),("block",sK l),("other",sK l')]) ∈ F/\(pt l (v0 vs) ∈ F/\aT (kN R F n) vs b)/\pt l' (v0 vs') ∈ F/\aT (kN R F n) vs' c
 |0,_,.tms _ _=>False
 |0,_,.whn _ _ _=>False
noncomputable abbrev jW (R:Rt)(F:List ah)(n:Nat)(v:V)(b:List Itm):Prop:=∃ l vs,v=sK l/\pt l (v0 vs) ∈ F/\aT (kN R F n) vs b
def kN.mono {F F':List ah}(h:∀ A ∈ F,A ∈ F'):∀ {n:Nat}{v:V}{i:Itm},kN R F n v i->kN R F' n v i:=by
 intro n
 induction n with
 |zero=>
  intro v i;cases i with
  |row r=>exact λ⟨t,e,m⟩=>⟨t,e,h _ m⟩
  |dO w=>exact λ⟨t,x,e,m⟩=>⟨t,x,e,h _ m⟩
  |tms m b=>exact λz=>z
  |whn o b c=>exact λz=>z
 |succ n ih=>
  intro v i;cases i with
  |row r=>exact λ⟨t,e,m⟩=>⟨t,e,h _ m⟩
  |dO w=>exact λ⟨t,x,e,m⟩=>⟨t,x,e,h _ m⟩
  |tms m b=>exact λ⟨t,x,l,vs,e,m1,m2,a⟩=>⟨t,x,l,vs,e,h _ m1,h _ m2,a.map λv i=>ih⟩
  |whn o b c=>exact λ⟨t,x,l,vs,l',vs',e,m1,⟨m2,a⟩,m3,a'⟩=>⟨t,x,l,vs,l',vs',e,h _ m1,⟨h _ m2,a.map λv i=>ih⟩,h _ m3,a'.map λv i=>ih⟩
def jW.mono {F F':List ah}{b:List Itm}(h:∀ A ∈ F,A ∈ F'):jW R F n v b->jW R F' n v b:=λ⟨l,vs,e,m,a⟩=>⟨l,vs,e,h _ m,a.map λv i=>kN.mono h⟩
def c9 {A:ah}:∀ {F:List ah},A ∈ F->∃ Δ,ai A F Δ
 |B::F,h=>by
  rcases li.mp h with rfl|h
  .exact⟨F,.e⟩
  .obtain⟨Δ,p⟩:=c9 h;exact⟨B::Δ,.t p⟩
def fz {o:HO}{G F:List ah}(h:pt a o ∈ F)(z:Sep (G++F) H):H a=some o:=let⟨_,p⟩:=c9 h;z.get (aM p)
def CH {t:Addr}{G F:List ah}(h:tu t xs ∈ F)(z:Sep (G++F) H):H t=some (wf xs):=let⟨_,p⟩:=c9 h;z.BO (aM p)
abbrev Nm (w:Str):Prop:=(1<=w.length/\w.length<=8)/\∀ c ∈ w.cps.toList,97<=c/\c<=122
def qS:((List.range 26).all λj=>!(Builtin.Str.occurrences ("abcdefghijklmnopqrstuvwxyz":Str) ⟨#[j+97]⟩ 0 ("abcdefghijklmnopqrstuvwxyz":Str).length 1).isEmpty)=true:=by decide+kernel
def Dq {i j:Str}{b:Bool}(e:(!(Builtin.Str.occurrences j i 0 j.length 1).isEmpty)=b)(q:Q (.bl b) H):uI K false (ul i) (ul j) H Q:=by unfold uI;exact⟨i,rfl,by rw[if_neg (by decide),e];exact q⟩
def vG {z:Str}(hz:z.length<=100000)(q:Q (tz z.length) H):kD G .len [ul z] H Q:=by unfold kD;exact⟨_,z.length,rfl,⟨f9 nofun,rfl⟩,q⟩
def wC {c:Nat}(h:97<=c/\c<=122)(q:Q (.bl true) H):uI K false (ul ⟨#[c]⟩) (ul ("abcdefghijklmnopqrstuvwxyz":Str)) H Q:=by
 refine Dq ?_ q;have z:=all_eq_true.mp qS (c-97) (mem_range.mpr nofun);rw[show c-97+97=c by omega]at z;exact z
def uw (ro:Ro K R)(hk:1<=k)(hw:Nm w)(z:Sep O H)(q:∀ H',Sep O H'->Q (.bl true) H'):ae tab R k 34 [ul w] H Q E:=by
 obtain⟨⟨h1,h2⟩,h3⟩:=hw;delta iQ;right;refine vG nofun ?_;right;refine bt (decide_eq_true nofun) ?_;right;simp only[ro.g_LONGEST_NAME];right;refine bt (decide_eq_true nofun) ?_;right;refine zQ (z:=w) (by show w.length<=1000;omega) (λD ys H=>ys=re ys.length (.bl true)/\Sep (pt D (v0 ys)::O) H) (λD hD=>⟨rfl,z.new (o:=v0 []) hD⟩) (λD ys c H hc hI=>?_) (λD ys H hl hI=>?_)
 .obtain⟨e,z1⟩:=hI;have hcm:c ∈ w.cps.toList:=by
   have:=Array.mem_of_getElem? hc;exact Array.mem_def.mp this |> λh=>h
  right;simp only[ro.g_LETTERS];left;refine wC (h3 c hcm) ?_;have hyl:ys.length<w.length:=(Array.getElem?_eq_some_iff.mp hc).1;refine ql.mk z1.at nofun ⟨?_,z1.set rfl⟩;rw[ci,f8,List.replicate_succ',<-e]
 .obtain⟨e,z1⟩:=hI;left;refine yQ (bs:=re ys.length true) (K:=K) rfl (by rw[z1.at,e,List.map_replicate,length_replicate]) ?_;rw[show(re ys.length true).all id=true by rw[all_eq_true];intro x hx;rw[List.eq_of_mem_replicate hx];rfl];exact q _ z1.drop
abbrev bL (cs:List (Str×Int))(w:Str):Int:=(cs.lookup w).getD 0
abbrev g7 (cs:List (Str×Int)):List (Key×V):=cs.map λp=>(Sum.inr p.1,tz p.2)
def nK {w:Str}:∀ {cs:List (Str×Int)},w ∈ cs.map (·.1)->cz (g7 cs) (.inr w)=some (tz (bL cs w))
 |(x,n)::cs,h=>by
  unfold bL;rw[lookup_cons]
  by_cases e:w=x
  .subst e;rw[beq_self_eq_true];exact ff rfl
  .rw[beq_eq_false_iff_ne.mpr e];refine(eW (λz=>e (Sum.inr.inj z).symm)).trans (nK ?_);rcases li.mp h with h|h
   .exact absurd h e
   .exact h
noncomputable abbrev aE (R:Rt)(B dx d1 d2:Addr)(kb:List (Key×V))(cs:List (Str×Int))(O:List ah):List ah:=pt B (wn (R.cad 16) dx [("blocks",sK d1),("counts",sK d2)])::pt d1 (.dK kb)::pt d2 (.dK (g7 cs))::O
section
variable {B dx d1 d2:Addr}{kb:List (Key×V)}{cs:List (Str×Int)}{ns:List Str}{F G:List ah}{v:V}{n:Nat}
def gB (hk:1<=k)(hw:w ∈ cs.map (·.1))(z:Sep (aE R B dx d1 d2 kb cs O) H)(q:Q (tz (bL cs w)) H):ae tab R k 43 [sK B,ul w] H Q E:=by
 delta bD;right;exact Bh (k:=.inr w) (z.get .k2) (nK hw) q
def lV (r:Rw):tab.oc.contains r.cl=true/\tab.sub.lookup (r.cl,13)=some false/\tab.sub.lookup (r.cl,14)=some false/\tab.sub.lookup (r.cl,15)=some false:=by
 cases r with
 |lg w=>cases w<;>exact⟨rfl,rfl,rfl,rfl⟩
 |sp s=>cases s<;>exact⟨rfl,rfl,rfl,rfl⟩
 |hop n o=>exact⟨rfl,rfl,rfl,rfl⟩
def Bs {r:Rw}(h:aI R d r ∈ F)(z:Sep (G++F) H):∃ dx fs,H d=some (wn (R.cad r.cl) dx fs):=let⟨_,p⟩:=c9 h;xI z (aM p)
abbrev tD (K:W.Frag)(R:Rt)(B dx d1 d2:Addr)(kb:List (Key×V))(cs:List (Str×Int))(ns:List Str)(F:List ah)(n:Nat):Prop:=∀ {k:Nat}{G:List ah}{v:V}{b:List Itm}{H:Hp}{Q:VK}{E:XK},3*n+3<=k->lH ns n b->jW R F n v b->Sep (aE R B dx d1 d2 kb cs (G++F)) H->(∀ H',Sep (aE R B dx d1 d2 kb cs (G++F)) H'->Q (tz (cG (bL cs) n b)) H')->ae tab R k 38 [sK B,v] H Q E
abbrev xW (K:W.Frag)(R:Rt)(B dx d1 d2:Addr)(kb:List (Key×V))(cs:List (Str×Int))(ns:List Str)(F:List ah)(n:Nat):Prop:=∀ {k:Nat}{G:List ah}{v:V}{i:Itm}{H:Hp}{Q:VK}{E:XK},3*n+2<=k->uh ns n i->kN R F n v i->Sep (aE R B dx d1 d2 kb cs (G++F)) H->(∀ H',Sep (aE R B dx d1 d2 kb cs (G++F)) H'->Q (tz (ow (bL cs) n i)) H')->ae tab R k 36 [sK B,v] H Q E
def o9 (ro:Ro K R)(hns:∀ w ∈ ns,w ∈ cs.map (·.1)) (ih:∀ m,n=m+1->tD K R B dx d1 d2 kb cs ns F m):xW K R B dx d1 d2 kb cs ns F n:=by
 intro k G v i H Q E hk ok hi z q;have zg:Sep ([pt B (wn (R.cad 16) dx [("blocks",sK d1),("counts",sK d2)]),pt d1 (.dK kb),pt d2 (.dK (g7 cs))]++G++F) H:=by simpa only [jp,cons_append,nil_append] using z
 delta ei;cases i with
 |row r=>
  obtain⟨d,rfl,m⟩:∃ d,v=sK d/\aI R d r ∈ F:=by cases n<;>exact hi
  obtain⟨x,fs,e⟩:=Bs m zg;obtain⟨o1,o2,o3,o4⟩:=lV r;right;refine ax e o1 o2 ?_;right;refine ax e o1 o3 ?_;right;refine ax e o1 o4 ?_;right;have:=q H z;cases n<;>exact this
 |dO w=>
  obtain⟨d,x,rfl,m⟩:∃ d dx,v=sK d/\pt d (wn (R.cad 13) dx [("called",ul w)]) ∈ F:=by cases n<;>exact hi
  have ok':w ∈ ns:=by cases n<;>exact ok
  have e:=fz m zg;right;refine ax e rfl rfl ?_;right;refine⟨_,16,_,_,_,rfl,z.at,rfl,rfl,?_⟩;right;refine aL e rfl rfl rfl ?_;refine gB nofun (hns w ok') z ?_;have:=q H z;cases n<;>exact this
 |tms m b=>
  cases n with
  |zero=>exact hi.elim
  |succ n=>
   obtain⟨d,x,l,vs,rfl,m1,m2,a⟩:=hi;have e:=fz m1 zg;right;refine ax e rfl rfl ?_;right;refine ax e rfl rfl ?_;right;refine aL e rfl rfl rfl ?_;right;refine aL e rfl rfl rfl ?_;right;refine ih n rfl nofun ok.2 ⟨l,vs,rfl,m2,a⟩ z (λH' z'=>?_);left;exact⟨.inl ⟨by have:=ok.1.1;omega,by have:=ok.1.2;omega⟩,q H' z'⟩
 |whn o b c=>
  cases n with
  |zero=>exact hi.elim
  |succ n=>
   obtain⟨d,x,l,vs,l',vs',rfl,m1,⟨m2,a⟩,m3,a'⟩:=hi;have e:=fz m1 zg;right;refine ax e rfl rfl ?_;right;refine ax e rfl rfl ?_;right;refine ax e rfl rfl ?_;right;delta eG;right;refine aL e rfl rfl rfl ?_;right;refine ih n rfl nofun ok.2.1 ⟨l,vs,rfl,m2,a⟩ z (λH' z'=>?_);have zg':Sep ([pt B (wn (R.cad 16) dx [("blocks",sK d1),("counts",sK d2)]),pt d1 (.dK kb),pt d2 (.dK (g7 cs))]++G++F) H':=by simpa only [jp,cons_append,nil_append] using z'
   have e':=fz m1 zg';have e3:=fz m3 zg';right;refine aL e' rfl rfl rfl ?_;right;refine bb e3 ?_;right;refine dv (λg=>?_) (λg=>?_)
   .right;have:=q H' z';have hc:c.length=0:=by rw[<-a'.1];omega
    have hc2:c=[]:=length_eq_zero_iff.mp hc;subst hc2;have e:ow (bL cs) (n+1) (.whn o b [])=1+cG (bL cs) n b:=by show 1+(b.map _).sum+0+(if 0=0 then 0 else 1)=1+(b.map _).sum;simp
    rw[e]at this;exact this
   .right;refine aL e' rfl rfl rfl ?_;right;refine ih n rfl nofun ok.2.2 ⟨l',vs',rfl,m3,a'⟩ z' (λH2 z2=>?_);have:=q H2 z2;have hc:c.length≠0:=by rw[<-a'.1];omega
    have e:ow (bL cs) (n+1) (.whn o b c)=1+cG (bL cs) n b+1+cG (bL cs) n c:=by show 1+(b.map _).sum+(c.map _).sum+(if c.length=0 then 0 else 1)=1+(b.map _).sum+1+(c.map _).sum;rw[if_neg hc];omega
    rw[e]at this;exact this
def kF (ro:Ro K R)(hi:xW K R B dx d1 d2 kb cs ns F n):tD K R B dx d1 d2 kb cs ns F n:=by
 intro k G v b H Q E hk ok hv z q;obtain⟨l,vs,rfl,m,a⟩:=hv;have zg:∀ {H:Hp}{A:List ah},Sep (A++aE R B dx d1 d2 kb cs (G++F)) H->H l=some (v0 vs):=λ{H A} z=>by
  refine fz (G:=A++[pt B (wn (R.cad 16) dx [("blocks",sK d1),("counts",sK d2)]),pt d1 (.dK kb),pt d2 (.dK (g7 cs))]++G) m ?_;simpa only [jp,cons_append,nil_append] using z
 delta dw;right;refine pq (zg (A:=[]) z) ?_;have hl:vs.length<=30:=by rw[a.1];exact ok.1
 refine yM (xs:=vs) nofun (λD ys H=>ys=((b.take ys.length).map (ow (bL cs) n)).map tz/\Sep (pt D (v0 ys)::aE R B dx d1 d2 kb cs (G++F)) H) (λD ys H hI=>aK.of (zg (A:=[_]) hI.2)) (λD hD=>⟨rfl,z.new (o:=v0 []) hD⟩) (λD ys x H hx hI=>?_) (λD ys H hl2 hI=>?_)
 .obtain⟨e,z1⟩:=hI;obtain⟨i,hb,hi2⟩:=a.get hx;have hyl:=(s0.mp hx).1;have z2:Sep (aE R B dx d1 d2 kb cs ((pt D (v0 ys)::G)++F)) H:=z1.sub (.cons .k1 (.cons .k1 (.cons .k1 .refl)));right;refine hi (k:=k-1) (G:=pt D (v0 ys)::G) nofun (ok.2 i (cr hb)) hi2 z2 (λH' z3=>?_);have z4:Sep (pt D (v0 ys)::aE R B dx d1 d2 kb cs (G++F)) H':=z3.pull .k3;refine ql.mk z4.at nofun ⟨?_,z4.set rfl⟩;rw[ci,f8,take_succ,hb];simp only[Option.toList_some,dL,map_cons,List.map_nil];rw[<-e]
 .obtain⟨e,z1⟩:=hI;left;refine Ay (K:=K) (ns:=b.map (ow (bL cs) n)) rfl ?_ (q _ z1.drop);rw[z1.at,e,hl2,a.1,take_of_length_le (pc _)]
def sU (ro:Ro K R)(hns:∀ w ∈ ns,w ∈ cs.map (·.1)):∀ n,tD K R B dx d1 d2 kb cs ns F n
 |0=>kF ro (o9 ro hns λm e=>absurd e nofun)
 |n+1=>kF ro (o9 ro hns λm e=>by cases e;exact sU ro hns n)
end
def toF {L G F:List ah}(z:Sep (L++(G++F)) H):Sep (G++(L++F)) H:=Sep.mv (P:=[]) z
def aa {A:ah}{L F:List ah}:A ∈ F->A ∈ L++F:=gt L
section
variable {F G:List ah}{v:V}{n:Nat}{ns:List Str}{x dx p p':Addr}{vs vs':List V}
def kJ (hk:1<=k)(z:Sep (pt x (wn (R.cad 13) dx [])::O) H)(q:∀ H',Sep (pt x (wn (R.cad 13) dx [("called",ul w)])::O) H'->Q ut H'):ae tab R k 28 [sK x,ul w] H Q E:=by
 delta dC;right;exact q _ (by assumption)
def g6 (hk:1<=k)(hp:pt p (v0 vs) ∈ F)(z:Sep (pt x (wn (R.cad 14) dx [])::(G++F)) H)(q:∀ l H',Sep (pt x (wn (R.cad 14) dx [("many",tz m),("block",sK l)])::pt l (v0 vs)::(G++F)) H'->Q ut H'):ae tab R k 30 [sK x,tz m,sK p] H Q E:=by
 delta cg;right;rename_i H1 z1;refine bB z1 (fz (G:=_::G) hp z1) (λl H2 z2=>?_);right;rename_i H3 z3;exact q l _ (z3.pull .k1)
def pw {o:Int}(hk:1<=k)(hp:pt p (v0 vs) ∈ F)(hp':pt p' (v0 vs') ∈ F)(z:Sep (pt x (wn (R.cad 15) dx [])::(G++F)) H)(q:∀ l l' H',Sep (pt x (wn (R.cad 15) dx [("on",tz o),("block",sK l),("other",sK l')])::pt l (v0 vs)::pt l' (v0 vs')::(G++F)) H'->Q ut H'):ae tab R k 32 [sK x,tz o,sK p,sK p'] H Q E:=by
 delta bq;right;rename_i H1 z1;refine bB z1 (fz (G:=_::G) hp z1) (λl H2 z2=>?_);right;rename_i H3 z3;refine nu ?_;right;refine bB z3 (fz (G:=_::_::G) hp' z3) (λl' H4 z4=>?_);right;rename_i H5 z5;exact q l l' _ (z5.sub (.cons .k2 (.cons .k1 (.cons .e .refl))))
def iI {o:Int}(hk:1<=k)(hp:pt p (v0 vs) ∈ F)(z:Sep (pt x (wn (R.cad 15) dx [])::(G++F)) H)(q:∀ l l' H',Sep (pt x (wn (R.cad 15) dx [("on",tz o),("block",sK l),("other",sK l')])::pt l (v0 vs)::pt l' (v0 [])::(G++F)) H'->Q ut H'):ae tab R k 32 [sK x,tz o,sK p,ut] H Q E:=by
 delta bq;right;rename_i H1 z1;refine bB z1 (fz (G:=_::G) hp z1) (λl H2 z2=>?_);right;rename_i H3 z3;refine nu ?_;right;rename_i l' H4 z4 H5 z5;exact q l l' _ (z5.sub (.cons .k2 (.cons .k1 (.cons .e .refl))))
end
def Bi {x:Key}(e:Rd H a (.dK kvs))(q:Q (.bl (cz kvs x).isSome) H):uI K false (kV x) (sK a) H Q:=by unfold uI;exact .inr (.inl ⟨_,(show qy H a (kV x) (cz kvs x) from .inl ⟨kvs,x,e,rfl,rfl⟩),q⟩)
def qZ {x:Key}(h:x ∈ kvs.map (·.1)):(cz kvs x).isSome=true:=by
 rw[<-eg,any_eq_true];obtain⟨kv,m,e⟩:=List.mem_map.mp h;exact⟨kv,m,decide_eq_true e⟩
def ux {x:Key}(h:¬ x ∈ kvs.map (·.1)):(cz kvs x).isSome=false:=by
 rw[<-eg,Bool.eq_false_iff];intro z;obtain⟨kv,m,e⟩:=any_eq_true.mp z;exact h (List.mem_map.mpr ⟨kv,m,of_decide_eq_true e⟩)
section
variable {B dx d1 d2:Addr}{kb:List (Key×V)}{cs:List (Str×Int)}{ns:List Str}{F G:List ah}{v:V}{n:Nat}
def xQ (hk:1<=k)(z:Sep (aE R B dx d1 d2 kb cs O) H)(q:Q (.bl (cz kb (.inr w)).isSome) H):ae tab R k 40 [sK B,ul w] H Q E:=by
 delta g9;right;exact Bi (x:=.inr w) (.inl (z.get .k1)) q
abbrev tY (K:W.Frag)(R:Rt)(B dx d1 d2:Addr)(kb:List (Key×V))(cs:List (Str×Int))(ns:List Str)(F:List ah)(n:Nat):Prop:=∀ {k:Nat}{G:List ah}{v:V}{b:List Itm}{H:Hp}{Q:VK}{E:XK},n+2<=k->lH ns n b->jW R F n v b->Sep (aE R B dx d1 d2 kb cs (G++F)) H->(∀ H',Sep (aE R B dx d1 d2 kb cs (G++F)) H'->Q ut H')->ae tab R k 35 [sK B,v] H Q E
def sM (ro:Ro K R)(hns:∀ w ∈ ns,Sum.inr w ∈ kb.map (·.1)) (ih:∀ m,n=m+1->tY K R B dx d1 d2 kb cs ns F m):tY K R B dx d1 d2 kb cs ns F n:=by
 intro k G v b H Q E hk ok hv z q;obtain⟨l,vs,rfl,m,a⟩:=hv;have zg:∀ {H:Hp}{d:Addr}{o:HO}{A:List ah},pt d o ∈ F->Sep (A++aE R B dx d1 d2 kb cs (G++F)) H->H d=some o:=λ{H d o A} m z=>by
  refine fz (G:=A++[pt B (wn (R.cad 16) dx [("blocks",sK d1),("counts",sK d2)]),pt d1 (.dK kb),pt d2 (.dK (g7 cs))]++G) m ?_;simpa only [jp,cons_append,nil_append] using z
 delta dB;right;refine pq (zg (A:=[]) m z) ?_;have hl:vs.length<=30:=by rw[a.1];exact ok.1
 refine gj (xs:=vs) (λj U H=>∃ u,U=[some (sK B),some (sK l),u]/\Sep (aE R B dx d1 d2 kb cs (G++F)) H) ⟨_,rfl,z⟩ ?_ ?_ ?_
 .rintro j U H ⟨u,rfl,z⟩;exact aK.of (zg (A:=[]) m z)
 .rintro j x U H hx ⟨u,rfl,z⟩;obtain⟨i,hb,hi⟩:=a.get hx;have ok:=ok.2 i (cr hb);cases i with
  |row r=>
   obtain⟨d,rfl,m⟩:∃ d,x=sK d/\aI R d r ∈ F:=by cases n<;>exact hi
   obtain⟨y,fs,e⟩:=Bs (G:=[pt B (wn (R.cad 16) dx [("blocks",sK d1),("counts",sK d2)]),pt d1 (.dK kb),pt d2 (.dK (g7 cs))]++G) m (by simpa only [jp,cons_append,nil_append] using z);obtain⟨o1,o2,o3,o4⟩:=lV r;right;refine ax e o1 o2 ?_;right;refine λp hp=>jf z o1 e (b:=false) (by show(match tab.sub.lookup (r.cl,14) with|some true=>some true|some false=>(match tab.sub.lookup (r.cl,15) with|some true=>some true|some false=>some false|none=>none)|none=>none)=_;rw[o3,o4]) (λp H2 z2=>?_) p hp
   right;obtain⟨y,fs,e⟩:=Bs (G:=[pt B (wn (R.cad 16) dx [("blocks",sK d1),("counts",sK d2)]),pt d1 (.dK kb),pt d2 (.dK (g7 cs))]++G) m (by simpa only [jp,cons_append,nil_append] using z2.drop);refine ax e o1 o4 ?_;right;exact⟨_,rfl,z2.drop⟩
  |dO w=>
   obtain⟨d,y,rfl,m⟩:∃ d dx,x=sK d/\pt d (wn (R.cad 13) dx [("called",ul w)]) ∈ F:=by cases n<;>exact hi
   have ok':w ∈ ns:=by cases n<;>exact ok
   have e:=zg (A:=[]) m z;right;refine ax e rfl rfl ?_;right;refine⟨_,16,_,_,_,rfl,z.at,rfl,rfl,?_⟩;right;refine aL e rfl rfl rfl ?_;refine xQ nofun z ?_;rw[qZ (hns w ok')];right;refine λp hp=>jf z rfl e (b:=false) rfl (λp H2 z2=>?_) p hp
   right;refine ax (zg (A:=[]) m z2.drop) rfl rfl ?_;right;exact⟨_,rfl,z2.drop⟩
  |tms t c=>
   cases n with
   |zero=>exact hi.elim
   |succ n=>
    obtain⟨d,y,l1,vs1,rfl,m1,m2,a1⟩:=hi;have e:=zg (A:=[]) m1 z;right;refine ax e rfl rfl ?_;right;refine λp hp=>jf z rfl e (b:=true) rfl (λp H2 z2=>?_) p hp
    right;refine aL (zg (A:=[]) m1 z2.drop) rfl rfl rfl ?_;right;refine ih n rfl nofun ok.2 ⟨l1,vs1,rfl,m2,a1⟩ z2.drop (λH3 z3=>?_);right;refine ax (zg (A:=[]) m1 z3) rfl rfl ?_;right;exact⟨_,rfl,z3⟩
  |whn t c c2=>
   cases n with
   |zero=>exact hi.elim
   |succ n=>
    obtain⟨d,y,l1,vs1,l2,vs2,rfl,m1,⟨m2,a1⟩,m3,a2⟩:=hi;have e:=zg (A:=[]) m1 z;right;refine ax e rfl rfl ?_;right;refine λp hp=>jf z rfl e (b:=true) rfl (λp H2 z2=>?_) p hp
    right;refine aL (zg (A:=[]) m1 z2.drop) rfl rfl rfl ?_;right;refine ih n rfl nofun ok.2.1 ⟨l1,vs1,rfl,m2,a1⟩ z2.drop (λH3 z3=>?_);right;refine ax (zg (A:=[]) m1 z3) rfl rfl ?_;right;refine aL (zg (A:=[]) m1 z3) rfl rfl rfl ?_;right;refine ih n rfl nofun ok.2.2 ⟨l2,vs2,rfl,m3,a2⟩ z3 (λH4 z4=>?_);right;exact⟨_,rfl,z4⟩
 .rintro U H ⟨u,rfl,z⟩;right;exact q _ z
def mM (ro:Ro K R)(hns:∀ w ∈ ns,Sum.inr w ∈ kb.map (·.1)):∀ n,tY K R B dx d1 d2 kb cs ns F n
 |0=>sM ro hns λm e=>absurd e nofun
 |n+1=>sM ro hns λm e=>by cases e;exact mM ro hns n
end
def ou {x:Key}(h:¬ x ∈ kvs.map (·.1)):putK kvs x v=kvs++[(x,v)]:=by
 unfold putK;rw[if_neg];intro z;obtain⟨kv,m,e⟩:=any_eq_true.mp z;exact h (List.mem_map.mpr ⟨kv,m,of_decide_eq_true e⟩)
abbrev g5 (ns:List Str):List Key:=ns.map Sum.inr
def cS {ns:List Str}:Sum.inr w ∈ g5 ns ↔ w ∈ ns:=by
 unfold g5;rw[List.mem_map];exact⟨λ⟨x,h,e⟩=>by cases e;exact h,λh=>⟨w,h,rfl⟩⟩
def sJ (cs:List (Str×Int)):(g7 cs).map (·.1)=g5 (cs.map (·.1)):=by
 unfold g7 g5;rw[List.map_map,List.map_map]
 rfl
section
variable {B dx d1 d2:Addr}{kb:List (Key×V)}{cs:List (Str×Int)}{ns:List Str}{F G:List ah}{v:V}{n:Nat}
def rJ (hk:1<=k)(z:Sep (pt B (wn (R.cad 16) dx [])::O) H)(q:∀ d1 d2 H',Sep (aE R B dx d1 d2 [] [] O) H'->Q ut H'):ae tab R k 39 [sK B] H Q E:=by
 delta cE;right;rename_i d1 H1 z1 H2 z2 d2 H3 z3 H4 z4;exact q d1 d2 _ (z4.sub (.cons .k2 (.cons .k1 (.cons .e .refl))))
variable {b:List Itm}
def Aj (ro:Ro K R)(hk:3*n+4<=k)(hw:Nm w)(hb:kb.map (·.1)=g5 (cs.map (·.1)))(hl:cs.length<=100)(hn:w ∉ cs.map (·.1))(hns:∀ w ∈ ns,w ∈ cs.map (·.1)) (ok:lH ns n b) (hv:jW R F n v b) (z:Sep (aE R B dx d1 d2 kb cs (G++F)) H)
  (q:∀ l vs H',aT (kN R F n) vs b->Sep (aE R B dx d1 d2 (kb++[(.inr w,sK l)]) (cs++[(w,cG (bL cs) n b)]) (pt l (v0 vs)::(G++F))) H'->Q ut H'):ae tab R k 41 [sK B,ul w,v] H Q E:=by
 delta fT;right;refine uw ro nofun hw z (λH1 z1=>?_);right;refine⟨_,16,_,_,_,rfl,z1.at,rfl,rfl,?_⟩;right;refine xQ nofun z1 ?_;rw[ux (by rw[hb,cS];exact hn)];right;refine mM ro (λw h=>by rw[hb,cS];exact hns w h) n nofun ok hv z1 (λH2 z2=>?_);right;refine sU ro hns n nofun ok hv z2 (λH3 z3=>?_);right;refine xV (k:=.inr w) z3 .k2 (by unfold g7;rw[ce];omega) (ou (by rw[sJ,cS];exact hn)) (λH4 z4=>?_);obtain⟨l0,vs,rfl,m,a⟩:=hv;right;refine bB z4 (fz (G:=[_,_,_]++G) m z4) (λl H5 z5=>?_);right;have hbl:kb.length<=10000:=by
  have:=congrArg List.length hb;unfold g5 at this;rw[ce,ce,ce]at this
  omega
 refine xV (k:=.inr w) z5 .k2 hbl (ou (by rw[hb,cS];exact hn)) (λH6 z6=>?_);right;have e:g7 (cs++[(w,cG (bL cs) n b)])=g7 cs++[(.inr w,tz (cG (bL cs) n b))]:=by unfold g7;rw[dL];rfl
 refine q l vs _ a ?_;unfold aE;rw[e];exact z6.sub (.cons .k1 (.cons .k1 (.cons .k1 (.cons .e .refl))))
def qx (ro:Ro K R)(hk:3*n+4<=k)(hb:kb.map (·.1)=g5 (cs.map (·.1)))(hns:∀ w ∈ ns,w ∈ cs.map (·.1)) (ok:lH ns n b) (hv:jW R F n v b) (z:Sep (aE R B dx d1 d2 kb cs (G++F)) H) (q:∀ H',Sep (aE R B dx d1 d2 kb cs (G++F)) H'->Q (tz (cG (bL cs) n b)) H'):ae tab R k 44 [sK B,v] H Q E:=by
 delta g0;right;refine mM ro (λw h=>by rw[hb,cS];exact hns w h) n nofun ok hv z (λH2 z2=>?_);right;exact sU ro hns n nofun ok hv z2 q
end
abbrev ot (R:Rt)(F:List ah)(kb:List (Key×V))(N:List (Str×List Itm)):Prop:=∀ w b,(w,b) ∈ N->∃ l,cz kb (.inr w)=some (sK l)/\jW R F 2 (sK l) b
section
variable {F G:List ah}{nd cd:Addr}{kvs:List (Key×V)}{N:List (Str×List Itm)}
end
section
variable {B dx d1 d2 cd:Addr}{kb:List (Key×V)}{cs:List (Str×Int)}{ns:List Str}{F G:List ah}{v:V}{n:Nat}
end
abbrev pre (h:List Int)(L:List (List Int×Rw)):List (List Int×Rw):=L.map λp=>(h++p.1,p.2)
abbrev bh (f:Itm->List (List Int×Rw)):Nat->List Itm->List (List Int×Rw)
 |_,[]=>[]
 |j,i::b=>pre [(j:Int)] (f i)++bh f (j+1) b
abbrev qG (o:Int)(one oth:List (List Int×Rw))(e:Bool):List (List Int×Rw):=match e with
 |true=>([],.hop one.length (some (1-o)))::one
 |false=>([],.hop (one.length+1) (some (1-o)))::(one++([2],.hop oth.length none)::oth)
abbrev bE (nb:Str->List Itm):Nat->Itm->List (List Int×Rw)
 |_,.row r=>[([],r)]
 |n+1,.dO w=>bh (bE nb n) 0 (nb w)
 |n+1,.tms m b=>((List.range m.toNat).map λt:Nat=>pre [(t:Int)] (bh (bE nb n) 0 b)).flatten
 |n+1,.whn o b c=>qG o (pre [0] (bh (bE nb n) 0 b)) (pre [1] (bh (bE nb n) 0 c)) (c.length ==0)
 |0,.dO _=>[]
 |0,.tms _ _=>[]
 |0,.whn _ _ _=>[]
noncomputable abbrev bc (nb:Str->List Itm)(n:Nat)(b:List Itm):List (List Int×Rw):=bh (bE nb n) 0 b
variable {L:List (List Int×Rw)}
def ag:(pre h L).length=L.length:=by unfold pre;rw[ce]
def gv {h':List Int}:pre h (pre h' L)=pre (h++h') L:=by
 unfold pre;rw[List.map_map];refine List.map_congr_left λp _=>?_
 show(h++(h'++p.1),p.2)=(h++h'++p.1,p.2);rw[jp]
def pre_app {L':List (List Int×Rw)}:pre h (L++L')=pre h L++pre h L':=by unfold pre;rw[dL]
def nQ {f:Itm->List (List Int×Rw)}{i:Itm}:∀ {b:List Itm}{j:Nat},bh f j (b++[i])=bh f j b++pre [((j+b.length:Nat):Int)] (f i)
 | [],j=>by
  show pre [(j:Int)] (f i)++[]=[]++pre [((j+0:Nat):Int)] (f i);rw[append_nil,nil_append,Nat.add_zero]
 |x::b,j=>by
  show pre [(j:Int)] (f x)++bh f (j+1) (b++[i])=(pre [(j:Int)] (f x)++bh f (j+1) b)++pre [((j+(b.length+1):Nat):Int)] (f i);rw[nQ,jp,show j+1+b.length=j+(b.length+1) by omega]
structure rG (Nl:List (Str×List Itm)) (nb:Str->List Itm) (c:Str->Int):Prop where
 at_:∀ j w b,Nl[j]? =some (w,b)->nb w=b/\lH ((Nl.take j).map (·.1)) 2 b/\c w=cG c 2 b
variable {Nl:List (Str×List Itm)}{nb:Str->List Itm}
def rG.mem {i:Nat}(h:rG Nl nb c)(hw:w ∈ (Nl.take i).map (·.1)):∃ j,j<i/\lH ((Nl.take j).map (·.1)) 2 (nb w)/\c w=cG c 2 (nb w)/\Nl[j]? =some (w,nb w):=by
 obtain⟨⟨w',b⟩,hm,rfl⟩:=List.mem_map.mp hw;obtain⟨j,hj⟩:=mem_iff_getElem?.mp hm;have hj1:=(s0.mp hj).1;rw[db]at hj1;rw[List.getElem?_take_of_lt nofun]at hj;obtain⟨e,o,cc⟩:=h.at_ j _ _ hj;exact⟨j,by omega,by rw[e];exact o,by rw[e];exact cc,by rw[e];exact hj⟩
def c8 {f:Itm->List (List Int×Rw)}{g:Itm->Int}:∀ {b:List Itm}{j:Nat},(∀ i ∈ b,((f i).length:Int)=g i)->((bh f j b).length:Int)=(b.map g).sum
 | [],j,_=>rfl
 |x::b,j,h=>by
  show((pre [(j:Int)] (f x)++bh f (j+1) b).length:Int)=((x::b).map g).sum;rw[ci,ag,map_cons,sum_cons,Int.natCast_add,h x lf,c8 λi hi=>h i (dl _ hi)]
def Az (h:rG Nl nb c):∀ {f n i:Nat}{it:Itm},n+4*i<=f->uh ((Nl.take i).map (·.1)) n it->((bE nb f it).length:Int)=ow c n it:=by
 intro f
 induction f with
 |zero=>
  intro n i it hf ok;cases it with
  |row r=>cases n<;>rfl
  |dO w=>
   have hw:w ∈ (Nl.take i).map (·.1):=by cases n<;>exact ok
   obtain⟨j,hj,_⟩:=h.mem hw
   omega
  |tms m b=>cases n with
   |zero=>exact ok.elim
   |succ n=>omega
  |whn o b d=>cases n with
   |zero=>exact ok.elim
   |succ n=>omega
 |succ f ih=>
  intro n i it hf ok;cases it with
  |row r=>cases n<;>rfl
  |dO w=>
   have hw:w ∈ (Nl.take i).map (·.1):=by cases n<;>exact ok
   obtain⟨j,hj,okj,cj,_⟩:=h.mem hw;have e:((bE nb (f+1) (.dO w)).length:Int)=cG c 2 (nb w):=c8 λx hx=>ih (n:=2) (i:=j) nofun (okj.2 x hx)
   rw[e,<-cj];cases n<;>rfl
  |tms m b=>cases n with
   |zero=>exact ok.elim
   |succ n=>
    have e:((bh (bE nb f) 0 b).length:Int)=cG c n b:=c8 λx hx=>ih (n:=n) (i:=i) nofun (ok.2.2 x hx)
    have e2:∀ (L:List (List Int×Rw)) (k:Nat),(((List.range k).map λt:Nat=>pre [(t:Int)] L).flatten.length:Int)=(k:Int)*(L.length:Int):=by
     intro L k
     induction k with
     |zero=>simp
     |succ k ihk=>
      rw[List.range_succ,dL,List.flatten_append,ci,Int.natCast_add,ihk];simp[ag,Int.add_mul]
    show((((List.range m.toNat).map λt:Nat=>pre [(t:Int)] (bh (bE nb f) 0 b)).flatten.length:Nat):Int)=m*cG c n b;rw[e2,e,Int.toNat_of_nonneg ok.1.1]
  |whn o b d=>cases n with
   |zero=>exact ok.elim
   |succ n=>
    have e:((bh (bE nb f) 0 b).length:Int)=cG c n b:=c8 λx hx=>ih (n:=n) (i:=i) nofun (ok.2.1.2 x hx)
    have e2:((bh (bE nb f) 0 d).length:Int)=cG c n d:=c8 λx hx=>ih (n:=n) (i:=i) nofun (ok.2.2.2 x hx)
    show((qG o (pre [0] (bh (bE nb f) 0 b)) (pre [1] (bh (bE nb f) 0 d)) (d.length ==0)).length:Int)=1+cG c n b+cG c n d+(if d.length=0 then 0 else 1)
    by_cases hd:d.length=0
    .have hd':d=[]:=length_eq_zero_iff.mp hd;subst hd';show(((pre [0] (bh (bE nb f) 0 b)).length+1:Nat):Int)=1+cG c n b+0+0;rw[ag]
     omega
    .rw[if_neg hd,show(d.length ==0)=false from beq_eq_false_iff_ne.mpr hd];unfold qG;rw[length_cons,ci,length_cons,ag,ag]
     omega
def e9 {f i:Nat}{b:List Itm}(h:rG Nl nb c)(hf:n+4*i<=f)(ok:lH ((Nl.take i).map (·.1)) n b):((bc nb f b).length:Int)=cG c n b:=c8 λx hx=>Az h hf (ok.2 x hx)
def et {f:Itm->List (List Int×Rw)}{K:Nat}:∀ {b:List Itm}{j:Nat},(∀ i ∈ b,∀ p ∈ f i,p.1.length<=K)->∀ p ∈ bh f j b,p.1.length<=K+1
 | [],j,_,p,hp=>by cases hp
 |x::b,j,h,p,hp=>by
  rcases mem_append.mp hp with hp|hp
  .obtain⟨p',hp',rfl⟩:=List.mem_map.mp hp;have:=h x lf p' hp';show([(j:Int)]++p'.1).length<=K+1;rw[ci];simp
   omega
  .exact et (λi hi=>h i (dl _ hi)) p hp
def o6:∀ {f:Nat}{it:Itm},∀ p ∈ bE nb f it,p.1.length<=2*f+1:=by
 intro f
 induction f with
 |zero=>
  intro it p hp;cases it with
  |row r=>rw[mem_singleton.mp hp];exact Nat.zero_le _
  |dO w=>cases hp
  |tms m b=>cases hp
  |whn o b c=>cases hp
 |succ f ih=>
  intro it p hp;have hb:∀ b:List Itm,∀ p ∈ bh (bE nb f) 0 b,p.1.length<=2*f+1+1:=λb=>et λi _=>ih
  have hpre:∀ (t:Int) (b:List Itm),∀ p ∈ pre [t] (bh (bE nb f) 0 b),p.1.length<=2*f+3:=λt b p hp=>by
   obtain⟨p',hp',rfl⟩:=List.mem_map.mp hp;have:=hb b p' hp';show([t]++p'.1).length<=_;rw[ci];simp
   omega
  cases it with
  |row r=>rw[mem_singleton.mp hp];exact Nat.zero_le _
  |dO w=>have:=hb _ p hp;omega
  |tms m b=>
   obtain⟨L,hL,hp⟩:=List.mem_flatten.mp hp;obtain⟨t,_,rfl⟩:=List.mem_map.mp hL;have:=hpre t b p hp
   omega
  |whn o b c=>
   have hp':p ∈ qG o (pre [0] (bh (bE nb f) 0 b)) (pre [1] (bh (bE nb f) 0 c)) (c.length ==0):=hp;have one:∀ p ∈ pre [0] (bh (bE nb f) 0 b),p.1.length<=2*(f+1)+1:=λp hp=>by have:=hpre 0 b p hp;omega
   have oth:∀ p ∈ pre [1] (bh (bE nb f) 0 c),p.1.length<=2*(f+1)+1:=λp hp=>by have:=hpre 1 c p hp;omega
   unfold qG at hp'
   split at hp'
   .rcases li.mp hp' with rfl|hp'
    .exact Nat.zero_le _
    .exact one p hp'
   .rcases li.mp hp' with rfl|hp'
    .exact Nat.zero_le _
    .rcases mem_append.mp hp' with hp'|hp'
     .exact one p hp'
     .rcases li.mp hp' with rfl|hp'
      .show 1<=_;omega
      .exact oth p hp'
@[irreducible] noncomputable def mG (I:Addr->List V->Hp->Prop) (D:Addr) (ys:List V) (rest:St) (x y:Option V):VK:=λv H3=>∃ zs,H3 D=some (v0 zs)/\zs.length<bn/\∃ ys2 x2 x3,x::y::rest=x2::x3::rest/\ys2.length=ys.length+1/\I D ys2 (upd H3 D (v0 (zs++[v])))
def mG.mk {I:Addr->List V->Hp->Prop}{D:Addr}{ys:List V}{x y:Option V}{H3:Hp}(h1:H3 D=some (v0 ys))(hl:ys.length<=999)(h2:I D (ys++[v]) (upd H3 D (v0 (ys++[v])))):mG I D ys rest x y v H3:=
 by unfold mG;exact⟨ys,h1,cf nofun,ys++[v],x,y,rfl,by simp,h2⟩
def kU {te:TE}(hn:xs.length<=1000)(I:Addr->List V->Hp->Prop)(hl:∀ D ys H,I D ys H->aK R.K H a xs) (h0:∀ D,H D=none->I D [] (upd H D (v0 [])))
  (hs:∀ D ys x H',xs[ys.length]? =some x->I D ys H'->∃ t v1 v2,x=sK t/\bp R.K H' t [v1,v2]/\te (some v1::some v2::rest) H' (mG I D ys rest (some v1) (some v2)))
  (hd:∀ D ys H',ys.length=xs.length->I D ys H'->Q (sK D) H'):LCt R.K 2 te (yb R.K a) (none::none::rest) H Q:=by
 unfold LCt;intro D hD;refine⟨λi m σ' H'=>m=xs.length-i/\i<=xs.length/\∃ ys x0 x1,σ'=x0::x1::rest/\ys.length=i/\I D ys H',⟨xs.length,by simp,Nat.zero_le _,[],none,none,rfl,rfl,h0 D hD⟩,λi m σ' H' ⟨e,hi,ys,x0,x1,e1,e2,h⟩=>?_⟩;subst e1 e2
 by_cases hlt:ys.length<xs.length
 .refine .inr ⟨⟨xs,xs[ys.length],hl D ys H' h,le hlt⟩,λσ2 H2=>∃ ys2 x2 x3,σ2=x2::x3::rest/\ys2.length=ys.length+1/\I D ys2 H2,λσ2 H2 ⟨ys2,x2,x3,f1,f2,f3⟩=>⟨xs.length-(ys.length+1),by omega,rfl,hlt,ys2,x2,x3,f1,f2,f3⟩,λx H'' y=>?_⟩;obtain⟨e1,hy⟩:=y;subst e1;obtain⟨t,v1,v2,rfl,ht,z⟩:=hs D ys x H'' (hy xs (hl D ys H'' h)) h;refine⟨t,[v1,v2],rfl,ht,rfl,rfl,?_⟩;unfold mG at z;exact⟨λ_=>z,λe=>nomatch e⟩
 .have:ys.length=xs.length:=by omega
  exact .inl ⟨⟨xs,hl D ys H' h,Nat.le_of_eq this.symm⟩,hd D ys H' this h⟩
def yE (s:Sep O H){b:Addr}{ys:List V}(e1:H a=some (wf xs))(e2:H b=some (wf ys))(hx:xs≠[])(hl:xs.length+ys.length<=1000)(h:∀ p H',Sep (tu p (xs++ys)::O) H'->Q (sK p) H'):qz K a b H Q:=by
 unfold qz;refine .inr (show sR K (sK a) (sK b) H Q from⟨a,b,xs,ys,rfl,rfl,bp.of e1,bp.of e2,hx,by unfold bn;omega,λe=>?_,λ_ p hp=>h p _ (s.dZ hp)⟩);subst e;refine h a H (Sep.Dk ?_ s);rw[append_nil];exact e1
abbrev d6 (X:Addr->Rw->ah)(F:List ah)(v:V)(p:List Int×Rw):Prop:=∃ T P d,v=sK T/\tu T [sK P,sK d] ∈ F/\tu P (p.1.map tz) ∈ F/\X d p.2 ∈ F
def d6.mono {X:Addr->Rw->ah}{F F':List ah}(up:∀ A ∈ F,A ∈ F'){p:List Int×Rw}:d6 X F v p->d6 X F' v p:=λ⟨T,P,d,e,h1,h2,h3⟩=>⟨T,P,d,e,up _ h1,up _ h2,up _ h3⟩
def aT.app {P:V->α->Prop}{vs':List V}{b b':List α}(h:aT P vs b)(h':aT P vs' b'):aT P (vs++vs') (b++b'):=by
 refine⟨by rw[ci,ci,h.1,h'.1],λj x y h1 h2=>?_⟩
 by_cases hj:j<vs.length
 .rw[getElem?_append_left hj]at h1;rw[getElem?_append_left (h.1▸hj)]at h2;exact h.2 j x y h1 h2
 .rw[getElem?_append_right nofun]at h1;rw[getElem?_append_right (by rw[<-h.1];omega),<-h.1]at h2;exact h'.2 _ x y h1 h2
def aT.cons {α:Type}{P:V->α->Prop}{v:V}{vs:List V}{i:α}{b:List α}(p:P v i)(h:aT P vs b):aT P (v::vs) (i::b):=aT.app (vs:=[v]) (b:=[i]) (aT.snoc (α:=α) aT.nil p) h
section
variable {X:Addr->Rw->ah}{F G:List ah}{hd l:Addr}{h:List Int}{vs:List V}{L:List (List Int×Rw)}
def uz {te:TE}(hh:tu hd (h.map tz) ∈ F)(h0:h≠[])(h2:h.length<=10)(hp:∀ p ∈ L,p.1.length<=300) (hl:vs.length<=100) (a:aT (d6 X F) vs L) (z:Sep (pt l (v0 vs)::(G++F)) H)
  (hte:∀ {v1 v2:V}{H:Hp}{Q:VK},vR R.K .Add (sK hd) v1 H (λx H1=>dZ [x,v2] H1 Q)->te (some v1::some v2::rest) H Q)
  (q:∀ l' vs' Δ H',aT (d6 X (Δ++F)) vs' (pre h L)->Sep (pt l' (v0 vs')::pt l (v0 vs)::(G++(Δ++F))) H'->Q (sK l') H'):LCt R.K 2 te (yb R.K l) (none::none::rest) H Q:=by
 refine kU (xs:=vs) nofun (λD ys H=>∃ Δ,aT (d6 X (Δ++F)) ys ((pre h L).take ys.length)/\Sep (pt D (v0 ys)::pt l (v0 vs)::(G++(Δ++F))) H) (λD ys H ⟨Δ,_,z⟩=>aK.of (z.get .k1)) (λD hD=>⟨[],.nil,z.new (o:=v0 []) hD⟩) (λD ys x H hx hI=>?_) (λD ys H hl2 hI=>?_)
 .obtain⟨Δ,a1,z1⟩:=hI;obtain⟨p,hp1,T,P,d,rfl,m1,m2,m3⟩:=a.get hx;have hyl:=(s0.mp hx).1;have zg:Sep ((pt D (v0 ys)::pt l (v0 vs)::G)++(Δ++F)) H:=z1;refine⟨T,sK P,sK d,rfl,bp.of (CH (aa m1) zg),hte ?_⟩;refine yE (K:=R.K) z1 (CH (aa hh) zg) (CH (aa m2) zg) (λe=>h0 (List.map_eq_nil_iff.mp e)) (by rw[ce,ce];have:=hp p (cr hp1);omega) (λP' H2 z2=>?_);refine cW z2 (by show 2<=10000;omega) (λT' H3 z3=>?_);have z3:=z3.toT;have z4:Sep (pt D (v0 ys)::pt l (v0 vs)::(G++([tu T' [sK P',sK d],tu P' (h.map tz++p.1.map tz)]++(Δ++F)))) H3:=Sep.mv (P:=[_,_]) (Δ:=[tu T' _,tu P' _]) (L:=G) (O:=Δ++F) (z3.sub (.cons .k2 (.cons .k2 .refl)));refine mG.mk z4.at nofun ⟨[tu T' [sK P',sK d],tu P' (h.map tz++p.1.map tz)]++Δ,?_,?_⟩
  .have e:(pre h L)[ys.length]? =some (h++p.1,p.2):=by unfold pre;rw[ii,hp1];rfl
   rw[ci,f8,take_succ,e,jp];exact(a1.map λv i=>d6.mono λA=>aa).snoc ⟨T',P',d,rfl,lf,by rw[dL];exact dl _ lf,aa (aa m3)⟩
  .rw[jp];exact z4.set rfl
 .obtain⟨Δ,a1,z1⟩:=hI;rw[hl2,a.1,take_of_length_le (by rw[ag];exact pc _)]at a1;exact q D ys Δ H a1 z1
def oy (hk:1<=k)(hh:tu hd (h.map tz) ∈ F)(h0:h≠[])(h2:h.length<=10)(hp:∀ p ∈ L,p.1.length<=300) (hl:vs.length<=100) (a:aT (d6 X F) vs L) (z:Sep (pt l (v0 vs)::(G++F)) H)
  (q:∀ l' vs' Δ H',aT (d6 X (Δ++F)) vs' (pre h L)->Sep (pt l' (v0 vs')::pt l (v0 vs)::(G++(Δ++F))) H'->Q (sK l') H'):ae tab R k 45 [sK hd,sK l] H Q E:=by
 delta o7;right;exact uz hh h0 h2 hp hl a z (λh=>h) q
end
def rD {Ls:List (List (List Int×Rw))}:pre h Ls.flatten=(Ls.map (pre h)).flatten:=by
 unfold pre;rw[List.map_flatten]
def xB {b:Addr}{zs:List V}(s:Sep O H)(r:cH (pt a (v0 xs)) (pt a (v0 (xs++zs))) O Γ')(e:H b=some (v0 zs))(hl:xs.length+zs.length<=10000)(h:∀ H',Sep Γ' H'->Q ut H'):yP .extend a xs [sK b] H Q:=by unfold yP;exact⟨_,_,rfl,e,hl,h _ (s.put r rfl)⟩
section
variable {B dx d1 d2:Addr}{kb:List (Key×V)}{cs:List (Str×Int)}{Nl:List (Str×List Itm)}{nb:Str->List Itm}{F G:List ah}{f:Nat}
def lO {l:V}(hk:1<=k)(hv:cz kb (.inr w)=some l)(z:Sep (aE R B dx d1 d2 kb cs O) H)(q:Q l H):ae tab R k 42 [sK B,ul w] H Q E:=by
 delta bF;right;exact Bh (k:=.inr w) (z.get .k1) hv q
abbrev zy (K:W.Frag)(R:Rt)(B dx d1 d2:Addr)(kb:List (Key×V))(cs:List (Str×Int))(Nl:List (Str×List Itm))(nb:Str->List Itm)(f:Nat):Prop:=∀ {k:Nat}{F G:List ah}{v:V}{b:List Itm}{n i:Nat}{H:Hp}{Q:VK}{E:XK},3*f+9<=k->n+4*i<=f->lH ((Nl.take i).map (·.1)) n b->jW R F n v b->ot R F kb Nl->(bc nb f b).length<=24->Sep (aE R B dx d1 d2 kb cs (G++F)) H->(∀ l vs Δ H',aT (d6 (aI R) (Δ++F)) vs (bc nb f b)->Sep (pt l (v0 vs)::aE R B dx d1 d2 kb cs (G++(Δ++F))) H'->Q (sK l) H')->ae tab R k 50 [sK B,v] H Q E
abbrev Eh (K:W.Frag)(R:Rt)(B dx d1 d2:Addr)(kb:List (Key×V))(cs:List (Str×Int))(Nl:List (Str×List Itm))(nb:Str->List Itm)(f:Nat):Prop:=∀ {k:Nat}{F G:List ah}{v:V}{it:Itm}{j:Int}{n i:Nat}{H:Hp}{Q:VK}{E:XK},3*f+8<=k->n+4*i<=f->uh ((Nl.take i).map (·.1)) n it->kN R F n v it->ot R F kb Nl->(bE nb f it).length<=24->Sep (aE R B dx d1 d2 kb cs (G++F)) H->(∀ l vs Δ H',aT (d6 (aI R) (Δ++F)) vs (pre [j] (bE nb f it))->Sep (pt l (v0 vs)::aE R B dx d1 d2 kb cs (G++(Δ++F))) H'->Q (sK l) H')->ae tab R k 49 [sK B,tz j,v] H Q E
def ot.mono {F':List ah}(up:∀ A ∈ F,A ∈ F') (h:ot R F kb Nl):ot R F' kb Nl:=λw b hm=>let⟨l,e,i⟩:=h w b hm;⟨l,e,jW.mono up i⟩
def fX {es:List V}(ee:es=h.map tz)(h2:h.length<=10)(z:Sep (aE R B dx d1 d2 kb cs (G++F)) H)(q:∀ hd H1,Sep (aE R B dx d1 d2 kb cs (G++([tu hd (h.map tz)]++F))) H1->Q (sK hd) H1):dZ es H Q:=by
 subst ee;refine cW z (by rw[ce];omega) (λhd H1 z1=>?_);exact q hd H1 (Sep.mv (P:=[]) (Δ:=[tu hd (h.map tz)]) (L:=[_,_,_]++G) (O:=F) z1.toT)
variable {b:List Itm}
def lZ {hd:Addr}{i:Nat}(ihb:zy K R B dx d1 d2 kb cs Nl nb f)(hf40:f<=40)(hk:3*f+9<=k)(hf:n+4*i<=f)(ok:lH ((Nl.take i).map (·.1)) n b)(im:jW R F n v b)(bk:ot R F kb Nl)(hl24:(bc nb f b).length<=24)(h0:h≠[])(h2:h.length<=10)(z:Sep (aE R B dx d1 d2 kb cs (G++([tu hd (h.map tz)]++F))) H)
  (q:∀ l vs Δ H',aT (d6 (aI R) (Δ++F)) vs (pre h (bc nb f b))->Sep (pt l (v0 vs)::aE R B dx d1 d2 kb cs (G++(Δ++F))) H'->Q (sK l) H'):ae tab R k 50 [sK B,v] H (λx H2=>ae tab R k 45 [sK hd,x] H2 Q E) E:=by
 refine ihb (F:=[tu hd (h.map tz)]++F) hk hf ok (jW.mono (λA=>aa) im) (bk.mono λA=>aa) hl24 z (λl vs Δ H2 a z3=>?_);have hpl:∀ p ∈ bc nb f b,p.1.length<=300:=λp hp=>by have:=et (K:=2*f+1) (λi _=>o6) p hp;omega
 refine oy (G:=[_,_,_]++G) (F:=Δ++([tu hd (h.map tz)]++F)) (L:=bc nb f b) nofun (aa lf) h0 h2 hpl (by rw[a.1];omega) a z3 (λl' vs' Δ' H3 a' z4=>?_);have e:Δ'++(Δ++([tu hd (h.map tz)]++F))=(Δ'++(Δ++[tu hd (h.map tz)]))++F:=by simp only[jp]
 have z5:Sep (pt l' (v0 vs')::aE R B dx d1 d2 kb cs (G++(Δ'++(Δ++([tu hd (h.map tz)]++F))))) H3:=(z4.pull .k1).drop;rw[e]at a';rw[e]at z5;exact q l' vs' _ H3 a' z5
def jv {o:HO}{A:List ah}(m:pt d o ∈ F)(z:Sep (A++aE R B dx d1 d2 kb cs (G++F)) H):H d=some o:=by
 refine fz (G:=A++[pt B (wn (R.cad 16) dx [("blocks",sK d1),("counts",sK d2)]),pt d1 (.dK kb),pt d2 (.dK (g7 cs))]++G) m ?_;simpa only [jp,cons_append,nil_append] using z
variable {j:Int}
def rA {x:Addr}{i:Nat}(hN:rG Nl nb (bL cs))(hcs:∀ w ∈ Nl.map (·.1),w ∈ cs.map (·.1)) (ihb:zy K R B dx d1 d2 kb cs Nl nb f) (hf40:f<=40) (hk:3*f+10<=k) (hf:n+4*i<=f+1) (hw:w ∈ (Nl.take i).map (·.1)) (m:pt d (wn (R.cad 13) x [("called",ul w)]) ∈ F) (bk:ot R F kb Nl) (hl24:(bc nb f (nb w)).length<=24) (z:Sep (aE R B dx d1 d2 kb cs (G++F)) H)
  (q:∀ l vs Δ H',aT (d6 (aI R) (Δ++F)) vs (pre [j] (bc nb f (nb w)))->Sep (pt l (v0 vs)::aE R B dx d1 d2 kb cs (G++(Δ++F))) H'->Q (sK l) H'):ae tab R k 46 [sK B,tz j,sK d] H Q E:=by
 obtain⟨s,hs,oks,cw,hat⟩:=hN.mem hw;have hwN:w ∈ Nl.map (·.1):=List.mem_map.mpr ⟨_,cr hat,rfl⟩;have hlen:((bc nb f (nb w)).length:Int)=bL cs w:=by rw[cw];exact e9 hN (n:=2) (i:=s) nofun oks
 have e:=jv (A:=[]) m z;delta iV;left;refine⟨rfl,?_⟩;left;refine⟨_,16,_,_,_,rfl,z.at,rfl,rfl,?_⟩;left;refine aL e rfl rfl rfl ?_;left;refine gB nofun (hcs w hwN) z ?_;right;refine dv (λg=>?_) (λg=>?_)
 .left;refine aF z (by decide) (λl H1 z1=>?_);have e0:bc nb f (nb w)=[]:=length_eq_zero_iff.mp nofun;refine q l [] [] H1 ?_ z1;rw[e0];exact .nil
 .left;refine⟨rfl,?_⟩;left;refine fX (h:=[j]) rfl (by show 1<=10;omega) z (λhd H1 z1=>?_);left;refine⟨rfl,?_⟩;left;refine⟨rfl,?_⟩;left;refine⟨_,16,_,_,_,rfl,z1.at,rfl,rfl,?_⟩;left;refine aL (jv (A:=[]) (F:=[tu hd ([j].map tz)]++F) (aa m) z1) rfl rfl rfl ?_;left;obtain⟨l,el,im⟩:=bk w (nb w) (cr hat);refine lO nofun el z1 ?_;left;exact lZ (K:=K) (n:=2) (i:=s) ihb hf40 nofun nofun oks im bk hl24 (cons_ne_nil _ _) (by show 1<=10;omega) z1 q
def j0 {x:Addr}{mm:Int}{i:Nat}(ihb:zy K R B dx d1 d2 kb cs Nl nb f)(hf40:f<=40)(hk:3*f+10<=k)(hf:n+4*i<=f)(h0:0<=mm)(h9:mm<=9)(ok:lH ((Nl.take i).map (·.1)) n b)(m:pt d (wn (R.cad 14) x [("many",tz mm),("block",sK l)]) ∈ F) (im:jW R F n (sK l) b) (bk:ot R F kb Nl) (hl24:((List.range mm.toNat).map λt:Nat=>pre [(t:Int)] (bc nb f b)).flatten.length<=24) (z:Sep (aE R B dx d1 d2 kb cs (G++F)) H)
  (q:∀ l vs Δ H',aT (d6 (aI R) (Δ++F)) vs (pre [j] ((List.range mm.toNat).map λt:Nat=>pre [(t:Int)] (bc nb f b)).flatten)->Sep (pt l (v0 vs)::aE R B dx d1 d2 kb cs (G++(Δ++F))) H'->Q (sK l) H'):ae tab R k 47 [sK B,tz j,sK d] H Q E:=by
 have e:=jv (A:=[]) m z;delta eU;left;refine aL e rfl rfl rfl ?_;left;refine eE rfl rfl ?_;left;refine dv (λg=>?_) (λg=>?_)
 .left;refine aF z (by decide) (λl H1 z1=>?_);refine q l [] [] H1 ?_ z1;rw[g];exact .nil
 have hfb:(bc nb f b).length<=24:=by
  have e1:(List.range mm.toNat)=0::(List.range (mm.toNat-1)).map (·+1):=by
   rw[show mm.toNat=(mm.toNat-1)+1 by omega,List.range_succ_eq_map];rfl
  rw[e1,map_cons,flatten_cons,ci,ag]at hl24
  omega
 have hpl:∀ p ∈ bc nb f b,p.1.length<=300:=λp hp=>by have:=et (K:=2*f+1) (λi _=>o6) p hp;omega
 left;refine⟨rfl,?_⟩;left;refine aL e rfl rfl rfl ?_;left;refine ihb (k:=k-1) nofun hf ok im bk hfb z (λol vs Δ H1 a z1=>?_);left;refine aF z1 (by decide) (λpl H2 z2=>?_);left;refine⟨rfl,?_⟩;left;refine aL (jv (A:=[_,_]) (F:=Δ++F) (aa m) z2) rfl rfl rfl ?_;left;refine⟨by omega,by omega,?_⟩;have hvl:vs.length<=24:=by rw[a.1];exact hfb
 refine oh (λt U H=>∃ u5,U=[some (sK B),some (tz j),some (sK d),some (sK ol),some (sK pl),u5]/\∃ vs' Δ',vs'.length<=t*24/\aT (d6 (aI R) (Δ'++(Δ++F))) vs' (((List.range t).map λs:Nat=>pre [j,(s:Int)] (bc nb f b)).flatten)/\Sep (pt pl (v0 vs')::pt ol (v0 vs)::aE R B dx d1 d2 kb cs (G++(Δ'++(Δ++F)))) H) ⟨_,rfl,[],[],by decide,.nil,z2⟩ (λt U H ht hI=>?_) (λU H hI=>?_)
 .obtain⟨u5,rfl,vs',Δ',hl',a',z3⟩:=hI;left;refine⟨pl,vs',rfl,z3.at,?_⟩;left;refine⟨rfl,?_⟩;left;have z3':Sep (aE R B dx d1 d2 kb cs (([pt pl (v0 vs'),pt ol (v0 vs)]++G)++(Δ'++(Δ++F)))) H:=z3.sub (.cons .k2 (.cons .k2 (.cons .k2 .refl)));refine fX (h:=[j,0+(t:Int)]) rfl (by show 2<=10;omega) z3' (λhd H3 z4=>?_);left;have z5:Sep (pt ol (v0 vs)::(([pt B (wn (R.cad 16) dx [("blocks",sK d1),("counts",sK d2)]),pt d1 (.dK kb),pt d2 (.dK (g7 cs)),pt pl (v0 vs')]++G)++([tu hd ([j,0+(t:Int)].map tz)]++(Δ'++(Δ++F))))) H3:=z4.pull (.j2 (.j2 .e));refine oy (k:=k-1) (F:=[tu hd ([j,0+(t:Int)].map tz)]++(Δ'++(Δ++F))) (L:=bc nb f b) nofun lf (cons_ne_nil _ _) (by show 2<=10;omega) hpl nofun (a.map λv i=>d6.mono λA h=>aa (aa h)) z5 (λl' ws Δ2 H4 a2 z6=>?_);have e0:pre [j,0+(t:Int)] (bc nb f b)=pre [j,(t:Int)] (bc nb f b):=by rw[Int.zero_add]
  rw[e0]at a2;have hwl:ws.length<=24:=by rw[a2.1,ag];exact hfb
  have z7:Sep (pt pl (v0 vs')::pt l' (v0 ws)::pt ol (v0 vs)::aE R B dx d1 d2 kb cs (G++(Δ2++([tu hd ([j,0+(t:Int)].map tz)]++(Δ'++(Δ++F)))))) H4:=z6.pull (.j2 (.j2 .k1));left;refine⟨vs',z7.at,xB z7 .e (z7.get .k1) nofun (λH5 z8=>?_)⟩;left;have eA:Δ2++([tu hd ([j,0+(t:Int)].map tz)]++(Δ'++(Δ++F)))=(Δ2++([tu hd ([j,0+(t:Int)].map tz)]++Δ'))++(Δ++F):=by simp only[jp]
  refine⟨_,rfl,vs'++ws,Δ2++([tu hd ([j,0+(t:Int)].map tz)]++Δ'),by rw[ci];omega,?_,?_⟩
  .rw[List.range_succ,dL,List.flatten_append,<-eA];refine aT.app (a'.map λv i=>d6.mono λA h=>aa (aa h)) ?_;show aT _ ws (pre [j,(t:Int)] (bc nb f b)++[]);rw[append_nil];exact a2
  .rw[<-eA];exact(z8.pull .k1).drop
 .obtain⟨u5,rfl,vs',Δ',hl',a',z3⟩:=hI;left;have eA:Δ'++(Δ++F)=(Δ'++Δ)++F:=by simp only[jp]
  refine q pl vs' (Δ'++Δ) _ ?_ ?_
  .rw[rD,List.map_map,<-eA];have e3:((pre [j])∘λt:Nat=>pre [(t:Int)] (bc nb f b))=λs:Nat=>pre [j,(s:Int)] (bc nb f b):=funext λs=>gv
   rw[e3];exact a'
  .rw[<-eA];exact(z3.pull .k1).drop
def mC {x P:Addr}{p:List Int}{nn:Int}(hx:aI R x (.hop nn o) ∈ F)(hP:tu P (p.map tz) ∈ F)(z:Sep (G++F) H)(q:∀ T H',d6 (aI R) ([tu T [sK P,sK x]]++F) (sK T) (p,.hop nn o)->Sep (G++([tu T [sK P,sK x]]++F)) H'->Q (sK T) H'):dZ [sK P,sK x] H Q:=by
 refine cW z (by show 2<=10000;omega) (λT H1 z1=>?_);exact q T H1 ⟨T,P,x,rfl,lf,aa hP,aa hx⟩ (toF (L:=[_]) z1.toT)
def lT {x l':Addr}{c:List Itm}{o:Int}{i:Nat}{vs2:List V}(ro:Ro K R)(ihb:zy K R B dx d1 d2 kb cs Nl nb f)(hf40:f<=40)(hk:3*f+10<=k)(hf:n+4*i<=f)(ho:o=0\/o=1)(ok:lH ((Nl.take i).map (·.1)) n b)(ok2:lH ((Nl.take i).map (·.1)) n c)(m:pt d (wn (R.cad 15) x [("on",tz o),("block",sK l),("other",sK l')]) ∈ F) (im:jW R F n (sK l) b) (hl':pt l' (v0 vs2) ∈ F) (im2:aT (kN R F n) vs2 c) (bk:ot R F kb Nl) (hl24:(qG o (pre [0] (bc nb f b)) (pre [1] (bc nb f c)) (c.length ==0)).length<=24) (z:Sep (aE R B dx d1 d2 kb cs (G++F)) H)
  (q:∀ l vs Δ H',aT (d6 (aI R) (Δ++F)) vs (pre [j] (qG o (pre [0] (bc nb f b)) (pre [1] (bc nb f c)) (c.length ==0)))->Sep (pt l (v0 vs)::aE R B dx d1 d2 kb cs (G++(Δ++F))) H'->Q (sK l) H'):ae tab R k 48 [sK B,tz j,sK d] H Q E:=by
 have e:=jv (A:=[]) m z;have oO:CK (some (1-o)):=by
  rcases ho with rfl|rfl
  .exact .inr rfl
  .exact .inl rfl
 have hb24:(bc nb f b).length+1<=24:=by
  unfold qG at hl24
  split at hl24
  .rw[length_cons,ag]at hl24;omega
  .rw[length_cons,ci,ag]at hl24;omega
 delta fM;left;refine⟨rfl,?_⟩;left;refine fX (h:=[j,0]) rfl (by show 2<=10;omega) z (λhd H1 z1=>?_);left;refine⟨rfl,?_⟩;left;refine aL (jv (A:=[]) (F:=[tu hd ([j,0].map tz)]++F) (aa m) z1) rfl rfl rfl ?_;left;refine lZ (K:=K) (k:=k-1) (h:=[j,0]) ihb hf40 nofun hf ok im bk nofun (cons_ne_nil _ _) (by show 2<=10;omega) z1 (λbl vs Δ H2 a z2=>?_);have hvl:vs.length<=24:=by rw[a.1,ag];omega
 have hvn:(vs.length:Int)=((bc nb f b).length:Int):=by rw[a.1,ag]
 left;refine aL (jv (A:=[_]) (F:=Δ++F) (aa m) z2) rfl rfl rfl ?_;left;refine bb (jv (A:=[_]) (F:=Δ++F) (aa hl') z2) ?_;left;refine eE rfl rfl ?_;left;refine dv (λg=>?_) (λg=>?_)
 .have hc:c=[]:=length_eq_zero_iff.mp (by rw[<-im2.1];omega);subst hc;have z2':Sep (aE R B dx d1 d2 kb cs (([pt bl (v0 vs)]++G)++(Δ++F))) H2:=z2.sub (.cons .k1 (.cons .k1 (.cons .k1 .refl)));left;refine fX (h:=[j]) rfl (by show 1<=10;omega) z2' (λP H3 z3=>?_);left;refine⟨rfl,?_⟩;left;refine bb (z3.get (.j2 .k1)) ?_;left;refine aL (jv (A:=[]) (F:=[tu P ([j].map tz)]++(Δ++F)) (aa (aa m)) z3) rfl rfl rfl ?_;left;intro hx hy a1 a2 a3;refine pf (n:=(vs.length:Int)) (o:=some (1-o)) ro nofun nofun nofun oO (aW z3 a1 a2 a3) (λH4 z4=>⟨rfl,?_⟩);left;have z5:Sep (([pt B (wn (R.cad 16) dx [("blocks",sK d1),("counts",sK d2)]),pt d1 (.dK kb),pt d2 (.dK (g7 cs)),pt bl (v0 vs)]++G)++([aI R hx (.hop (vs.length:Int) (some (1-o)))]++([tu P ([j].map tz)]++(Δ++F)))) H4:=toF (L:=[aI R hx (.hop (vs.length:Int) (some (1-o)))]) z4;refine mC (p:=[j]) lf (dl _ lf) z5 (λT H5 pr z6=>?_);left;refine aF z6 (by show 1<=10000;omega) (λl1 H6 z7=>?_);have z7':Sep (pt l1 (v0 [sK T])::aE R B dx d1 d2 kb cs (pt bl (v0 vs)::(G++([tu T [sK P,sK hx]]++([aI R hx (.hop (vs.length:Int) (some (1-o)))]++([tu P ([j].map tz)]++(Δ++F))))))) H6:=z7;left;refine kQ z7' z7'.at (z7'.get (.j2 (.j2 .e))) (by show 1+vs.length<=100000;omega) (λl2 H7 z8=>?_);have eA:[tu T [sK P,sK hx]]++([aI R hx (.hop (vs.length:Int) (some (1-o)))]++([tu P ([j].map tz)]++(Δ++F)))=([tu T [sK P,sK hx]]++([aI R hx (.hop (vs.length:Int) (some (1-o)))]++([tu P ([j].map tz)]++Δ)))++F:=by simp only[jp]
  refine q l2 ([sK T]++vs) _ H7 ?_ (by rw[<-eA];exact((((z8.pull .k1).drop).pull (.j2 (.j2 .e))).drop));rw[<-eA];show aT _ (sK T::vs) (([j]++[],Rw.hop ((pre [0] (bc nb f b)).length:Int) (some (1-o)))::pre [j] (pre [0] (bc nb f b)));rw[gv,ag,<-hvn];exact aT.cons pr (a.map λv i=>d6.mono λA h=>aa (aa (aa h)))
 .have hcn:(c.length ==0)=false:=beq_eq_false_iff_ne.mpr (by rw[<-im2.1];omega);rw[hcn]at hl24 q;have hsum:(bc nb f b).length+(bc nb f c).length+2<=24:=by
   unfold qG at hl24;rw[length_cons,ci,length_cons,ag,ag]at hl24
   omega
  have z2':Sep (aE R B dx d1 d2 kb cs (([pt bl (v0 vs)]++G)++(Δ++F))) H2:=z2.sub (.cons .k1 (.cons .k1 (.cons .k1 .refl)));left;refine⟨rfl,?_⟩;left;refine fX (h:=[j,1]) rfl (by show 2<=10;omega) z2' (λhd2 H3 z3=>?_);left;refine⟨rfl,?_⟩;left;refine aL (jv (A:=[]) (F:=[tu hd2 ([j,1].map tz)]++(Δ++F)) (aa (aa m)) z3) rfl rfl rfl ?_;left;refine lZ (K:=K) (k:=k-1) (h:=[j,1]) ihb hf40 nofun hf ok2 ⟨l',vs2,rfl,aa hl',im2.map λv i=>kN.mono λA=>aa⟩ (bk.mono λA=>aa) nofun (cons_ne_nil _ _) (by show 2<=10;omega) z3 (λol ws Δ2 H4 a2 z4=>?_);have hwl:ws.length<=24:=by rw[a2.1,ag];omega
  have hwn:(ws.length:Int)=((bc nb f c).length:Int):=by rw[a2.1,ag]
  have z4':Sep (aE R B dx d1 d2 kb cs (([pt ol (v0 ws),pt bl (v0 vs)]++G)++(Δ2++(Δ++F)))) H4:=z4.sub (.cons .k1 (.cons .k1 (.cons .k1 .refl)));left;refine fX (h:=[j]) rfl (by show 1<=10;omega) z4' (λP H5 z5=>?_);left;refine⟨rfl,?_⟩;left;refine bb (z5.get (.j2 (.j2 .e))) ?_;left;refine aL (jv (A:=[]) (F:=[tu P ([j].map tz)]++(Δ2++(Δ++F))) (aa (aa (aa m))) z5) rfl rfl rfl ?_;left;intro hx hy a1 a3 a4;refine pf (n:=(vs.length:Int)+1) (o:=some (1-o)) ro nofun nofun nofun oO (aW z5 a1 a3 a4) (λH6 z6=>⟨rfl,?_⟩);left;have z7:Sep (([pt B (wn (R.cad 16) dx [("blocks",sK d1),("counts",sK d2)]),pt d1 (.dK kb),pt d2 (.dK (g7 cs)),pt ol (v0 ws),pt bl (v0 vs)]++G)++([aI R hx (.hop ((vs.length:Int)+1) (some (1-o)))]++([tu P ([j].map tz)]++(Δ2++(Δ++F))))) H6:=toF (L:=[aI R hx (.hop ((vs.length:Int)+1) (some (1-o)))]) z6;refine mC (p:=[j]) lf (dl _ lf) z7 (λT H7 pr z8=>?_);left;have z8':Sep (aE R B dx d1 d2 kb cs (([pt ol (v0 ws),pt bl (v0 vs)]++G)++([tu T [sK P,sK hx]]++([aI R hx (.hop ((vs.length:Int)+1) (some (1-o)))]++([tu P ([j].map tz)]++(Δ2++(Δ++F))))))) H7:=z8;refine fX (h:=[j,2]) rfl (by show 2<=10;omega) z8' (λP2 H8 z9=>?_);left;refine⟨rfl,?_⟩;left;refine bb (z9.get (.j2 .k1)) ?_;left;intro hx2 hy2 b1 b3 b4;refine pf (n:=(ws.length:Int)) (o:=none) ro nofun nofun nofun True.intro (aW z9 b1 b3 b4) (λH9 z10=>⟨rfl,?_⟩);left;have z11:Sep (([pt B (wn (R.cad 16) dx [("blocks",sK d1),("counts",sK d2)]),pt d1 (.dK kb),pt d2 (.dK (g7 cs)),pt ol (v0 ws),pt bl (v0 vs)]++G)++([aI R hx2 (.hop (ws.length:Int) none)]++([tu P2 ([j,2].map tz)]++([tu T [sK P,sK hx]]++([aI R hx (.hop ((vs.length:Int)+1) (some (1-o)))]++([tu P ([j].map tz)]++(Δ2++(Δ++F)))))))) H9:=toF (L:=[aI R hx2 (.hop (ws.length:Int) none)]) z10;refine mC (p:=[j,2]) lf (dl _ lf) z11 (λT2 H10 pr2 z12=>?_);obtain⟨ΔA,eA⟩:∃ ΔA,[tu T2 [sK P2,sK hx2]]++([aI R hx2 (.hop (ws.length:Int) none)]++([tu P2 ([j,2].map tz)]++([tu T [sK P,sK hx]]++([aI R hx (.hop ((vs.length:Int)+1) (some (1-o)))]++([tu P ([j].map tz)]++(Δ2++(Δ++F)))))))=ΔA++F:=⟨[tu T2 [sK P2,sK hx2]]++([aI R hx2 (.hop (ws.length:Int) none)]++([tu P2 ([j,2].map tz)]++([tu T [sK P,sK hx]]++([aI R hx (.hop ((vs.length:Int)+1) (some (1-o)))]++([tu P ([j].map tz)]++(Δ2++Δ)))))),by simp only[jp]⟩;have pr1:d6 (aI R) (ΔA++F) (sK T) ([j],.hop ((vs.length:Int)+1) (some (1-o))):=by rw[<-eA];exact d6.mono (λA h=>aa (aa (aa h))) pr
  have pr2:d6 (aI R) (ΔA++F) (sK T2) ([j,2],.hop (ws.length:Int) none):=by rw[<-eA];exact pr2
  have a':aT (d6 (aI R) (ΔA++F)) vs (pre [j,0] (bc nb f b)):=by rw[<-eA];exact a.map λv i=>d6.mono λA h=>aa (aa (aa (aa (aa (aa (aa h))))))
  have a2':aT (d6 (aI R) (ΔA++F)) ws (pre [j,1] (bc nb f c)):=by rw[<-eA];exact a2.map λv i=>d6.mono λA h=>aa (aa (aa (aa (aa (aa h)))))
  have z13:Sep (pt ol (v0 ws)::pt bl (v0 vs)::aE R B dx d1 d2 kb cs (G++(ΔA++F))) H10:=by
   rw[<-eA];have z14:Sep (aE R B dx d1 d2 kb cs (pt ol (v0 ws)::pt bl (v0 vs)::(G++([tu T2 [sK P2,sK hx2]]++([aI R hx2 (.hop (ws.length:Int) none)]++([tu P2 ([j,2].map tz)]++([tu T [sK P,sK hx]]++([aI R hx (.hop ((vs.length:Int)+1) (some (1-o)))]++([tu P ([j].map tz)]++(Δ2++(Δ++F)))))))))) ) H10:=z12;exact z14.sub (.cons .k3 (.cons .k3 .refl))
  clear z z1 z2 z2' z3 z4 z4' z5 z6 z7 z8 z8' z9 z10 z11 z12;left;refine aF z13 (by show 1<=10000;omega) (λl1 H11 z14=>?_);left;refine kQ z14 z14.at (z14.get .k2) (by show 1+vs.length<=100000;omega) (λl2 H12 z15=>?_);left;refine aF z15 (by show 1<=10000;omega) (λl3 H13 z16=>?_);left;refine kQ z16 (z16.get .k1) z16.at (by rw[ci];show 1+vs.length+1<=100000;omega) (λl4 H14 z17=>?_);left;refine kQ z17 z17.at (z17.get (.j2 (.j2 .e))) (by rw[ci,ci];show 1+vs.length+1+ws.length<=100000;omega) (λl5 H15 z18=>?_);refine q l5 _ ΔA H15 ?_ (z18.sub (.cons .e (.drop (.drop (.drop (.drop (.drop (.drop .refl))))))));show aT _ (([sK T]++vs)++[sK T2]++ws) (pre [j] (([],Rw.hop (((pre [0] (bc nb f b)).length:Int)+1) (some (1-o)))::(pre [0] (bc nb f b)++([2],Rw.hop ((pre [1] (bc nb f c)).length:Int) none)::pre [1] (bc nb f c))));have eL:pre [j] (([],Rw.hop (((pre [0] (bc nb f b)).length:Int)+1) (some (1-o)))::(pre [0] (bc nb f b)++([2],Rw.hop ((pre [1] (bc nb f c)).length:Int) none)::pre [1] (bc nb f c)))=(([([j],Rw.hop ((vs.length:Int)+1) (some (1-o)))]++pre [j,0] (bc nb f b))++[([j,2],Rw.hop (ws.length:Int) none)])++pre [j,1] (bc nb f c):=by
   rw[ag,ag,<-hvn,<-hwn];show _::pre [j] (pre [0] (bc nb f b)++_::pre [1] (bc nb f c))=_;rw[pre_app];show _::(pre [j] (pre [0] (bc nb f b))++_::pre [j] (pre [1] (bc nb f c)))=_;rw[gv,gv];simp
  rw[eL];exact((((aT.snoc (α:=List Int×Rw) aT.nil pr1).app a').snoc pr2).app a2')
def hU (ro:Ro K R)(hN:rG Nl nb (bL cs))(hcs:∀ w ∈ Nl.map (·.1),w ∈ cs.map (·.1)) (hf40:f<=40) (ih:∀ g,f=g+1->zy K R B dx d1 d2 kb cs Nl nb g):Eh K R B dx d1 d2 kb cs Nl nb f:=by
 intro k F G v it j n i H Q E hk hf ok im bk hl24 z q;delta fS;cases it with
 |row r=>
  obtain⟨d,rfl,m⟩:∃ d,v=sK d/\aI R d r ∈ F:=by cases n<;>exact im
  obtain⟨y,fs,e⟩:=Bs (G:=[pt B (wn (R.cad 16) dx [("blocks",sK d1),("counts",sK d2)]),pt d1 (.dK kb),pt d2 (.dK (g7 cs))]++G) m z;obtain⟨o1,o2,o3,o4⟩:=lV r;left;refine ax e o1 o2 ?_;right;refine ax e o1 o3 ?_;right;refine ax e o1 o4 ?_;left;refine ck rfl ?_;left;refine fX (h:=[j]) rfl (by show 1<=10;omega) z (λP H1 z1=>?_);left;refine cW z1 (by show 2<=10000;omega) (λT H2 z2=>?_);left;refine aF z2.toT (by show 1<=10000;omega) (λl H3 z3=>?_);have z4:Sep (pt l (v0 [sK T])::aE R B dx d1 d2 kb cs (G++([tu T [sK P,sK d]]++([tu P ([j].map tz)]++F)))) H3:=Sep.mv (P:=[_]) (Δ:=[tu T [sK P,sK d]]) (L:=[_,_,_]++G) (O:=[tu P ([j].map tz)]++F) z3;refine q l [sK T] ([tu T [sK P,sK d]]++[tu P ([j].map tz)]) H3 ?_ z4;have e1:bE nb f (.row r)=[([],r)]:=by cases f<;>rfl
  rw[e1];exact aT.snoc (α:=List Int×Rw) aT.nil ⟨T,P,d,rfl,lf,dl _ lf,aa m⟩
 |dO w=>
  obtain⟨d,y,rfl,m⟩:∃ d dx,v=sK d/\pt d (wn (R.cad 13) dx [("called",ul w)]) ∈ F:=by cases n<;>exact im
  have ok':w ∈ (Nl.take i).map (·.1):=by cases n<;>exact ok
  obtain⟨s,hs,_⟩:=hN.mem ok';obtain⟨g,rfl⟩:∃ g,f=g+1:=⟨f-1,by omega⟩;left;refine ax (jv (A:=[]) m z) rfl rfl ?_;left;refine bt rfl ?_;left;refine⟨rfl,?_⟩;left;exact rA (K:=K) (k:=k-1) hN hcs (ih g rfl) nofun nofun hf ok' m bk hl24 z q
 |tms t b=>
  cases n with
  |zero=>exact im.elim
  |succ n=>
   obtain⟨d,y,l,vs,rfl,m1,m2,a⟩:=im;obtain⟨g,rfl⟩:∃ g,f=g+1:=⟨f-1,by omega⟩;left;refine ax (jv (A:=[]) m1 z) rfl rfl ?_;right;refine ax (jv (A:=[]) m1 z) rfl rfl ?_;left;refine bt rfl ?_;left;refine⟨rfl,?_⟩;left;exact j0 (K:=K) (k:=k-1) (ih g rfl) nofun nofun nofun ok.1.1 ok.1.2 ok.2 m1 ⟨l,vs,rfl,m2,a⟩ bk hl24 z q
 |whn o b c=>
  cases n with
  |zero=>exact im.elim
  |succ n=>
   obtain⟨d,y,l,vs,l',vs',rfl,m1,⟨m2,a⟩,m3,a'⟩:=im;obtain⟨g,rfl⟩:∃ g,f=g+1:=⟨f-1,by omega⟩;left;refine ax (jv (A:=[]) m1 z) rfl rfl ?_;right;refine ax (jv (A:=[]) m1 z) rfl rfl ?_;right;refine ax (jv (A:=[]) m1 z) rfl rfl ?_;left;refine bt rfl ?_;left;refine⟨rfl,?_⟩;left;exact lT (K:=K) (k:=k-1) ro (ih g rfl) nofun nofun nofun ok.1 ok.2.1 ok.2.2 m1 ⟨l,vs,rfl,m2,a⟩ m3 a' bk hl24 z q
def j5 {g:Itm->List (List Int×Rw)}:∀ {b:List Itm}{j s:Nat},(bh g s (b.take j)).length<=(bh g s b).length
 | [],j,s=>by rw[List.take_nil];exact pc _
 |x::b,0,s=>Nat.zero_le _
 |x::b,j+1,s=>by
  show(pre _ (g x)++bh g (s+1) (b.take j)).length<=(pre _ (g x)++bh g (s+1) b).length;rw[ci,ci];have:=j5 (g:=g) (b:=b) (j:=j) (s:=s+1)
  omega
def nM (hi:Eh K R B dx d1 d2 kb cs Nl nb f):zy K R B dx d1 d2 kb cs Nl nb f:=by
 intro k F G v b n i H Q E hk hf ok im bk hl24 z q;obtain⟨l,vs,rfl,m,a⟩:=im;have hl:vs.length<=30:=by rw[a.1];exact ok.1
 delta sk;left;refine aF z (by decide) (λpl H1 z1=>?_);left;refine⟨rfl,?_⟩;left;refine wV (jv (A:=[_]) m z1) ?_;refine gr (xs:=vs) (λj U H=>∃ u3 u4,U=[some (sK B),some (sK l),some (sK pl),u3,u4]/\∃ vs' Δ,aT (d6 (aI R) (Δ++F)) vs' (bh (bE nb f) 0 (b.take j))/\Sep (pt pl (v0 vs')::aE R B dx d1 d2 kb cs (G++(Δ++F))) H) ⟨_,_,rfl,[],[],.nil,z1⟩ ?_ ?_ ?_
 .rintro j U H ⟨u3,u4,rfl,vs',Δ,_,z⟩;exact jv (A:=[_]) (F:=Δ++F) (aa m) z
 .rintro j x T U H hx ⟨u3,u4,rfl,vs',Δ,a1,z2⟩ hT;obtain⟨it,hb,hi2⟩:=a.get hx;have hj:j<b.length:=(s0.mp hb).1;have e1:b.take (j+1)=b.take j++[it]:=by rw[take_succ,hb];rfl
  have e2:bh (bE nb f) 0 (b.take (j+1))=bh (bE nb f) 0 (b.take j)++pre [(j:Int)] (bE nb f it):=by
   rw[e1,nQ,db];rw[show 0+min j b.length=j by omega]
  have h24:(bh (bE nb f) 0 (b.take (j+1))).length<=24:=Nat.le_trans j5 hl24;rw[e2,ci,ag]at h24;left;refine⟨T,[tz j,x],rfl,.inl (bp.of aj),rfl,?_⟩;have z3:=(z2.dZ (xs:=[tz (j:Int),x]) hT).drop;left;refine⟨pl,vs',rfl,z3.at,?_⟩;left;refine⟨rfl,?_⟩;left;have z4:Sep (aE R B dx d1 d2 kb cs (([pt pl (v0 vs')]++G)++(Δ++F))) (upd H T (wf [tz (j:Int),x])):=z3.sub (.cons .k1 (.cons .k1 (.cons .k1 .refl)));refine hi (k:=k-1) (F:=Δ++F) nofun hf (ok.2 it (cr hb)) (kN.mono (λA=>aa) hi2) (bk.mono λA=>aa) nofun z4 (λl' ws Δ2 H3 a2 z5=>?_);have z6:Sep (pt pl (v0 vs')::pt l' (v0 ws)::aE R B dx d1 d2 kb cs (G++(Δ2++(Δ++F)))) H3:=z5.pull (.j2 (.j2 .e));have h1:=a1.1;have h2:=a2.1;rw[ag]at h2;left;refine⟨vs',z6.at,xB z6 .e (z6.get .k1) nofun (λH4 z7=>?_)⟩;left;have eA:Δ2++(Δ++F)=(Δ2++Δ)++F:=by simp only[jp]
  refine⟨_,_,rfl,vs'++ws,Δ2++Δ,?_,by rw[<-eA];exact(z7.pull .k1).drop⟩;rw[e2,<-eA];exact(a1.map λv i=>d6.mono λA=>aa).app a2
 .rintro U H ⟨u3,u4,rfl,vs',Δ,a1,z2⟩;left;rw[take_of_length_le (by rw[a.1];exact pc _)]at a1;exact q pl vs' Δ _ a1 z2
def B8 (ro:Ro K R)(hN:rG Nl nb (bL cs))(hcs:∀ w ∈ Nl.map (·.1),w ∈ cs.map (·.1)):∀ f,f<=40->zy K R B dx d1 d2 kb cs Nl nb f
 |0,_=>nM (K:=K) (hU ro hN hcs nofun λg e=>absurd e nofun)
 |f+1,hf=>nM (K:=K) (hU ro hN hcs hf λg e=>by cases e;exact B8 ro hN hcs f nofun)
end
section
variable {nd:Addr}{o:Obj}{kvs:List (Key×V)}{c:Str->Int}{Nl:List (Str×List Itm)}{nb:Str->List Itm}{F G:List ah}{f:Nat}
end
def fv {f:Itm->List (List Int×Rw)}:∀ {b:List Itm}{j:Nat},(∀ i ∈ b,(f i).length<=24->∀ p ∈ f i,Rw.ok p.2)->(bh f j b).length<=24->∀ p ∈ bh f j b,Rw.ok p.2
 | [],j,_,_,p,hp=>by cases hp
 |x::b,j,h,hl,p,hp=>by
  have hl:(pre [(j:Int)] (f x)++bh f (j+1) b).length<=24:=hl;rw[ci,ag]at hl;rcases mem_append.mp hp with hp|hp
  .obtain⟨p',hp',rfl⟩:=List.mem_map.mp hp;exact h x lf nofun p' hp'
  .exact fv (λi hi=>h i (dl _ hi)) nofun p hp
def lS (a:∀ p ∈ L,Rw.ok p.2):∀ p ∈ pre h L,Rw.ok p.2:=λp hp=>by
 obtain⟨p',hp',rfl⟩:=List.mem_map.mp hp;exact a p' hp'
def AX {ns:List Str}(h:rG Nl nb c):∀ {f n i:Nat}{it:Itm},n+4*i<=f->uh ((Nl.take i).map (·.1)) n it->(bE nb f it).length<=24->∀ p ∈ bE nb f it,Rw.ok p.2:=by
 intro f
 induction f with
 |zero=>
  intro n i it hf ok hl p hp;cases it with
  |row r=>rw[mem_singleton.mp hp];cases n<;>exact ok
  |dO w=>cases hp
  |tms m b=>cases hp
  |whn o b d=>cases hp
 |succ f ih=>
  intro n i it hf ok hl p hp;cases it with
  |row r=>rw[mem_singleton.mp hp];cases n<;>exact ok
  |dO w=>
   have hw:w ∈ (Nl.take i).map (·.1):=by cases n<;>exact ok
   obtain⟨j,hj,okj,cj,_⟩:=h.mem hw;exact fv (λx hx=>ih (n:=2) (i:=j) nofun (okj.2 x hx)) hl p hp
  |tms m b=>cases n with
   |zero=>exact ok.elim
   |succ n=>
    obtain⟨L,hL,hp⟩:=List.mem_flatten.mp hp;obtain⟨t,ht,rfl⟩:=List.mem_map.mp hL;have h1:(pre [(t:Int)] (bh (bE nb f) 0 b)).length<=24:=by
     obtain⟨s,t',e⟩:=List.append_of_mem hL;have hl:((List.range m.toNat).map λt:Nat=>pre [(t:Int)] (bh (bE nb f) 0 b)).flatten.length<=24:=hl;rw[e,List.flatten_append,flatten_cons,ci,ci]at hl
     omega
    rw[ag]at h1;exact lS (fv (λx hx=>ih (n:=n) (i:=i) nofun (ok.2.2 x hx)) h1) p hp
  |whn o b d=>cases n with
   |zero=>exact ok.elim
   |succ n=>
    have hp':p ∈ qG o (pre [0] (bh (bE nb f) 0 b)) (pre [1] (bh (bE nb f) 0 d)) (d.length ==0):=hp;have hl':(qG o (pre [0] (bh (bE nb f) 0 b)) (pre [1] (bh (bE nb f) 0 d)) (d.length ==0)).length<=24:=hl;have oO:CK (some (1-o)):=by
     rcases ok.1 with rfl|rfl
     .exact .inr rfl
     .exact .inl rfl
    have one:(bh (bE nb f) 0 b).length<=24->∀ p ∈ pre [0] (bh (bE nb f) 0 b),Rw.ok p.2:=λhh=>lS (fv (λx hx=>ih (n:=n) (i:=i) nofun (ok.2.1.2 x hx)) hh)
    have oth:(bh (bE nb f) 0 d).length<=24->∀ p ∈ pre [1] (bh (bE nb f) 0 d),Rw.ok p.2:=λhh=>lS (fv (λx hx=>ih (n:=n) (i:=i) nofun (ok.2.2.2 x hx)) hh)
    clear hp hl;generalize (d.length ==0)=e at hp' hl';unfold qG at hp' hl';cases e<;>dsimp only at hp' hl'
    rotate_left
    .rw[length_cons,ag]at hl';rcases li.mp hp' with rfl|hp'
     .exact⟨⟨by rw[ag];show(0:Int)<=((bh (bE nb f) 0 b).length:Int);omega,by rw[ag];show((bh (bE nb f) 0 b).length:Int)<=24;omega⟩,oO⟩
     .exact one nofun p hp'
    .rw[length_cons,ci,length_cons,ag,ag]at hl';rcases li.mp hp' with rfl|hp'
     .exact⟨⟨by rw[ag];show(0:Int)<=((bh (bE nb f) 0 b).length:Int)+1;omega,by rw[ag];show((bh (bE nb f) 0 b).length:Int)+1<=24;omega⟩,oO⟩
     .rcases mem_append.mp hp' with hp'|hp'
      .exact one nofun p hp'
      .rcases li.mp hp' with rfl|hp'
       .exact⟨⟨by rw[ag];show(0:Int)<=((bh (bE nb f) 0 d).length:Int);omega,by rw[ag];show((bh (bE nb f) 0 d).length:Int)<=24;omega⟩,True.intro⟩
       .exact oth nofun p hp'
def iu {x:Addr}(hk:1<=k)(s:Sep (pt x (.exc (R.cad 7) none [] true)::O) H)(q:∀ d H',Sep (pt x (.exc (R.cad 7) (some d) [("many",v)] true)::pt d (.own x)::O) H'->Q ut H'):ae tab R k 6 [sK x,v] H Q E:=by
 delta bP;right;refine⟨_,7,_,_,_,_,rfl,by grind,rfl,?_⟩;right;refine qL s rfl rfl (λd H hs=>?_);right;exact q d H hs
section
variable {B dx d1 d2:Addr}{kb:List (Key×V)}{cs:List (Str×Int)}{Nl:List (Str×List Itm)}{nb:Str->List Itm}{F G:List ah}{f n i:Nat}{v:V}{b:List Itm}
def mJ (ro:Ro K R)(hN:rG Nl nb (bL cs))(hcs:∀ w ∈ Nl.map (·.1),w ∈ cs.map (·.1)) (hb:kb.map (·.1)=g5 (cs.map (·.1))) (hf40:f<=40) (hk:3*f+12<=k) (hk3:3*n+6<=k) (hf:n+4*i<=f) (ok:lH ((Nl.take i).map (·.1)) n b) (im:jW R F n v b) (bk:ot R F kb Nl) (z:Sep (aE R B dx d1 d2 kb cs (G++F)) H)
  (q:1<=cG (bL cs) n b->cG (bL cs) n b<=24->∀ l vs Δ H',aT (d6 (aI R) (Δ++F)) vs (bc nb f b)->Sep (pt l (v0 vs)::aE R B dx d1 d2 kb cs (G++(Δ++F))) H'->Q (sK l) H')
  (r:¬ (1<=cG (bL cs) n b/\cG (bL cs) n b<=24)->∀ e H',Sep (xx (R.cad 7) [("many",tz (cG (bL cs) n b))] e false::aE R B dx d1 d2 kb cs (G++F)) H'->E e H'):ae tab R k 51 [sK B,v] H Q E:=by
 delta fN;left;refine⟨rfl,?_⟩;left;refine qx ro (k:=k-1) (n:=n) (ns:=(Nl.take i).map (·.1)) nofun hb (λw hw=>hcs w (by rw[List.map_take]at hw;exact mem_of_mem_take hw)) ok im z (λH1 z1=>?_);clear z;have fin:¬ (1<=cG (bL cs) n b/\cG (bL cs) n b<=24)->∀ e,H1 e=none->ae tab R (k-1) 6 [sK e,tz (cG (bL cs) n b)] (upd H1 e (.exc (R.cad 7) none [] true)) (λu H2=>u=ut/\∃ a i dx fs,sK e=sK a/\H2 a=some (.exc (R.cad i) dx fs true)/\tab.xc.contains i=true/\E a (upd H2 a (.exc (R.cad i) dx fs false))) E:=λhno e he=>
  iu nofun (z1.new he) (λd H3 hs3=>⟨rfl,jT (G:=⟨tab,R,ae tab R k,true⟩) hs3 .e rfl (λH4 hs4=>r hno e H4 (nE hs4))⟩)
 left;refine bZ (p:=1<=cG (bL cs) n b) (λh1=>?_) (λh1=>?_)
 .left;simp only[ro.g_MOST_ROWS];left;refine Ax (p:=cG (bL cs) n b<=24) (λh2=>?_) (λh2=>?_)
  rotate_left
  .left;refine⟨rfl,?_⟩;left;exact B8 ro hN hcs f hf40 (k:=k-1) nofun hf ok im bk (by have:=e9 hN hf ok;omega) z1 (q h1 h2)
  .right;exact fin λh=>h2 h.2
 .right;exact fin λh=>h1 h.1
noncomputable abbrev dR (R:Rt)(F:List ah)(v:V)(r:Rw):Prop:=∃ d,v=sK d/\aI R d r ∈ F
def Aw (ro:Ro K R)(hN:rG Nl nb (bL cs))(hcs:∀ w ∈ Nl.map (·.1),w ∈ cs.map (·.1)) (hb:kb.map (·.1)=g5 (cs.map (·.1))) (hf40:f<=40) (hk:3*f+13<=k) (hk3:3*n+7<=k) (hf:n+4*i<=f) (ok:lH ((Nl.take i).map (·.1)) n b) (im:jW R F n v b) (bk:ot R F kb Nl) (z:Sep (aE R B dx d1 d2 kb cs (G++F)) H)
  (q:1<=cG (bL cs) n b->cG (bL cs) n b<=24->∀ l vs Δ H',aT (dR R (Δ++F)) vs ((bc nb f b).map (·.2))->Sep (pt l (v0 vs)::aE R B dx d1 d2 kb cs (G++(Δ++F))) H'->Q (sK l) H')
  (r:¬ (1<=cG (bL cs) n b/\cG (bL cs) n b<=24)->∀ e H',Sep (xx (R.cad 7) [("many",tz (cG (bL cs) n b))] e false::aE R B dx d1 d2 kb cs (G++F)) H'->E e H'):ae tab R k 52 [sK B,v] H Q E:=by
 delta sW;left;refine⟨rfl,?_⟩;left;refine⟨rfl,?_⟩;left;refine mJ ro hN hcs hb hf40 (k:=k-1) nofun nofun hf ok im bk z (λg1 g2 l vs Δ H1 a z1=>?_) r;have hl24:vs.length<=24:=by rw[a.1];have:=e9 hN hf ok;omega
 left;refine pq z1.at ?_;refine kU (xs:=vs) nofun (λD ys H=>aT (dR R (Δ++F)) ys (((bc nb f b).map (·.2)).take ys.length)/\Sep (pt D (v0 ys)::pt l (v0 vs)::aE R B dx d1 d2 kb cs (G++(Δ++F))) H) (λD ys H ⟨_,z⟩=>aK.of (z.get .k1)) (λD hD=>⟨.nil,z1.new (o:=v0 []) hD⟩) (λD ys x H hx hI=>?_) (λD ys H hl2 hI=>?_)
 .obtain⟨a1,z2⟩:=hI;obtain⟨p,hp1,T,P,d,rfl,m1,m2,m3⟩:=a.get hx;have hyl:=(s0.mp hx).1;refine⟨T,sK P,sK d,rfl,bp.of (CH (G:=_::_::_::_::_::G) (F:=Δ++F) m1 z2),?_⟩;left;refine mG.mk z2.at nofun ⟨?_,z2.set rfl⟩;have e:((bc nb f b).map (·.2))[ys.length]? =some p.2:=by rw[ii,hp1];rfl
  rw[ci,f8,take_succ,e];exact a1.snoc ⟨d,rfl,m3⟩
 .obtain⟨a1,z2⟩:=hI;rw[hl2,a.1,take_of_length_le (by rw[ce];exact pc _)]at a1;exact q g1 g2 D ys Δ H a1 ((z2.pull .k1).drop)
end
abbrev uX (R:Rt)(F:List ah)(v:V):Prop:=(∃ d c dx fs,v=sK d/\pt d (wn (R.cad c) dx fs) ∈ F/\(c=13\/c=14\/c=15))\/∃ l vs,v=sK l/\pt l (v0 vs) ∈ F
def uX.mono {F F':List ah}(up:∀ A ∈ F,A ∈ F'):uX R F v->uX R F' v
 | .inl ⟨d,c,dx,fs,e,m,hc⟩=>.inl ⟨d,c,dx,fs,e,up _ m,hc⟩
 | .inr ⟨l,vs,e,m⟩=>.inr ⟨l,vs,e,up _ m⟩
abbrev dX (R:Rt)(F:List ah)(v:V):Prop:=∃ r,Rw.ok r/\dR R F v r
def dX.mono {F F':List ah}(up:∀ A ∈ F,A ∈ F'):dX R F v->dX R F' v:=λ⟨r,o,d,e,m⟩=>⟨r,o,d,e,up _ m⟩
def ub {P:V->Itm->Prop}:∀ {vs:List V},(∀ v ∈ vs,∃ i,P v i)->∃ b,aT P vs b
 | [],_=>⟨[],.nil⟩
 |v::vs,h=>by
  obtain⟨i,hi⟩:=h v lf;obtain⟨b,a⟩:=ub (vs:=vs) λv hv=>h v (dl _ hv)
  exact⟨i::b,aT.cons hi a⟩
def jl (hk:1<=k)(z:Sep O H)(q:∀ e H',Sep (xx (R.cad 4) [("at",v)] e false::O) H'->E e H'):∀ e,H e=none->ae tab R k 3 [sK e,v] (upd H e (.exc (R.cad 4) none [] true)) (λu H2=>u=ut/\∃ a i dx fs,sK e=sK a/\H2 a=some (.exc (R.cad i) dx fs true)/\tab.xc.contains i=true/\E a (upd H2 a (.exc (R.cad i) dx fs false))) E:=λe he=>by
 refine ic nofun (z.new he) (λd H3 hs3=>⟨rfl,?_⟩);exact jT (G:=⟨tab,R,ae tab R k,true⟩) hs3 .e rfl (λH4 hs4=>q e H4 (nE hs4))
section
variable {F G:List ah}{L:Addr}{xs:List V}{x:V}{j:Nat}
def qN (ro:Ro K R)(hk:2<=k)(m:pt L (v0 xs) ∈ F)(h1:1<=xs.length)(h2:xs.length<=24)(h:∀ (i:Nat) y,i<j->xs[i]? =some y->dX R F y) (e:xs[j]? =some x) (hx:uX R F x) (z:Sep (G++F) H) (q:∀ e H',Sep (xx (R.cad 4) [("at",tz j)] e false::(G++F)) H'->E e H'):ae tab R k 19 [sK L] H Q E:=by
 delta cy;left;refine fR (t:="list") (vc (fz m z)) rfl ?_;right;refine bb (fz m z) ?_;right;refine bZ (λ_=>?_) (λh=>absurd nofun h);left;simp only[ro.g_MOST_ROWS];right;refine bZ (λ_=>?_) (λh=>absurd nofun h);right;refine wV (fz m z) ?_;refine gr (xs:=xs) (λi U H=>∃ u v,U=[some (sK L),u,v]/\i<=j/\Sep (G++F) H) ?_ ?_ ?_ ?_
 .exact⟨none,none,rfl,Nat.zero_le _,z⟩
 .rintro i U H ⟨u,v,rfl,_,hs⟩;exact fz m hs
 .rintro i y T U H hy ⟨u,v,rfl,hi,hs⟩ hT;have hs4:=hs.dZ (xs:=[tz i,y]) hT;generalize upd H T _=H4 at hs4⊢;have eT:=hs4.atT;left;refine⟨T,_,rfl,.inl (bp.of eT),rfl,?_⟩;left
  by_cases he:i=j
  .subst he;rw[e]at hy;cases hy;rcases hx with⟨d,c,dx,fs,rfl,md,hc⟩|⟨l,vs,rfl,ml⟩
   .have ed:=fz (G:=tu T _::G) md hs4;rcases hc with rfl|rfl|rfl
    .refine ax ed rfl (b:=false) rfl ?_;right;exact jl nofun hs4 (λe H' z'=>q e H' (z'.sub (.cons .e (.drop .refl))))
    .refine ax ed rfl (b:=false) rfl ?_;right;exact jl nofun hs4 (λe H' z'=>q e H' (z'.sub (.cons .e (.drop .refl))))
    .refine ax ed rfl (b:=false) rfl ?_;right;exact jl nofun hs4 (λe H' z'=>q e H' (z'.sub (.cons .e (.drop .refl))))
   .refine Bp (vc (fz (G:=tu T _::G) ml hs4)) (b:=false) rfl ?_;right;exact jl nofun hs4 (λe H' z'=>q e H' (z'.sub (.cons .e (.drop .refl))))
  .obtain⟨r,_,a,rfl,ma⟩:=h i y nofun hy;obtain⟨dx,fs,ea⟩:=Bs (G:=tu T _::G) ma hs4;refine ax ea (gu r).1 (b:=true) (gu r).2 ?_;right;exact⟨_,_,rfl,by omega,hs4.drop⟩
 .rintro U H ⟨u,v,rfl,hi,hs⟩;have:=(s0.mp e).1
  omega
def Cs:(Bx.mk 0 0 0 1 0 0).ok:=⟨by decide,by decide,by decide,by decide,by decide,by decide⟩
def gx:nZ [1,2]:=λi hi=>by
 simp only[li,not_mem_nil,or_false]at hi;rcases hi with rfl|rfl<;>decide
def sQ {w:Bool}(ro:Ro K R)(hk:7<=k)(m:pt L (v0 xs) ∈ F)(h1:1<=xs.length)(h2:xs.length<=24)(h:∀ (i:Nat) y,i<j->xs[i]? =some y->dX R F y) (e:xs[j]? =some x) (hx:uX R F x) (z:Sep (G++F) H) (q:∀ t H',Sep (pt t (wf [ul "rows",tz j])::(G++F)) H'->Q (sK t) H'):ae tab R k 64 [.bl w,sK L] H Q E:=by
 delta cU;left;cases w with
 |true=>
  refine⟨rfl,?_⟩;left;refine bt rfl ?_;right;rename_i l H1 z1;intro a dx g1 g2 g3;refine eJ (cs:=[1,2]) ro nofun (by decide) (by decide) gx (aW z1 g1 g2 g3) .e (λH2 z2=>⟨rfl,?_⟩);right;intro b dx2 g1 g2 g3;refine d9 ro nofun Cs (aW z2 g1 g2 g3) (λH4 z4=>⟨rfl,?_⟩);right;intro mm dx3 g1 g2 g3;delta aR;right;delta aw;right;refine qN (G:=[_,_,_,_,_]++G) ro nofun m h1 h2 h e hx (aW z4 g1 g2 g3) (λe H5 z5=>?_);obtain⟨ed,z6⟩:=xC z5;left;refine⟨4,_,_,true,z6.at,rfl,rfl,?_⟩;right;rename_i t H7 z8;exact q t H7 (z8.sub (.cons .e (.drop (.drop (.drop (.drop (.drop (.drop (.drop .refl)))))))))
 |false=>
  refine⟨rfl,?_⟩;left;refine ck rfl ?_;right;rename_i l H1 z1;intro a dx g1 g2 g3;refine eJ (cs:=[1,2]) ro nofun (by decide) (by decide) gx (aW z1 g1 g2 g3) .e (λH2 z2=>⟨rfl,?_⟩);right;intro b dx2 g1 g2 g3;refine d9 ro nofun Cs (aW z2 g1 g2 g3) (λH4 z4=>⟨rfl,?_⟩);right;intro mm dx3 g1 g2 g3;delta aw;right;refine qN (G:=[_,_,_,_,_]++G) ro nofun m h1 h2 h e hx (aW z4 g1 g2 g3) (λe H5 z5=>?_);obtain⟨ed,z6⟩:=xC z5;left;refine⟨4,_,_,true,z6.at,rfl,rfl,?_⟩;right;rename_i t H7 z8;exact q t H7 (z8.sub (.cons .e (.drop (.drop (.drop (.drop (.drop (.drop (.drop .refl)))))))))
def ki {w:Bool}(ro:Ro K R)(hk:9<=k)(m:pt L (v0 xs) ∈ F)(h1:1<=xs.length)(h2:xs.length<=24)(h:∀ y ∈ xs,dX R F y) (z:Sep (G++F) H) (q:∀ t H',Sep (pt t (wf [ul "made",tz 0])::(G++F)) H'->Q (sK t) H'):ae tab R k 64 [.bl w,sK L] H Q E:=by
 delta cU;obtain⟨Δ,pL⟩:=c9 m;have hd:∀ {A1 A2 A3:ah},rK R (A1::A2::A3::(G++F)) xs:=λ{A1 A2 A3} v hv=>by
  obtain⟨r,_,a,rfl,ma⟩:=h v hv;obtain⟨Δ',p⟩:=c9 ma;exact⟨a,r,_,rfl,.t (.t (.t (aM p)))⟩
 left;cases w with
 |true=>
  refine⟨rfl,?_⟩;left;refine bt rfl ?_;right;rename_i l H1 z1;intro a dx g1 g2 g3;refine eJ (cs:=[1,2]) ro nofun (by decide) (by decide) gx (aW z1 g1 g2 g3) .e (λH2 z2=>⟨rfl,?_⟩);right;intro b dx2 g1 g2 g3;refine d9 ro nofun Cs (aW z2 g1 g2 g3) (λH4 z4=>⟨rfl,?_⟩);right;intro mm dx3 g1 g2 g3;refine uD (ds:=xs) (at_:=0) ro nofun h1 h2 nofun nofun (.t (.t (.t (aM pL)))) .k1 .e hd (aW z4 g1 g2 g3) (λl2 s2 b2 en H5 z5=>⟨rfl,?_⟩);right;rename_i t H7 z8;exact q t H7 (z8.sub (.cons .e (.drop (.drop (.drop (.drop (.drop (.drop (.drop .refl)))))))))
 |false=>
  refine⟨rfl,?_⟩;left;refine ck rfl ?_;right;rename_i l H1 z1;intro a dx g1 g2 g3;refine eJ (cs:=[1,2]) ro nofun (by decide) (by decide) gx (aW z1 g1 g2 g3) .e (λH2 z2=>⟨rfl,?_⟩);right;intro b dx2 g1 g2 g3;refine d9 ro nofun Cs (aW z2 g1 g2 g3) (λH4 z4=>⟨rfl,?_⟩);right;intro mm dx3 g1 g2 g3;refine pv (ds:=xs) (at_:=0) ro nofun h1 h2 nofun nofun (.t (.t (.t (aM pL)))) .k1 .e hd (aW z4 g1 g2 g3) (λl2 s2 b2 H5 z5=>⟨rfl,?_⟩);right;rename_i t H7 z8;exact q t H7 (z8.sub (.cons .e (.drop (.drop (.drop (.drop (.drop (.drop .refl))))))))
end
section
variable {F G:List ah}{h RW:Addr}{vs:List V}{m:Int}
def tT (ro:Ro K R)(hk:4<=k)(hm:m<=1099000000000)(mr:pt RW (v0 vs) ∈ F)(z:Sep (hand h m::(G++F)) H)(q:∀ v Δ H',uX R (Δ++F) v->Sep (hand h (m+2)::(G++(Δ++F))) H'->Q v H'):ae tab R k 65 [sK h,sK RW] H Q E:=by
 delta dF;walk_at "gd";rename_i r H1 r0 r1 z1;have fin:∀ {Δ:List ah}{v:V}{n:Int}{H:Hp},n<=m+2->uX R (Δ++F) v->Sep (hand h n::(G++(Δ++F))) H->Q v H:=λ{Δ v n H} hn nd z=>q v Δ H nd (jb z hn)
 refine dv (λg=>?_) (λg=>?_)
 .left;refine⟨rfl,?_⟩;left;intro x dx h1 h2 h3;refine kJ nofun (aW z1 h1 h2 h3) (λH2 z2=>⟨rfl,?_⟩);left;exact fin (Δ:=[pt x (wn (R.cad 13) dx [("called",ul "one")])]) nofun (.inl ⟨x,13,dx,_,rfl,lf,.inl rfl⟩) (toF (L:=[pt x _]) (G:=hand h (m+1)::G) ((z2.pull .k1).drop))
 left;refine eE rfl rfl ?_;left;refine dv (λg=>?_) (λg=>?_)
 .walk_at "gd";rename_i r H2 r2 r3 z2;refine lI z2 (λa da H3 z3=>?_);left;refine aF z3 (by show 1<=10000;omega) (λp H4 z4=>?_);left;have z5:=toF (L:=[pt p (v0 [sK a]),pt a (wn (R.cad 17) da []),pt da (.own a)]) (G:=hand h (m+1+1)::G) (F:=F) z4;intro x dx h1 h2 h3;refine g6 (F:=[pt p (v0 [sK a]),pt a (wn (R.cad 17) da []),pt da (.own a)]++F) (G:=pt dx (.own x)::hand h (m+1+1)::G) nofun lf (aW z5 h1 h2 h3) (λl H6 z6=>⟨rfl,?_⟩);left;have z7:Sep (pt x (wn (R.cad 14) dx [("many",tz (1+r)),("block",sK l)])::hand h (m+1+1)::(G++([pt p (v0 [sK a]),pt a (wn (R.cad 17) da []),pt da (.own a)]++F))) H6:=z6.sub (.cons .e (.cons .k2 (.drop (.drop .refl))));exact fin (Δ:=[pt x (wn (R.cad 14) dx [("many",tz (1+r)),("block",sK l)])]++[pt p (v0 [sK a]),pt a (wn (R.cad 17) da []),pt da (.own a)]) nofun (.inl ⟨x,14,dx,_,rfl,lf,.inr (.inl rfl)⟩) (toF (L:=[pt x _]) (G:=hand h (m+1+1)::G) (F:=[_,_,_]++F) z7)
 left;refine eE rfl rfl ?_;left;refine dv (λg=>?_) (λg=>?_)
 .walk_at "gd";rename_i r H2 r2 r3 z2;refine rl z2 (fz (G:=_::G) mr z2) (λp H3 z3=>?_);left;refine rl z3 (fz (G:=_::_::G) mr z3) (λp' H4 z4=>?_);left;generalize dq vs none (some 1)=v1 at z3 z4;generalize dq vs (some 1) (some 2)=v2 at z4;have z5:=toF (L:=[pt p' (v0 v2),pt p (v0 v1)]) (G:=hand h (m+1+1)::G) (F:=F) z4;intro x dx h1 h2 h3;refine pw (F:=[pt p' (v0 v2),pt p (v0 v1)]++F) (G:=pt dx (.own x)::hand h (m+1+1)::G) nofun (dl _ lf) lf (aW z5 h1 h2 h3) (λl l' H6 z6=>⟨rfl,?_⟩);left;have z7:Sep (pt x (wn (R.cad 15) dx [("on",tz r),("block",sK l),("other",sK l')])::hand h (m+1+1)::(G++([pt p' (v0 v2),pt p (v0 v1)]++F))) H6:=z6.sub (.cons .e (.cons .k3 (.drop (.drop (.drop .refl)))));exact fin (Δ:=[pt x (wn (R.cad 15) dx [("on",tz r),("block",sK l),("other",sK l')])]++[pt p' (v0 v2),pt p (v0 v1)]) nofun (.inl ⟨x,15,dx,_,rfl,lf,.inr (.inr rfl)⟩) (toF (L:=[pt x _]) (G:=hand h (m+1+1)::G) (F:=[_,_]++F) z7)
 left;refine⟨rfl,?_⟩;left;refine lI z1 (λa da H3 z3=>?_);left;refine aF z3 (by show 1<=10000;omega) (λp H4 z4=>?_);left;have z5:=toF (L:=[pt p (v0 [sK a]),pt a (wn (R.cad 18) da []),pt da (.own a)]) (G:=hand h (m+1)::G) (F:=F) z4;generalize eF:[pt p (v0 [sK a]),pt a (wn (R.cad 18) da []),pt da (.own a)]=F1 at z5;have hp1:pt p (v0 [sK a]) ∈ F1++F:=by rw[<-eF];exact lf
 clear eF z3 z4;intro x dx h1 h2 h3;refine iI (F:=F1++F) (G:=pt dx (.own x)::hand h (m+1)::G) nofun hp1 (aW z5 h1 h2 h3) (λl l' H6 z6=>⟨rfl,?_⟩);left;have z7:Sep (pt x (wn (R.cad 15) dx [("on",tz 0),("block",sK l),("other",sK l')])::hand h (m+1)::(G++(F1++F))) H6:=z6.sub (.cons .e (.cons .k3 (.drop (.drop (.drop .refl)))));have z8:=toF (L:=[pt x (wn (R.cad 15) dx [("on",tz 0),("block",sK l),("other",sK l')])]) (G:=hand h (m+1)::G) (F:=F1++F) z7;clear z5 z6 z7;refine⟨rfl,?_⟩;left;refine aF z8 (by decide) (λp2 H7 z9=>?_);left;generalize eX:pt x (wn (R.cad 15) dx [("on",tz 0),("block",sK l),("other",sK l')])=X at z8 z9;have z10:=toF (L:=[pt p2 (v0 [])]) (G:=hand h (m+1)::G) (F:=[X]++(F1++F)) z9;intro y dy h1 h2 h3;refine g6 (F:=[pt p2 (v0 [])]++([X]++(F1++F))) (G:=pt dy (.own y)::hand h (m+1)::G) nofun lf (aW z10 h1 h2 h3) (λl2 H8 z11=>⟨rfl,?_⟩);left;have z12:Sep (pt y (wn (R.cad 14) dy [("many",tz 0),("block",sK l2)])::hand h (m+1)::(G++([pt p2 (v0 [])]++([X]++(F1++F))))) H8:=z11.sub (.cons .e (.cons .k2 (.drop (.drop .refl))));have z13:=toF (L:=[pt y (wn (R.cad 14) dy [("many",tz 0),("block",sK l2)])]) (G:=hand h (m+1)::G) (F:=[pt p2 (v0 [])]++([X]++(F1++F))) z12;clear z8 z9 z10 z11 z12;refine lI z13 (λc dc H9 z14=>?_);left;refine aF z14 (by show 1<=10000;omega) (λp3 H10 z15=>?_);left;refine aF z15 (by show 3<=10000;omega) (λp4 H11 z16=>?_);left;have z17:=toF (L:=[pt p3 (v0 [sK c])]) (G:=hand h (m+1)::G) (F:=[pt y (wn (R.cad 14) dy [("many",tz 0),("block",sK l2)])]++([pt p2 (v0 [])]++([X]++(F1++F)))) (z16.sub (.cons .k1 (.drop (.drop (.drop .refl)))));have hrr:r=3\/r=4\/r=5:=by omega
 have eA:[pt p3 (v0 [sK c])]++([pt y (wn (R.cad 14) dy [("many",tz 0),("block",sK l2)])]++([pt p2 (v0 [])]++([X]++(F1++F))))=([pt p3 (v0 [sK c])]++([pt y (wn (R.cad 14) dy [("many",tz 0),("block",sK l2)])]++([pt p2 (v0 [])]++([X]++F1))))++F:=by simp only[jp]
 rw[eA]at z17;rcases hrr with rfl|rfl|rfl
 .refine pU (i:=3-3) z16.at (v:=sK x) rfl ?_;refine fin nofun ?_ z17;rw[<-eA,<-eX];exact .inl ⟨x,15,dx,_,rfl,aa (aa (aa lf)),.inr (.inr rfl)⟩
 .refine pU (i:=4-3) z16.at (v:=sK y) rfl ?_;refine fin nofun ?_ z17;rw[<-eA];exact .inl ⟨y,14,dy,_,rfl,aa lf,.inr (.inl rfl)⟩
 .refine pU (i:=5-3) z16.at (v:=sK p3) rfl ?_;refine fin nofun ?_ z17;rw[<-eA];exact .inr ⟨p3,_,rfl,lf⟩
end
def mW {T1 T2:Addr}{s:Str}(z:Sep (pt T1 (wf [ul s,tz i])::pt T2 (wf [ul s,tz i])::O) H)(q:Q (.bl false) H):g4 R.K true (sK T2) (sK T1) H Q:=by
 refine zG (n:=2) (Ad (n:=0) z.drop.at z.at rfl λj x y h1 h2=>?_) (by decide) z.ne.symm q;rcases j with _|_|j
 .cases h1;cases h2;have:=jF.flat (K:=R.K) (H:=H) (n:=1) (x:=ul s) (y:=ul s) rfl rfl
  rwa [kR rfl]at this
 .cases h1;cases h2;have:=jF.flat (K:=R.K) (H:=H) (n:=1) (x:=tz i) (y:=tz i) rfl rfl
  rwa [kR rfl]at this
 .cases h1
def oB {a i:Nat}(ha:a<=xs.length)(h:i<a):(xs.take a++v::xs.drop a)[i]? =xs[i]? :=by
 rw[getElem?_append_left (by rw[db];omega),List.getElem?_take_of_lt h]
def vC {a:Nat}(ha:a<=xs.length):(xs.take a++v::xs.drop a)[a]? =some v:=by
 rw[getElem?_append_right (by rw[db];omega),db,Nat.min_eq_left ha,Nat.sub_self]
 rfl
def rV {a:Nat}(ha:a<=xs.length):(xs.take a++v::xs.drop a).length=xs.length+1:=by
 rw[ci,length_cons,db,io]
 omega
def AA {y:V}(s:Sep O H)(r:cH (pt a (v0 xs)) (pt a (v0 (xs.take i.toNat++y::xs.drop i.toNat))) O Γ')(h0:0<=i)(h1:i<=xs.length)(hl:xs.length<=10000)(h:∀ H',Sep Γ' H'->Q ut H'):yP .insert a xs [tz i,y] H Q:=by unfold yP;exact⟨i,y,rfl,h0,h1,hl,h _ (s.put r rfl)⟩
def gW:∀ {ps:List Int},ps≠[]->∃ p ∈ ps,∀ q ∈ ps,p<=q
 | [],h=>absurd rfl h
 | [p],_=>⟨p,lf,λq hq=>by rw[mem_singleton.mp hq];exact Int.le_refl _⟩
 |p::r::ps,_=>by
  obtain⟨s,hs,hm⟩:=gW (ps:=r::ps) (cons_ne_nil _ _)
  by_cases h:p<=s
  .refine⟨p,lf,λq hq=>?_⟩;rcases li.mp hq with rfl|hq
   .exact Int.le_refl _
   .have:=hm q hq;omega
  .refine⟨s,dl _ hs,λq hq=>?_⟩;rcases li.mp hq with rfl|hq
   .omega
   .exact hm q hq
abbrev FB (R:Rt)(F:List ah)(ps:List Int)(xs:List V):Prop:=(∀ (i:Nat) y,xs[i]? =some y->(∀ p ∈ ps,(i:Int)<p)->dX R F y)/\∀ p ∈ ps,(∀ q ∈ ps,p<=q)->∃ x,xs[p.toNat]? =some x/\uX R F x
def FB.mono {F F':List ah}{ps:List Int}(up:∀ A ∈ F,A ∈ F') (h:FB R F ps xs):FB R F' ps xs:=⟨λi y e hp=>(h.1 i y e hp).mono up,λp hp hq=>let⟨x,e,n⟩:=h.2 p hp hq;⟨x,e,n.mono up⟩⟩
def FB.ins {F:List ah}{ps:List Int}{xs:List V}{a:Int}{v:V}(h:FB R F ps xs)(h0:∀ p ∈ ps,0<=p) (a0:0<=a) (a1:a<=xs.length) (nd:uX R F v):FB R F (ps++[a]) (xs.take a.toNat++v::xs.drop a.toNat):=by
 have ha:a.toNat<=xs.length:=by omega
 refine⟨λi y e hp=>?_,λp hp hq=>?_⟩
 .have hi:(i:Int)<a:=hp a (by simp);rw[oB ha nofun]at e;exact h.1 i y e λp hm=>hp p (mem_append_left _ hm)
 .by_cases e:p=a
  .subst e;exact⟨v,vC ha,nd⟩
  .have hpa:p<=a:=hq a (by simp);have hm:p ∈ ps:=by
    rcases mem_append.mp hp with hm|hm
    .exact hm
    .exact absurd (mem_singleton.mp hm) e
   obtain⟨x,ex,nx⟩:=h.2 p hm λq hm2=>hq q (mem_append_left _ hm2)
   have:=h0 p hm;exact⟨x,by rw[oB ha nofun];exact ex,nx⟩
def sA:(dq xs none (some (n:Int))).length<=n/\∀ y ∈ dq xs none (some (n:Int)),y ∈ xs:=by
 unfold dq;show((xs.drop 0).take ((if(n:Int)<0 then((n:Int)+(xs.length:Int)).toNat else min (n:Int).toNat xs.length)-0)).length<=n/\∀ y ∈ (xs.drop 0).take _,y ∈ xs;rw[if_neg nofun,pi];refine⟨?_,λy hy=>?_⟩
 .rw[db]
  omega
 .exact mem_of_mem_take hy
abbrev Bd:ie->ie
 | .cons (.for _ _ b) _=>b
 |_=>.nil
section
variable {F:List ah}{h B dx0 d1 d2:Addr}{kb:List (Key×V)}{cs:List (Str×Int)}{m:Int}
noncomputable abbrev gY:List Itm:=[.row (.lg .copy),.row (.lg .turn)]
noncomputable abbrev bw:Str:="one"
noncomputable abbrev av:List (Str×Int):=[(bw,2)]
noncomputable abbrev o8:List (Str×List Itm):=[(bw,gY)]
def vx:rG o8 (λ_=>gY) (bL av):=⟨λj w b e=>by
 rcases j with _|j
 .cases e;refine⟨rfl,⟨by decide,λi hi=>?_⟩,rfl⟩;simp only[li,not_mem_nil,or_false]at hi;rcases hi with rfl|rfl<;>exact True.intro
 .cases e⟩
abbrev tj (R:Rt)(h B dx0 d1 d2:Addr)(kb:List (Key×V))(F:List ah)(m:Int)(sc:V)(j:Nat)(U:St)(H:Hp):Prop:=∃ u3 u4 u5 u6 u7 u8 u9 u10,U=[some sc,some (sK h),some (sK B),u3,u4,u5,u6,u7,u8,u9,u10]/\∃ Δ,Sep (hand h (m+(j:Int)*1000)::aE R B dx0 d1 d2 kb av (Δ++F)) H
def AE {D:Ends}{E:St->XK}{sc:V}{u3 u4 u6 u7 u8 u9 u10:Option V}{RW:Addr}(ro:Ro K R)(hk:40<=k)(hkb:kb.map (·.1)=g5 (av.map (·.1)))(bk:ot R F kb o8)(mr:pt RW (v0 vs) ∈ F)(n0:1<=vs.length)(n1:vs.length<=21)(hd:∀ v ∈ vs,dX R F v) (z:Sep (hand h m::aE R B dx0 d1 d2 kb av F) H) (q:∀ σ' H',(∃ u3 u4 u5 u6 u7 u8 u9 u10,σ'=[some sc,some (sK h),some (sK B),u3,u4,u5,u6,u7,u8,u9,u10]/\∃ Δ,Sep (hand h m::aE R B dx0 d1 d2 kb av (Δ++F)) H')->D.nx σ' H'):
  wB (nY 6 (Bd (nY 3 lC.body))) ⟨tab,R,ae tab R (k-1),true⟩ D E [some sc,some (sK h),some (sK B),u3,u4,some (sK RW),u6,u7,u8,u9,u10] H:=by
 have hb0:bL av bw=2:=rfl;left;refine⟨rfl,?_⟩;left;intro x dx g1 g2 g3;have z0:Sep (([hand h m,pt B (wn (R.cad 16) dx0 [("blocks",sK d1),("counts",sK d2)]),pt d1 (.dK kb),pt d2 (.dK (g7 av))])++F) H:=z;refine kJ nofun (aW z0 g1 g2 g3) (λH2 z2=>⟨rfl,?_⟩);left;have z3:=toF (L:=[pt x (wn (R.cad 13) dx [("called",ul "one")])]) (G:=[_,_,_,_]) (F:=F) ((z2.pull .k1).drop);clear z z0 z2;refine⟨rfl,?_⟩;left;refine rl z3 (fz (G:=[_,_,_,_]) (F:=[_]++F) (aa mr) z3) (λp H3 z4=>?_);have cut3:=sA (xs:=vs) (n:=3);have cut2:=sA (xs:=vs) (n:=2);have al:∀ {ys:List V}{F':List ah},(∀ A ∈ F,A ∈ F')->(∀ y ∈ ys,y ∈ vs)->∃ b:List Itm,aT (kN R F' 0) ys b/\∀ i ∈ b,uh [bw] 0 i/\ow (bL av) 0 i=1:=λ{ys F'} up hy=>by
  obtain⟨b,a⟩:=ub (P:=λv i=>kN R F' 0 v i/\uh [bw] 0 i/\ow (bL av) 0 i=1) (vs:=ys) λv hv=>by
   obtain⟨r,o,d,e,md⟩:=hd v (hy v hv);exact⟨.row r,⟨d,e,up _ md⟩,o,rfl⟩
  refine⟨b,a.map λv i h=>h.1,λi hi=>?_⟩;obtain⟨t,ht⟩:=mem_iff_getElem?.mp hi;have htl:=(s0.mp ht).1;have e2:ys[t]? =some (ys[t]'(by rw[a.1];exact htl)):=le _;exact(a.2 t _ _ e2 ht).2
 have cnt:∀ {b:List Itm},(∀ i ∈ b,uh [bw] 0 i/\ow (bL av) 0 i=1)->(b.map (ow (bL av) 0)).sum=b.length:=λ{b} hh=>by
  induction b with
  |nil=>rfl
  |cons i b ih=>
   rw[map_cons,sum_cons,(hh i lf).2,ih λi hi=>hh i (dl _ hi),length_cons]
   omega
 generalize dq vs none (some 3)=v3 at z4 cut3;left;have z5:=toF (L:=[pt p (v0 v3)]) (G:=[_,_,_,_]) (F:=[pt x (wn (R.cad 13) dx [("called",ul "one")])]++F) z4;intro y dy g1 g2 g3;refine g6 (F:=[pt p (v0 v3)]++([pt x (wn (R.cad 13) dx [("called",ul "one")])]++F)) (G:=[_,_,_,_,_]) nofun lf (aW z5 g1 g2 g3) (λl H6 z6=>⟨rfl,?_⟩);left;have z7:Sep (([pt y (wn (R.cad 14) dy [("many",tz 1),("block",sK l)]),pt l (v0 v3)]++([hand h m,pt B (wn (R.cad 16) dx0 [("blocks",sK d1),("counts",sK d2)]),pt d1 (.dK kb),pt d2 (.dK (g7 av))]++([pt p (v0 v3)]++([pt x (wn (R.cad 13) dx [("called",ul "one")])]++F))))) H6:=z6.sub (.cons .e (.cons .e (.drop .refl)));have z8:=toF z7;clear z3 z4 z5 z6 z7;refine⟨rfl,?_⟩;left;refine rl z8 (fz (G:=[_,_,_,_]) (F:=[_,_]++([_]++([_]++F))) (aa (aa (aa mr))) z8) (λp2 H7 z9=>?_);generalize dq vs none (some 2)=v2 at z9 cut2;left;have z10:=toF (L:=[pt p2 (v0 v2)]) (G:=[_,_,_,_]) (F:=[pt y (wn (R.cad 14) dy [("many",tz 1),("block",sK l)]),pt l (v0 v3)]++([pt p (v0 v3)]++([pt x (wn (R.cad 13) dx [("called",ul "one")])]++F))) z9;intro u du g1 g2 g3;refine iI (F:=[pt p2 (v0 v2)]++([pt y (wn (R.cad 14) dy [("many",tz 1),("block",sK l)]),pt l (v0 v3)]++([pt p (v0 v3)]++([pt x (wn (R.cad 13) dx [("called",ul "one")])]++F)))) (G:=[_,_,_,_,_]) nofun lf (aW z10 g1 g2 g3) (λl2 l3 H8 z11=>⟨rfl,?_⟩);left;refine aF z11 (by show 3<=10000;omega) (λit H9 z12=>?_);left;have z13:Sep ([pt it (v0 [sK x,sK y,sK u]),pt u (wn (R.cad 15) du [("on",tz 1),("block",sK l2),("other",sK l3)]),pt l2 (v0 v2),pt l3 (v0 [])]++([hand h m,pt B (wn (R.cad 16) dx0 [("blocks",sK d1),("counts",sK d2)]),pt d1 (.dK kb),pt d2 (.dK (g7 av))]++([pt p2 (v0 v2)]++([pt y (wn (R.cad 14) dy [("many",tz 1),("block",sK l)]),pt l (v0 v3)]++([pt p (v0 v3)]++([pt x (wn (R.cad 13) dx [("called",ul "one")])]++F)))))) H9:=z12.sub (.cons .e (.cons .e (.cons .e (.cons .e (.drop .refl)))));have z14:=toF z13;clear z8 z9 z10 z11 z12 z13;obtain⟨Δ,eF,mx,my,ml,mu,ml2,ml3,mit⟩:∃ Δ,[pt it (v0 [sK x,sK y,sK u]),pt u (wn (R.cad 15) du [("on",tz 1),("block",sK l2),("other",sK l3)]),pt l2 (v0 v2),pt l3 (v0 [])]++([pt p2 (v0 v2)]++([pt y (wn (R.cad 14) dy [("many",tz 1),("block",sK l)]),pt l (v0 v3)]++([pt p (v0 v3)]++([pt x (wn (R.cad 13) dx [("called",ul "one")])]++F))))=Δ++F/\pt x (wn (R.cad 13) dx [("called",ul "one")]) ∈ Δ++F/\pt y (wn (R.cad 14) dy [("many",tz 1),("block",sK l)]) ∈ Δ++F/\pt l (v0 v3) ∈ Δ++F/\pt u (wn (R.cad 15) du [("on",tz 1),("block",sK l2),("other",sK l3)]) ∈ Δ++F/\pt l2 (v0 v2) ∈ Δ++F/\pt l3 (v0 []) ∈ Δ++F/\pt it (v0 [sK x,sK y,sK u]) ∈ Δ++F:=⟨[pt it (v0 [sK x,sK y,sK u]),pt u (wn (R.cad 15) du [("on",tz 1),("block",sK l2),("other",sK l3)]),pt l2 (v0 v2),pt l3 (v0 []),pt p2 (v0 v2),pt y (wn (R.cad 14) dy [("many",tz 1),("block",sK l)]),pt l (v0 v3),pt p (v0 v3),pt x (wn (R.cad 13) dx [("called",ul "one")])],rfl,by simp,by simp,by simp,by simp,by simp,by simp,by simp⟩;rw[eF]at z14;clear eF;have z15:Sep (aE R B dx0 d1 d2 kb av ([hand h m]++(Δ++F))) H9:=z14.sub (.cons .k1 (.cons .k1 (.cons .k1 (.cons .e .refl))));clear z14;obtain⟨i3,a3,o3⟩:=al (F':=Δ++F) (λA=>aa) cut3.2;obtain⟨i2,a2,o2⟩:=al (F':=Δ++F) (λA=>aa) cut2.2;have n3:=cnt o3;have n2:=cnt o2;have l3':i3.length<=3:=by rw[<-a3.1];exact cut3.1
 have l2':i2.length<=2:=by rw[<-a2.1];exact cut2.1
 have im:jW R (Δ++F) 1 (sK it) [.dO bw,.tms 1 i3,.whn 1 i2 []]:=⟨it,_,rfl,mit,aT.cons ⟨x,dx,rfl,mx⟩ (aT.cons ⟨y,dy,l,v3,rfl,my,ml,a3⟩ (aT.cons ⟨u,du,l2,v2,l3,[],rfl,mu,⟨ml2,a2⟩,ml3,.nil⟩ .nil))⟩;have ok:lH [bw] 1 [.dO bw,.tms 1 i3,.whn 1 i2 []]:=by
  refine⟨by show 3<=30;omega,λi hi=>?_⟩;simp only[li,not_mem_nil,or_false]at hi;rcases hi with rfl|rfl|rfl
  .exact lf
  .exact⟨⟨by decide,by decide⟩,by omega,λi hi=>(o3 i hi).1⟩
  .exact⟨.inr rfl,⟨by omega,λi hi=>(o2 i hi).1⟩,by decide,λi hi=>(by cases hi)⟩
 have ec:cG (bL av) 1 [.dO bw,.tms 1 i3,.whn 1 i2 []]=2+(1*(i3.length:Int)+((1+(i2.length:Int)+0+0)+0)):=by
  rw[<-n3,<-n2]
  rfl
 refine⟨rfl,?_⟩;left;refine⟨rfl,?_⟩;left;refine Aw ro vx (f:=5) (i:=1) (n:=1) (F:=Δ++F) (G:=[hand h m]) (λw h=>h) hkb nofun (k:=k-1) nofun nofun nofun ok im (bk.mono λA=>aa) z15 (λg1 g2 fl ws Δ1 H10 a z16=>?_) (λhno=>absurd ⟨by rw[ec];omega,by rw[ec];omega⟩ hno);have wl:(ws.length:Int)=cG (bL av) 1 [.dO bw,.tms 1 i3,.whn 1 i2 []]:=by
  rw[a.1,ce];exact e9 vx (n:=1) (i:=1) nofun ok
 have okr:∀ v ∈ ws,dX R ([pt fl (v0 ws)]++(Δ1++(Δ++F))) v:=λv hv=>by
  obtain⟨t,ht⟩:=mem_iff_getElem?.mp hv;obtain⟨r,hr,d,e,md⟩:=a.get ht;obtain⟨p',hp',rfl⟩:=List.mem_map.mp (cr hr);refine⟨p'.2,?_,d,e,aa md⟩;refine fv (λx hx hl=>AX (ns:=[]) vx (n:=1) (i:=1) nofun (ok.2 x hx) hl) ?_ p' hp';have:=e9 vx (f:=5) (n:=1) (i:=1) nofun ok;show(bc (λ_=>gY) 5 [.dO bw,.tms 1 i3,.whn 1 i2 []]).length<=24
  omega
 have z17:=toF (L:=[pt fl (v0 ws)]) (G:=[_,_,_,hand h m]) (F:=Δ1++(Δ++F)) z16;left;refine ki (w:=true) (F:=[pt fl (v0 ws)]++(Δ1++(Δ++F))) (G:=[_,_,_,hand h m]) ro (k:=k-1) nofun lf nofun nofun okr z17 (λt H11 z18=>?_);left;refine cW z18 (by show 2<=10000;omega) (λt2 H12 z19=>?_);left;refine mW z19 ?_;left;refine ck rfl ?_;left;refine q _ _ ⟨_,_,_,_,_,_,_,_,rfl,[pt fl (v0 ws)]++(Δ1++Δ),?_⟩;have z20:=z19.drop.drop;rw[jp,jp];exact z20.sub (.cons .k3 (.cons .e (.cons .e (.cons .e .refl))))
end
section
variable {F:List ah}{h B dx0 d1 d2:Addr}{kb:List (Key×V)}{m:Int}
def y0 {D:Ends}{E:St->XK}{sc:V}{j:Nat}{U:St}(ro:Ro K R)(hk:40<=k)(hj:j<6)(hm:m<=1000000)(hkb:kb.map (·.1)=g5 (av.map (·.1)))(bk:ot R F kb o8)(hI:tj R h B dx0 d1 d2 kb F m sc j U H)(q:∀ σ' H',tj R h B dx0 d1 d2 kb F m sc (j+1) σ' H'->D.nx σ' H'):
  wB (Bd (nY 3 lC.body)) ⟨tab,R,ae tab R (k-1),true⟩ D E (U.set 3 (some (tz (0+(j:Int))))) H:=by
 obtain⟨u3,u4,u5,u6,u7,u8,u9,u10,rfl,Δ,z⟩:=hI;left;refine lI z (λa1 e1 H1 z1=>?_);have z1:=vZ z1;clear z;left;refine lI z1 (λa2 e2 H2 z2=>?_);have z2:=vZ z2;clear z1;left;refine⟨rfl,?_⟩;left;intro a3 e3 g1 g2 g3;refine pf (n:=1) (o:=none) ro nofun nofun nofun True.intro (aW z2 g1 g2 g3) (λH3 z3=>⟨rfl,?_⟩);left;refine⟨rfl,?_⟩;left;intro a4 e4 g1 g2 g3;refine A5 (n:=Bn.m) (i:=1) ro nofun nofun nofun (aW z3 g1 g2 g3) (λH4 z4=>⟨rfl,?_⟩);left;refine aF z4 (by show 4<=10000;omega) (λS H5 z5=>?_);left;have z6:=toF (L:=[pt S (v0 [sK a1,sK a2,sK a3,sK a4]),aI R a4 (.sp (.set .m 1)),aI R a3 (.hop 1 none),aI R a2 (.lg .turn),aI R a1 (.lg .copy)]) (G:=hand h (m+(j:Int)*1000)::aE R B dx0 d1 d2 kb av []) (F:=Δ++F) z5;clear z2 z3 z4 z5;have h4:∀ v ∈ [sK a1,sK a2,sK a3,sK a4],dX R ([pt S (v0 [sK a1,sK a2,sK a3,sK a4]),aI R a4 (.sp (.set .m 1)),aI R a3 (.hop 1 none),aI R a2 (.lg .turn),aI R a1 (.lg .copy)]++(Δ++F)) v:=λv hv=>by
  simp only[li,not_mem_nil,or_false]at hv;rcases hv with rfl|rfl|rfl|rfl
  .exact⟨.lg .copy,True.intro,a1,rfl,by simp⟩
  .exact⟨.lg .turn,True.intro,a2,rfl,by simp⟩
  .exact⟨.hop 1 none,⟨⟨by omega,by omega⟩,True.intro⟩,a3,rfl,by simp⟩
  .exact⟨.sp (.set .m 1),⟨by omega,by omega⟩,a4,rfl,by simp⟩
 have mS:pt S (v0 [sK a1,sK a2,sK a3,sK a4]) ∈ [pt S (v0 [sK a1,sK a2,sK a3,sK a4]),aI R a4 (.sp (.set .m 1)),aI R a3 (.hop 1 none),aI R a2 (.lg .turn),aI R a1 (.lg .copy)]++(Δ++F):=lf;obtain⟨Δ',eD⟩:∃ Δ',[pt S (v0 [sK a1,sK a2,sK a3,sK a4]),aI R a4 (.sp (.set .m 1)),aI R a3 (.hop 1 none),aI R a2 (.lg .turn),aI R a1 (.lg .copy)]++(Δ++F)=Δ'++F:=⟨[pt S (v0 [sK a1,sK a2,sK a3,sK a4]),aI R a4 (.sp (.set .m 1)),aI R a3 (.hop 1 none),aI R a2 (.lg .turn),aI R a1 (.lg .copy)]++Δ,by rw[jp]⟩;rw[eD]at h4 mS z6;clear eD;have z7:Sep (hand h (m+(j:Int)*1000)::aE R B dx0 d1 d2 kb av (Δ'++F)) H5:=z6;clear z6;obtain⟨m1,em,hm1⟩:∃ m1,m+(j:Int)*1000=m1/\m1<=2000000:=⟨_,rfl,by omega⟩;rw[em]at z7;have fin:∀ {s3 s4 s5 s6 s7 s8 s9 s10:Option V}{H':Hp},(∃ Δ,Sep (hand h (m1+1000)::aE R B dx0 d1 d2 kb av (Δ++F)) H')->D.nx [some sc,some (sK h),some (sK B),s3,s4,s5,s6,s7,s8,s9,s10] H':=λ{s3 s4 s5 s6 s7 s8 s9 s10 H'} hz=>q _ _ ⟨_,_,_,_,_,_,_,_,rfl,by
  obtain⟨Δ2,z⟩:=hz;refine⟨Δ2,?_⟩;rw[show m+((j+1:Nat):Int)*1000=m1+1000 by omega];exact z⟩
 clear em q;walk_at "gd";rename_i r H6 r0 r1 z8;refine sv (n:=(1+r).toNat) nofun (λD ys H=>(∀ x ∈ ys,dX R (Δ'++F) x)/\Sep (pt D (v0 ys)::hand h (m1+1+((ys.length:Nat):Int))::aE R B dx0 d1 d2 kb av (Δ'++F)) H) (λD hD=>⟨λ_ h=>absurd h (by simp),(z8.new (o:=v0 []) hD).sub (by rw[show m1+1+((([]:List V).length:Nat):Int)=m1+1 by simp];exact .refl)⟩) (λD ys H hl hI=>?_) (λRW vs H hl hI=>?_)
 .obtain⟨hx,zz⟩:=hI;clear z8 z7;walk_at "gd";rename_i r2 H7 r20 r21 zz2;obtain⟨v,hv,hmem⟩:=gK (xs:=[sK a1,sK a2,sK a3,sK a4]) r20 (by simpa using r21);refine pU (fz (G:=[_,_,_,_,_]) (F:=Δ'++F) mS zz2) hv ?_;have zz3:=(zz2.pull (A:=pt D (v0 ys)) (by symm)).set (o':=v0 (ys++[v])) rfl;refine ql.mk (zz2.get (by symm)) nofun ⟨λx hx2=>?_,?_⟩
  .rcases mem_append.mp hx2 with hx2|hx2
   .exact hx x hx2
   .rw[mem_singleton.mp hx2];exact h4 v hmem
  .rw[show m1+1+(((ys++[v]).length:Nat):Int)=m1+1+((ys.length:Nat):Int)+1 by rw[ci,f8];omega];exact zz3.sub (by ac_nf)
 obtain⟨hd,zr⟩:=hI;have n0:1<=vs.length:=by omega
 have n1:vs.length<=21:=by omega
 clear z7 z8;have zr:=jb (n:=m1+30) (zr.pull .k1) nofun;walk_at "gd";rename_i r2 H8 r20 r21 z9;refine sv (n:=(1+r2).toNat) nofun (λD ys H=>(∃ ps:List Int,ys=ps.map tz/\∀ p ∈ ps,0<=p/\p<=vs.length)/\Sep (pt D (v0 ys)::hand h (m1+31+((ys.length:Nat):Int))::pt RW (v0 vs)::aE R B dx0 d1 d2 kb av (Δ'++F)) H) (λD hD=>⟨⟨[],rfl,λ_ h=>absurd h (by simp)⟩,?_⟩) (λD ys H hl hI=>?_) (λP ys H hl hI=>?_)
 .rw[show m1+31+((([]:List V).length:Nat):Int)=m1+30+1 by simp;omega];exact z9.new (o:=v0 []) hD |>.sub .refl
 .obtain⟨⟨ps,rfl,hps⟩,zz⟩:=hI;clear z9 zr;walk_at "gd";rename_i r3 H9 r30 r31 zz2;have zz3:=(zz2.pull (A:=pt D (v0 (ps.map tz))) .k1).set (o':=v0 (ps.map tz++[tz r3])) rfl;refine ql.mk (zz2.get .k1) (by rw[ce]at hl⊢;omega) ⟨⟨ps++[r3],by rw[dL];rfl,λp hp=>?_⟩,?_⟩
  .rcases mem_append.mp hp with hp|hp
   .exact hps p hp
   .rw[mem_singleton.mp hp];exact⟨r30,by omega⟩
  .rw[show m1+31+(((ps.map tz++[tz r3]).length:Nat):Int)=m1+31+(((ps.map tz).length:Nat):Int)+1 by rw[ci,f8];omega];exact zz3.sub (by ac_nf)
 obtain⟨⟨ps,rfl,hps⟩,zP⟩:=hI;rw[ce]at hl;have p0:ps≠[]:=λe=>by rw[e]at hl;simp at hl;omega
 have p2:ps.length<=2:=by omega
 clear z9 zr;have zP:=jb (n:=m1+40) (zP.pull .k1) (by rw[ce];omega);left;refine bB zP (zP.get .k2) (λFL H9 zL=>?_);left;have zM:=toF (L:=[pt P (v0 (ps.map tz)),pt RW (v0 vs)]) (G:=pt FL (v0 vs)::hand h (m1+40)::aE R B dx0 d1 d2 kb av []) (F:=Δ'++F) (zL.sub (.cons .k2 (.cons .k2 (.cons .e (.cons .e .refl)))));clear zP zL;have mP:pt P (v0 (ps.map tz)) ∈ [pt P (v0 (ps.map tz)),pt RW (v0 vs)]++(Δ'++F):=lf;have mR:pt RW (v0 vs) ∈ [pt P (v0 (ps.map tz)),pt RW (v0 vs)]++(Δ'++F):=dl _ lf;have hd:∀ x ∈ vs,dX R ([pt P (v0 (ps.map tz)),pt RW (v0 vs)]++(Δ'++F)) x:=λx hx=>(hd x hx).mono λA=>aa
 obtain⟨Δ2,eD⟩:∃ Δ2,[pt P (v0 (ps.map tz)),pt RW (v0 vs)]++(Δ'++F)=Δ2++F:=⟨[pt P (v0 (ps.map tz)),pt RW (v0 vs)]++Δ',by rw[jp]⟩;rw[eD]at zM mP mR hd;clear eD h4 mS;have zM:Sep (pt FL (v0 vs)::hand h (m1+40)::aE R B dx0 d1 d2 kb av (Δ2++F)) H9:=zM;refine⟨rfl,?_⟩;left;refine pq (fz (G:=[_,_,_,_,_]) (F:=Δ2++F) mP zM) ?_;refine gj (xs:=ps.map tz) (λi U H=>∃ u8,U=[some sc,some (sK h),some (sK B),some (tz (0+(j:Int))),some (sK S),some (sK RW),some (sK P),some (sK FL),u8,u9,u10]/\∃ Δ3 ws,ws.length=vs.length+i/\FB R (Δ3++(Δ2++F)) (ps.take i) ws/\Sep (pt FL (v0 ws)::hand h (m1+40+2*(i:Int))::aE R B dx0 d1 d2 kb av (Δ3++(Δ2++F))) H) ⟨_,rfl,[],vs,rfl,⟨λi y e _=>hd y (cr e),λp hp=>absurd hp (by simp)⟩,by rw[show m1+40+2*((0:Nat):Int)=m1+40 by omega];exact zM⟩ ?_ ?_ ?_
 .rintro i U H ⟨u8,rfl,Δ3,ws,_,_,z⟩;exact aK.of (fz (G:=[_,_,_,_,_]) (F:=Δ3++(Δ2++F)) (aa mP) z)
 .rintro i x U H hx ⟨u8,rfl,Δ3,ws,hw,fb,z⟩;rw[ii]at hx;obtain⟨a,ha,rfl⟩:=lw.mp hx;have ha2:=hps a (cr ha);have hil:=(s0.mp ha).1;left;refine⟨FL,ws,rfl,z.at,?_⟩;left;refine⟨rfl,?_⟩;left;refine tT ro (k:=k-1) (F:=Δ3++(Δ2++F)) (G:=pt FL (v0 ws)::aE R B dx0 d1 d2 kb av []) nofun nofun (aa mR) (z.pull .k1) (λv Δ4 H10 nd z2=>?_);left;have z3:Sep (pt FL (v0 ws)::hand h (m1+40+2*(i:Int)+2)::aE R B dx0 d1 d2 kb av (Δ4++(Δ3++(Δ2++F)))) H10:=z2.pull .k1;refine⟨ws,z3.at,AA z3 .e nofun nofun nofun (λH11 z4=>?_)⟩;left;refine⟨_,rfl,Δ4++Δ3,ws.take a.toNat++v::ws.drop a.toNat,?_,?_,?_⟩
  .rw[rV nofun];omega
  .rw[take_succ,ha,jp];exact(fb.mono λA=>aa).ins (λp hp=>(hps p (mem_of_mem_take hp)).1) nofun nofun nd
  .rw[jp,show m1+40+2*((i+1:Nat):Int)=m1+40+2*(i:Int)+2 by omega];exact z4
 .rintro U H ⟨u8,rfl,Δ3,ws,hw,fb,z⟩;rw[ce,take_of_length_le (pc _)]at fb;rw[ce]at hw z;obtain⟨p,hp,hl2⟩:=gW p0;obtain⟨x,ex,nx⟩:=fb.2 p hp hl2;have hpp:=hps p hp;clear zM;have z2:=toF (L:=[pt FL (v0 ws)]) (G:=hand h (m1+40+2*(ps.length:Int))::aE R B dx0 d1 d2 kb av []) (F:=Δ3++(Δ2++F)) z;left;refine⟨rfl,?_⟩;left;refine aF z2 (by show 2<=10000;omega) (λTF H10 z3=>?_);left;refine pq z3.at ?_;have hdd:∀ (i:Nat) y,i<p.toNat->ws[i]? =some y->dX R ([pt FL (v0 ws)]++(Δ3++(Δ2++F))) y:=λi y hi e=>(fb.1 i y e λq hq=>by have:=hl2 q hq;omega).mono λA=>aa
  refine gj (xs:=[.bl true,.bl false]) (λi U H=>∃ u9,U=[some sc,some (sK h),some (sK B),some (tz (0+(j:Int))),some (sK S),some (sK RW),some (sK P),some (sK FL),u8,u9,u10]/\Sep (pt TF (v0 [.bl true,.bl false])::hand h (m1+40+2*(ps.length:Int))::aE R B dx0 d1 d2 kb av ([pt FL (v0 ws)]++(Δ3++(Δ2++F)))) H) ⟨_,rfl,z3⟩ ?_ ?_ ?_
  .rintro i U H ⟨u9,rfl,z⟩;exact aK.of z.at
  .rintro i y U H hy ⟨u9,rfl,z⟩;obtain⟨w,rfl⟩:∃ w,y=.bl w:=by
    rcases i with _|_|i
    .cases hy;exact⟨_,rfl⟩
    .cases hy;exact⟨_,rfl⟩
    .cases hy
   left;refine⟨rfl,?_⟩;left;refine sQ (F:=[pt FL (v0 ws)]++(Δ3++(Δ2++F))) (G:=[_,_,_,_,_]) (j:=p.toNat) ro (k:=k-1) nofun lf nofun nofun hdd ex (nx.mono λA=>aa) z (λt H11 z4=>?_);left;refine wj rfl (fz (G:=[_,_,_,_,_,_]) (F:=[pt FL (v0 ws)]++(Δ3++(Δ2++F))) (aa (aa mP)) z4) hp hl2 ?_;left;rw[Int.toNat_of_nonneg hpp.1]at z4;refine cW z4 (by show 2<=10000;omega) (λt2 H12 z5=>?_);left;refine mW z5 ?_;left;refine ck rfl ?_;left;refine⟨rfl,?_⟩;left;refine ki (F:=[pt FL (v0 ws)]++(Δ3++(Δ2++F))) (G:=[_,_,_,_,_]) ro (k:=k-1) nofun (aa (aa mR)) nofun nofun (λy hy=>(hd y hy).mono λA h=>aa (aa h)) (z5.drop.drop) (λt3 H13 z6=>?_);left;refine cW z6 (by show 2<=10000;omega) (λt4 H14 z7=>?_);left;refine mW z7 ?_;left;refine ck rfl ?_;left;exact⟨_,rfl,z7.drop.drop⟩
  .rintro U H ⟨u9,rfl,z⟩;left;have z4:Sep (hand h (m1+1000)::aE R B dx0 d1 d2 kb av ([pt FL (v0 ws)]++(Δ3++(Δ2++F)))) H:=jb z.drop nofun;refine AE (k:=k) (F:=[pt FL (v0 ws)]++(Δ3++(Δ2++F))) ro hk hkb (bk.mono λA h=>aa (aa (aa h))) (aa (aa mR)) n0 n1 (λy hy=>(hd y hy).mono λA h=>aa (aa h)) z4 (λσ' H' hh=>?_);obtain⟨v3,v4,v5,v6,v7,v8,v9,v10,rfl,Δ5,z5⟩:=hh;exact fin ⟨Δ5++([pt FL (v0 ws)]++(Δ3++Δ2)),by simpa only [jp] using z5⟩
end
def za (ro:Ro K R)(hk:40<=k):∀ vs H Q E,fU K 63 vs H Q E->ae tab R k 66 vs H Q E:=by
 rintro vs H Q E ⟨a,sc,rfl,hS,h63,hQ⟩;delta lC;right;rw[<-ro.hK]at hS;refine Ag nofun Sep.nil hS h63 (λh H1 z1=>?_);right;intro B dx g1 g2 g3;refine rJ nofun (aW z1 g1 g2 g3) (λd1 d2 H2 z2=>⟨rfl,?_⟩);left;refine⟨rfl,?_⟩;left;refine⟨_,16,_,_,_,rfl,z2.at,rfl,rfl,?_⟩;left;refine lI z2 (λa1 e1 H3 z3=>?_);have z3:=vZ z3;left;refine lI z3 (λa2 e2 H4 z4=>?_);have z4:=vZ z4;left;refine aF z4 (by show 2<=10000;omega) (λp H5 z5=>?_);left;have z6:=toF (L:=[pt p (v0 [sK a1,sK a2]),aI R a2 (.lg .turn),aI R a1 (.lg .copy)]) (G:=aE R B dx d1 d2 [] [] [pt dx (.own B),hand h 0]) (F:=[]) z5;clear z1 z2 z3 z4 z5;have im:jW R ([pt p (v0 [sK a1,sK a2]),aI R a2 (.lg .turn),aI R a1 (.lg .copy)]++[]) 2 (sK p) gY:=⟨p,_,rfl,lf,aT.cons (i:=Itm.row (.lg .copy)) ⟨a1,rfl,by simp⟩ (aT.cons (i:=Itm.row (.lg .turn)) ⟨a2,rfl,by simp⟩ .nil)⟩;have ok:lH [] 2 gY:=⟨by show 2<=30;omega,λi hi=>by
  simp only[li,not_mem_nil,or_false]at hi;rcases hi with rfl|rfl<;>exact True.intro⟩
 refine Aj ro (k:=k-1) (n:=2) (w:=bw) (ns:=[]) (b:=gY) nofun ⟨⟨by decide,by decide⟩,by decide+kernel⟩ rfl (by decide) (by simp) (λw hw=>(by cases hw)) ok im z6 (λl' vs H6 al z7=>?_);left;have ec:cG (bL []) 2 gY=2:=rfl;rw[ec]at z7;have z8:Sep (hand h 0::aE R B dx d1 d2 [(.inr bw,sK l')] av ([]++([pt l' (v0 vs)]++([pt p (v0 [sK a1,sK a2]),aI R a2 (.lg .turn),aI R a1 (.lg .copy)]++[])))) H6:=z7.sub (.cons (.j2 (.j2 .k1)) (.cons .e (.cons .e (.cons .e (.cons .e (.drop .refl))))));generalize eF:[pt p (v0 [sK a1,sK a2]),aI R a2 (.lg .turn),aI R a1 (.lg .copy)]++[]=F at al z8;have bk:ot R ([pt l' (v0 vs)]++F) [(.inr bw,sK l')] o8:=λw b hm=>by
  cases mem_singleton.mp hm;exact⟨l',rfl,l',vs,rfl,lf,al.map λv i=>kN.mono λA=>aa⟩
 clear z7 z6 im eF;right;refine oh (λj U H=>tj R h B dx d1 d2 [(.inr bw,sK l')] ([pt l' (v0 vs)]++F) 0 (sK a) j U H) ⟨_,_,_,_,_,_,_,_,rfl,[],?_⟩ (λj U H hj hI=>?_) (λU H hI=>?_)
 .exact z8
 .left;exact y0 (k:=k) ro hk hj (by decide) rfl bk hI (λσ' H' h=>h)
 .obtain⟨_,_,_,_,_,_,_,_,rfl,Δ,z⟩:=hI;left;exact hQ _
def rX (ro:Ro K R):∀ vs H Q E,fU K 63 vs H Q E->ae tab R 40 66 vs H Q E:=za ro (pc _)
end
def walk {l:W.OpenLaw}{q:Program}{loose:List Str}{XP:(Str->Option Value)->Heap->Prop}{YP:World->Heap->Prop}{d:DefRec}{K:Params->W.Frag}(hn:l.most=some 63)(hdf:d.params.defaults=[])
    (hY:∀ (w:World) (h:Heap),YP w h->(K w.params).In h)
    (F:∀ (w:World) (mg:EN) (fa:Addr) (h:Heap),(K w.params).In h->h.Ns mainGlobals mg->mg d.name=some (.ref fa)->
      ∃ fd:FuncData,(∀ (s:Shared) (u:Value),BindsTo s fd ⟨[u],[]⟩ [("_law_script",u)])/\∀ base:Heap,(K w.params).In base->base.Ns mainGlobals mg->bV l.prog w (K w.params) mg base (tQ l.prog w) 80 fa fd ["_law_script"] (fU (K w.params) 63)):
    W.WalkO q loose XP YP l.row.toRowW d [] (λf vs=>PySem.call f vs):=
  L2.wa (n:=63) (k:=80) (x:="_law_script") (CX:=λw=>tQ l.prog w) (sp:=λw=>fU (K w.params) 63) hn (by decide) hdf ⟨rfl,by decide,by decide⟩ hY F (λ_ _ a ns hl _ hS=>⟨a,ns,rfl,hS,hl,λ_=>rfl⟩) λ_ _ _ _ _ z=>sj z
abbrev Ej:List (Str×V):=[("BOUND",.int 1000000000),("MOST_ROWS",.int 24),("MOST_HOPPED",.int 24),("LONGEST_NAME",.int 8),("MOST_CELLS",.int 60),("LETTERS",.str "abcdefghijklmnopqrstuvwxyz"),("NAMES",.ref 182)]
def Ew (p:Params):L3.xf (K0 p) tab De DW Ej=true:=by kernel_rfl
def El (p:Params):L3.hW (K0 p) tab De 0 tab.fns=true:=by kernel_rfl
end My
open PySem PySem.W PyProof.Rows
set_option maxRecDepth 100000 in
set_option maxHeartbeats 0 in
theorem PySem.Challenge.cw_haulbell_k60_items_are_no_rows_holds : PySem.Challenge.rw_haulbell_k60_items_are_no_rows.Holds := by
  refine holds_law My.AO fun said=>?_
  refine W.holds_open (loose:=My.rh) (N:=14818)
    (q:=My.kP My.pr)
    (Yf:=fun s=>My.CF.map s.heap.get?)
    (Ya:=fun w=>(My.K0 w.params).map fun p=>some p.2)
    (Xt:=fun s=>xlAt (My.kP My.pr) [] s&&recOk PySem.Challenge.rw_haulbell_k60_items_are_no_rows.row.records s)
    (XP:=XL (My.kP My.pr) [])
    (YP:=InK My.K0) My.A0
    (InK.of (as:=My.CF) fun _=>by kernel_rfl) InK.keeps
    (fun s e=>xl_of s (Bool.and_eq_true_iff.mp e).1)
    XL.keeps (by rfl) (by rfl) (by rfl)
    (fun s e=>recFacts_of (Bool.and_eq_true_iff.mp e).2)
    (by rfl) (by assumption) (by decide+kernel)
    ⟨rfl,rfl,rfl,rfl,rfl,by decide+kernel⟩ ?hw ?hc
  case hw=>w_witness2
  refine My.walk (l:=PySem.Challenge.rw_haulbell_k60_items_are_no_rows) rfl rfl (fun w h Y=>Y) ?F
  case F=>
    intro w mg fa h KX G hmg;exact L3.vn KX G hmg (T:=My.tab) (fs:=My.De) (cs:=My.DW) (gs:=My.Ej) (d:=My.lC) (fl:=66) (k:=40) (My.Ew _) (My.El _) (by kernel_rfl) rfl rfl rfl (My.rX ⟨rfl,by kernel_rfl,by kernel_rfl,by kernel_rfl,by kernel_rfl,by kernel_rfl,by kernel_rfl,⟨182,by kernel_rfl,L3.zf (by kernel_rfl)⟩⟩)
